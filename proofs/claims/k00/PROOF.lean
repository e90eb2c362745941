import PyProof.Rows.All
import Wide.All
import OpenK.AllK
import Wide.FinOn
import HandS.ForMost
import HandS.SortKw
import HandS.TupAny
import KE.SortData
import KE.DatumOrd
import HandS.DictComp
import HandS.Conv
import HandS.Walk
import HandS.Star
import HandS.Zip
import HandS.TupSets
import HandS.SetFor
import HandS.ExcIs
import HandS.ExcField
import KE.KExcIs
import KE.GoesEnum
import KE.GoesMore
import KE.KDictZip
import HandS.Wide
import HandS.Style
import KE.KRevSl
import HandS.ExcInit
import HandS.Steps
import HandS.IsInst
import HandS.TryOnly
import HandS.Defaults
import HandS.Exc
import HandS.ExcOwn
import HandS.WordsExc
import HandS.Codes
import HandS.Replace
import KE.KEqSeq
import HandS.Deep
import HandS.Small
import HandS.More
import PySem.Challenge.RW_onelooker_k00_names_and_cells
set_option Elab.async false
set_option linter.all false
set_option maxRecDepth 100000
set_option maxHeartbeats 4000000
namespace R0
open PySem PySem.Spec PyProof.Rows L2
/-! ### sorted(xs), the items any data: the one stable order -/
def sortV (xs : List V) (ds : List PyData) : List V := ((xs.zip ds).mergeSort (PySem.W.dataLe false Prod.snd)).map Prod.fst
def DepLe (n : Nat) (ds : List PyData) : Prop := ∀ d ∈ ds, d.depth ≤ n
theorem dpAll_len {K : PySem.W.Frag} {H : Hp} : ∀ {xs : List V} {ds : List PyData}, DpAll K H xs ds → xs.length = ds.length
  | _, _, .nil => rfl
  | _, _, .cons _ t => congrArg Nat.succ (dpAll_len t)
section
variable {X : Cx} {pins : List (Addr × Obj)} {σ : L2.St} {H : Hp} {s : Shared}
theorem each_rel : ∀ {xs : List V} {its : List Value} {ds : List PyData}, Vals xs its → DpAll X.K H xs ds → PySem.W.EachIs (fun (v : Value) (b : V × PyData) => RelV b.1 v) its (xs.zip ds)
  | _, _, _, .nil, .nil => .nil
  | _, _, _, .cons r t, .cons _ d => .cons r (each_rel t d)
theorem each_reads (I : Inv X pins σ H s) : ∀ {xs : List V} {its : List Value} {ds : List PyData}, Vals xs its → DpAll X.K H xs ds → PySem.W.EachIs (fun (v : Value) (b : V × PyData) => ∃ as, Reads s.heap v b.2 as) its (xs.zip ds)
  | _, _, _, .nil, .nil => .nil
  | _, _, _, .cons r t, .cons h d => .cons (Dp.reads I _ _ _ h r) (each_reads I t d)
theorem each_vals : ∀ {out : List Value} {bs : List (V × PyData)}, PySem.W.EachIs (fun (v : Value) (b : V × PyData) => RelV b.1 v) out bs → Vals (bs.map Prod.fst) out
  | _, _, .nil => .nil
  | _, _, .cons r t => .cons r (each_vals t)
theorem zip_snd : ∀ {xs : List V} {ds : List PyData}, xs.length = ds.length → (xs.zip ds).map Prod.snd = ds
  | [], [], _ => rfl
  | x :: xs, d :: ds, h => congrArg (d :: ·) (zip_snd (Nat.succ.inj h))
def rSortD (K : PySem.W.Frag) : List V → Hp → VK → Prop := fun vs H Q => ∃ (a : Addr) (xs : List V) (ds : List PyData), vs = [.ref a] ∧ SqL K H a xs ∧ DpAll K H xs ds ∧ PySem.W.AllAlike ds ∧ PySem.W.Sortable ds ∧ DepLe 60 ds ∧
  ∀ p, H p = none → Q (.ref p) (upd H p (.lst (sortV xs ds)))
theorem cr_sortD (hu : X.A.units + 64 < cLine) : CallR X (.builtin "sorted") (rSortD X.K) := by
  intro pins s σ H vs us Q I r h
  obtain ⟨a, xs, ds, rfl, hs, hd, hal, hk, hdep, q⟩ := h
  obtain ⟨its, rv, pl, hz⟩ := I.list hs
  obtain ⟨u, rfl, ru⟩ := vals1 r
  obtain rfl : u = Value.ref a := ru
  have el := dpAll_len hd
  have em := zip_snd el
  have ln : (xs.zip ds).length = xs.length := by rw [List.length_zip, ← el, Nat.min_self]
  have lt : its.length = xs.length := rv.length.symm
  refine PySem.W.sorted_data (β := V × PyData) (enc := Prod.snd) (bs := xs.zip ds) (vs := its) (R := fun v b => RelV b.1 v) pl.isList (each_rel rv hd) (each_reads I rv hd) (by rw [em]; exact hal) (by rw [em]; exact hk) (by rw [ln]; exact hz) (fun b hb => ?_) fun out ho hE => ?_
  · have : b.2.depth ≤ 60 := hdep _ (by rw [← em]; exact List.mem_map.mpr ⟨b, hb, rfl⟩)
    omega
  · obtain ⟨e, he⟩ := PyProof.Rows.sortedAll_at s.heap its (List.toArray out)
    have hv := each_vals hE
    refine ⟨.ref (s.heap.objs.size + 1), upd H (s.heap.objs.size + 1) (.lst (sortV xs ds)), I.laid (t' := s.toks) (fun b o z => PyProof.Rows.sortedAll_old z) (Nat.le_succ _) ⟨?_, out, e, hv, he⟩, rfl, q _ (I.hok.fresh (Nat.le_succ _))⟩
    unfold sortV
    rw [List.length_map, List.length_mergeSort, ln]
    exact hz
/-! ### max(t, default=d), t a tuple or a list of ints -/
def maxL (d : Int) : List Int → Int
  | [] => d
  | x :: r => r.foldl (fun a y => if a < y then y else a) x
theorem maxOf_int (x : Int) (r : List Int) : PySem.W.maxOf x r = maxL 0 (x :: r) := by
  unfold PySem.W.maxOf maxL
  congr 1
  funext a y
  by_cases h : a < y
  · rw [if_pos h, if_pos (show PySem.W.DatumOrd.lt a y = true from decide_eq_true h)]
  · rw [if_neg h, if_neg (fun z : PySem.W.DatumOrd.lt a y = true => h (of_decide_eq_true z))]
theorem hold_ints {h : Heap} : ∀ {ns : List Int} {us : List Value}, Vals (ns.map V.int) us → PySem.W.HoldAll h us ns
  | [], _, .nil => ⟨_, .nil⟩
  | n :: ns, _, .cons r t => by
    obtain ⟨k, rfl⟩ := r
    obtain ⟨as, q⟩ := hold_ints t
    exact ⟨_, .cons (.int n k) q⟩
def rMaxD (K : PySem.W.Frag) : List V → List V → Hp → VK → Prop := fun vs zs H Q => ∃ (a : Addr) (ns : List Int) (d : Int), vs = [.ref a] ∧ zs = [.int d] ∧ (SqT K H a (ns.map V.int) ∨ SqL K H a (ns.map V.int)) ∧ Q (.int (maxL d ns)) H
theorem ck_maxD (hc : X.calm = true) (hu : X.A.units + 64 < cLine) : CallRK X (.builtin "max") ["default"] (rMaxD X.K) := by
  intro pins s σ H xs zs us ws Q I r rz h
  obtain ⟨a, ns, d, rfl, rfl, hs, q⟩ := h
  obtain ⟨u, rfl, ru⟩ := vals1 r
  obtain rfl : u = Value.ref a := ru
  obtain ⟨w1, rfl, rw1⟩ := vals1 rz
  have fin : ∀ (i : Nat) (v : Value) (h' : Heap) (tk : Nat) (y : Int) (ys : List Int), ns = y :: ys → PySem.W.Holds h' v (PySem.W.maxOf y ys) → (∀ b o, s.heap.get? b = some o → h'.get? b = some o) → EP X pins σ Q v { s with heap := h', toks := tk } := fun i v h' tk y ys e hv k => by
    obtain ⟨as, hv⟩ := hv
    subst e
    have hv' : Reads h' v (.int (PySem.W.maxOf y ys)) as := hv
    cases hv'
    refine ⟨.int (PySem.W.maxOf y ys), H, I.kept k, ⟨_, rfl⟩, ?_⟩
    rw [maxOf_int]
    exact q
  have fin0 : ns = [] → ∀ (h' : Heap) (tk : Nat), (∀ b o, s.heap.get? b = some o → h'.get? b = some o) → EP X pins σ Q w1 { s with heap := h', toks := tk } := fun e h' tk k => by
    subst e
    exact ⟨.int d, H, I.kept k, rw1, q⟩
  rcases hs with hs | hs
  · obtain ⟨its, rv, ht, hz⟩ := I.tuple hs
    refine PySem.W.max_tuple_datum_default (xs := ns) (vs := its.toArray) (I.ok.hd hc) ht ?_ ?_ fin0 fun y ys i v h' tk e _ hv k => fin i v h' tk y ys e hv k
    · simpa using hold_ints (h := s.heap) rv
    · show X.A.units + 1 + 0 < cLine
      omega
  · obtain ⟨its, rv, pl, hz⟩ := I.list hs
    refine PySem.W.max_list_datum_default (xs := ns) (vs := its.toArray) (I.ok.hd hc) pl.isList ?_ ?_ fin0 fun y ys i v h' tk e _ hv k => fin i v h' tk y ys e hv k
    · simpa using hold_ints (h := s.heap) rv
    · show X.A.units + 1 + 0 < cLine
      omega
end
end R0

/-! a dict comprehension whose keys are tuples of ints and texts -/
namespace R1
open PySem PySem.Spec PyProof.Rows L2
/-- one entry more, the key a tracked tuple -/
theorem tput {X : Cx} {pn : List (Addr × Obj)} {τ : L2.St} {G : Hp} {s : Shared} {E : Value → Shared → Prop} {D b : Addr} {es : List (List Key × V)} {k : List Key} {z : V} {r : Value} {Q : Unit → Shared → Prop} (hu : X.A.units + 1 < cLine) (J : Inv X pn τ G s)
    (gD : G D = some (.dT es)) (gb : G b = some (.tup (k.map kV))) (hn : es.length < sizeLine) (rz : RelV z r) (q : ∀ s', Inv X pn τ (upd G D (.dT (putK es k z))) s' → Q () s') : wpAny (model X.prog X.w) X.A (dictSet D (.ref b) r) Q E s := by
  obtain ⟨e1, e2, ks, rk, dd⟩ := dt_of J.hok gD
  have f1 : ks.length ≤ sizeLine := Paired.length rk ▸ e1
  have f2 := length_putK es k z
  refine wpAny_dictSet_heap (hsz := f1) (Nat.lt_of_succ_lt hu) (key_of J.hok gb) dd fun g' dg sb => q _ ?_
  obtain ⟨w0, w1, w2, a0, a1, a2, a3, _, a4⟩ := dg
  have kt := (rk.put k gb rz).keeps (H' := upd G D (.dT (putK es k z))) fun c ys ec => by
    rw [upd_ne (ne_of ec gD (fun y => nomatch y))]
    exact ec
  exact d_write J (by rw [gD]; trivial) sb ⟨w0, a0⟩ ⟨by omega, e2, _, kt, w0, w1, w2, a0, a1, a2, a3, a4⟩
/-- the reading of {k: v for target in iter if ..} with such keys -/
def tDcT (src : TI) (g : TG) (tt : TT) (tk tv : TE) (own : List Nat) : TE := fun σ H Q => src σ H fun J G => ∀ D, G D = none → ∃ W : Nat → Nat → Hp → Prop, (∃ m, W 0 m (upd G D (.dT []))) ∧ ∀ i m F, W i m F →
  (J.stop i F ∧ Q (.ref D) F) ∨ (J.go i F ∧ ∃ Nx : Hp → Prop, (∀ F', Nx F' → ∃ m', m' < m ∧ W (i + 1) m' F') ∧ ∀ x F', J.yld i F x F' → g x (wipe σ own) F' fun τ F2 => wipe τ own = wipe σ own ∧ tt τ F2 fun c F3 =>
    if c = true then tk τ F3 fun y F4 => tv τ F4 fun z F5 => ∃ es k b, y = .ref b ∧ F5 b = some (.tup (k.map kV)) ∧ F5 D = some (.dT es) ∧ es.length < sizeLine ∧ Nx (upd F5 D (.dT (putK es k z))) else Nx F3)
section
variable {X : Cx} {kx vx tg iter : Expr} {ifs : List Expr} {scope : Scope} {own : List (Str × Nat)} {pos : Pos} {src : TI} {g : TG} {tt : TT} {tk tv : TE}
theorem dcT_core {pins : List (Addr × Obj)} {s : Shared} {σ : L2.St} {H : Hp} {Q : VK} {pos' : Pos} {use : Option (Value → Sem Unit)} {Qf : Value → Shared → Prop} (I : Inv X pins σ H s)
    (hu : X.A.units + 64 < cLine) (hc : X.calm = true) (hN : X.N.Nodup) (hi : PI X tg iter src) (ok : BlkOk X.N X.env.scope scope own)
    (hg : ∀ (s : Shared) (G : Hp) (C : Addr) (cl : List (Str × Addr)) (fp : List Addr), PG (X.blk s G scope (compEnvC scope cl C X.env) fp) tg g)
    (ht : ∀ (s : Shared) (G : Hp) (C : Addr) (cl : List (Str × Addr)) (fp : List Addr), PTs (X.blk s G scope (compEnvC scope cl C X.env) fp) ifs tt)
    (hk : ∀ (s : Shared) (G : Hp) (C : Addr) (cl : List (Str × Addr)) (fp : List Addr), PE (X.blk s G scope (compEnvC scope cl C X.env) fp) kx tk)
    (hv : ∀ (s : Shared) (G : Hp) (C : Addr) (cl : List (Str × Addr)) (fp : List Addr), PE (X.blk s G scope (compEnvC scope cl C X.env) fp) vx tv)
    (hs : ∀ x, foldedSetIterable iter X.env x = pure x) (h : tDcT src g tt tk tv (own.map (·.2)) σ H Q)
    (hR : ∀ D C s' m F, Inv X pins σ F s' → Q (.ref D) F → s'.heap.Ns C m → FpOk X pins F C → compPost (model X.prog X.w) X.A X.xe use Qf (.ref D) C (.ok .next) s') :
    wpAny (model X.prog X.w) X.A (comprehension (.DictComp kx vx [⟨tg, iter, ifs, 0⟩] scope pos) scope X.env pos' newDict false (eval iter X.env) use) Qf X.xe s := by
  have fr : ∀ y ∈ scope.names, y.2 = .free → ∃ c, X.env.cells.lookup y.1 = some c := fun y hy e => (ok.free y hy e).elim (fun z => I.ok.has _ (.inl z)) fun z => I.ok.has _ (.inr z)
  refine wpAny_comprehension_free (use := use) rfl hs (closure_ok fr) ok.kind (fun y hy e => by rw [ok.uniq y hy, e]) (thn (hi.run pins s σ H _ I h) fun xv s1 hx => thn hx fun iv s2 a2 => ?_)
  obtain ⟨it, fp, tn, J, G, rfl, K2, T, t2, p2, q⟩ := a2
  refine wpAny_newObj_type (newEnv_comp ?_)
  obtain ⟨W, ⟨m0, w0⟩, turn⟩ := q s2.heap.objs.size (K2.hok.fresh (Nat.le_refl _))
  generalize eD : s2.heap.objs.size = D at w0 turn
  have nD : G D = none := K2.hok.fresh (Nat.le_of_eq eD)
  -- the new dict
  generalize e3 : ({ s2 with heap := s2.heap.push { cls := .type "dict", data := .dict #[] } } : Shared) = s3
  have K3 : Inv X pins σ (upd G D (.dT [])) s3 := by
    subst e3
    refine K2.laid (t' := s2.toks) (fun b o z => Heap.get?_push_of_some _ z) (Nat.le_of_eq eD) ?_
    subst eD
    exact dt_empty s2.heap K2.big
  have z3 : s3.heap = s2.heap.push { cls := .type "dict", data := .dict #[] } := by subst e3; rfl
  have p3 : ∀ b ∈ fp, FpOk X pins (upd G D (.dT [])) b ∧ b < s3.heap.objs.size := fun b hb => by
    obtain ⟨o, y, _⟩ := T.obj _ _ t2 b hb
    have lt : b < s2.heap.objs.size := Heap.lt_size y
    refine ⟨⟨?_, (p2 b hb).2⟩, by rw [z3, Heap.size_push]; exact Nat.lt_succ_of_lt lt⟩
    rw [upd_ne (by rw [← eD]; exact Nat.ne_of_lt lt)]
    exact (p2 b hb).1
  have t3 : tn 0 s3.heap := T.keep _ _ _ t2 fun b _ o y => by rw [z3]; exact Heap.get?_push_of_some _ y
  have K4 := block_start K3 ok hN p3
  have qg := hg s3 (upd G D (.dT [])) s3.heap.objs.size (cellsFrom (s3.heap.objs.size + 1) scope.names (cloFrom X.env.cells scope.names [])) fp
  have qt := ht s3 (upd G D (.dT [])) s3.heap.objs.size (cellsFrom (s3.heap.objs.size + 1) scope.names (cloFrom X.env.cells scope.names [])) fp
  have qk := hk s3 (upd G D (.dT [])) s3.heap.objs.size (cellsFrom (s3.heap.objs.size + 1) scope.names (cloFrom X.env.cells scope.names [])) fp
  have qv := hv s3 (upd G D (.dT [])) s3.heap.objs.size (cellsFrom (s3.heap.objs.size + 1) scope.names (cloFrom X.env.cells scope.names [])) fp
  have np : ∀ b ∈ fp, (upd G D (.dT [])) b = none := fun b hb => (p3 b hb).1.1
  show codeAny _ _ (.compStart (.DictComp kx vx [⟨tg, iter, ifs, 0⟩] scope pos) 0 (.ref it) (.ref D) (compEnvC scope (cellsFrom (s3.heap.objs.size + 1) scope.names (cloFrom X.env.cells scope.names [])) s3.heap.objs.size X.env)) (compPost (model X.prog X.w) X.A X.xe use _ (.ref D) s3.heap.objs.size) { s3 with heap := pushCells (s3.heap.push { cls := .type "dict", data := .dict #[] }) scope.names }
  generalize ec : compEnvC scope (cellsFrom (s3.heap.objs.size + 1) scope.names (cloFrom X.env.cells scope.names [])) s3.heap.objs.size X.env = ce at K4 qg qt qk qv ⊢
  have eL : ce.locals = s3.heap.objs.size := by subst ec; rfl
  generalize eG : upd G D (.dT []) = G3 at K3 K4 qg qt qk qv w0 np p3
  generalize e4 : ({ s3 with heap := pushCells (s3.heap.push { cls := .type "dict", data := .dict #[] }) scope.names } : Shared) = s4 at K4 ⊢
  have t4 : tn 0 s4.heap := T.keep _ _ _ t3 fun b _ o y => by subst e4; exact pushCells_keeps _ _ _ _ (Heap.get?_push_of_some _ y)
  have still : ∀ {τ : L2.St} {F : Hp} {s' : Shared}, Inv (X.blk s3 G3 scope ce fp) [] τ F s' → (∀ b ∈ fp, F b = none) → ∀ b ∈ fp, FpOk (X.blk s3 G3 scope ce fp) [] F b := fun {τ F s'} L n b hb =>
    ⟨n b hb, (L.ok.exf b hb).1, L.ok.exfs b hb, .inl hb, fun x c y => (L.ok.exf b hb).2 x c y, fun p hp => absurd (show p ∈ ([] : List (Addr × Obj)) ++ [] from hp) (by simp)⟩
  have go : codeAny (model X.prog X.w) X.A (.compLoop (.DictComp kx vx [⟨tg, iter, ifs, 0⟩] scope pos) 0 (.ref it) (.ref D) ce) (compPost (model X.prog X.w) X.A X.xe use Qf (.ref D) s3.heap.objs.size) s4 := by
    refine compLoop_anyD (fun n s' => ∃ i F, Inv (X.blk s3 G3 scope ce fp) [] (wipe σ (own.map (·.2))) F s' ∧ tn i s'.heap ∧ (∀ b ∈ fp, F b = none) ∧ W i n F) ?_ m0 ⟨0, G3, K4, t4, np, w0⟩
    rintro n s5 ⟨i, F, L, t5, n5, w5⟩
    rcases turn i n F w5 with ⟨stop, qq⟩ | ⟨hgo, Nx, hNx, step⟩
    · refine thnF (T.done (X.blk s3 G3 scope ce fp) rfl rfl rfl hc i [] s5 _ F (fun _ _ => False) L (still L n5) t5 stop) fun r s6 ⟨hr, L6⟩ => ?_
      subst hr
      have M : Inv X pins σ F s6 := K3.call' (ch := fp) L6.os L6.base L6.hok L6.bare fun b hb => ⟨(p3 b hb).1.2.2.2.1, (p3 b hb).1.2.1, (p3 b hb).1.2.2.2.2.1, (p3 b hb).1.2.2.2.2.2⟩
      have nC : F s3.heap.objs.size = none := eL ▸ L6.free
      obtain ⟨m, hn, _⟩ := L6.loc
      have hn' : s6.heap.Ns ce.locals m := hn
      rw [eL] at hn'
      exact hR D s3.heap.objs.size s6 m F M qq hn' (K3.fpOk (Nat.le_refl _) nC)
    · refine thnF (T.item (X.blk s3 G3 scope ce fp) rfl rfl rfl hc i [] s5 _ F (fun _ _ => False) L (still L n5) t5 hgo) fun r s6 ⟨u, hr, h6⟩ => ?_
      subst hr
      refine thnF h6 fun _ s7 ⟨x, F7, L7, r7, y7, t7, n7⟩ => ?_
      have L7' := L7.pinned (still L7 n7) (T.obj _ _ t7)
      refine thnF (qg.run _ s7 _ F7 x u _ L7' r7 (step x F7 y7)) fun _ s8 ⟨τ, F8, L8, hw, q8⟩ => ?_
      refine thnF (qt.run _ s8 τ F8 _ L8 q8) fun c s9 ⟨F9, L9, q9⟩ => ?_
      have fin : ∀ {s' : Shared} {F' : Hp}, Inv (X.blk s3 G3 scope ce fp) ([] ++ pinsAt fp s7.heap) τ F' s' → Nx F' → ∃ m, m < n ∧ ∃ i F', Inv (X.blk s3 G3 scope ce fp) [] (wipe σ (own.map (·.2))) F' s' ∧ tn i s'.heap ∧ (∀ b ∈ fp, F' b = none) ∧ W i m F' := fun {s' F'} L' nx => by
        obtain ⟨m', hm, w'⟩ := hNx F' nx
        have pin : ∀ b ∈ fp, ∀ o, s7.heap.get? b = some o → s'.heap.get? b = some o ∧ F' b = none := fun b hb o y =>
          have z := L'.pin (b, o) (List.mem_append_right _ (List.mem_append_right _ (mem_pinsAt hb y)))
          ⟨z.1, z.2.1⟩
        refine ⟨m', hm, i + 1, F', (L'.unpinned (pins := [])).weak (by rw [← hw, wipe_length]) (fun j v y => ?_), T.keep _ _ _ t7 fun b hb o y => (pin b hb o y).1, fun b hb => ?_, w'⟩
        · rw [← hw] at y
          exact (wipe_some y).1
        · obtain ⟨o, y, _⟩ := T.obj _ _ t7 b hb
          exact (pin b hb o y).2
      cases c with
      | false =>
        simp only [Bool.false_eq_true, if_false] at q9 ⊢
        exact fin L9 q9
      | true =>
        simp only [if_true] at q9 ⊢
        refine thnF (qk.run _ s9 τ F9 _ L9 q9) fun a1 s10 ⟨yk, F10, L10, r10, q10⟩ => ?_
        refine thnF (qv.run _ s10 τ F10 _ L10 q10) fun a2 s11 ⟨yv, F11, L11, r11, es, k, b, ek, hb, hD, hz, nx⟩ => ?_
        subst ek
        cases (show a1 = Value.ref b from r10)
        exact tput (X := X.blk s3 G3 scope ce fp) (by show X.A.units + 1 < cLine; omega) L11 hD hb hz r11 fun s12 L12 => fin L12 nx
  exact codeAny_compStart_dict go (T.self X.A 0 _ _ _ t4 go)
theorem pe_dcT (hu : X.A.units + 64 < cLine) (hc : X.calm = true) (hN : X.N.Nodup) (hi : PI X tg iter src) (ok : BlkOk X.N X.env.scope scope own)
    (hg : ∀ (s : Shared) (G : Hp) (C : Addr) (cl : List (Str × Addr)) (fp : List Addr), PG (X.blk s G scope (compEnvC scope cl C X.env) fp) tg g)
    (ht : ∀ (s : Shared) (G : Hp) (C : Addr) (cl : List (Str × Addr)) (fp : List Addr), PTs (X.blk s G scope (compEnvC scope cl C X.env) fp) ifs tt)
    (hk : ∀ (s : Shared) (G : Hp) (C : Addr) (cl : List (Str × Addr)) (fp : List Addr), PE (X.blk s G scope (compEnvC scope cl C X.env) fp) kx tk)
    (hv : ∀ (s : Shared) (G : Hp) (C : Addr) (cl : List (Str × Addr)) (fp : List Addr), PE (X.blk s G scope (compEnvC scope cl C X.env) fp) vx tv)
    (hs : ∀ x, foldedSetIterable iter X.env x = pure x := by intro _; rfl) : PE X (.DictComp kx vx [⟨tg, iter, ifs, 0⟩] scope pos) (tDcT src g tt tk tv (own.map (·.2))) := by
  refine ⟨fun pins s σ H Q I h => ?_⟩
  rw [arm_eval_DictComp]
  refine dcT_core I hu hc hN hi ok hg ht hk hv hs h fun D C s' m F J q hn f => ⟨m, hn, fun h'' sb => ?_⟩
  obtain ⟨y0, y1, y2, y3, y4, y5⟩ := f
  exact ⟨.ref D, F, J.turned (t' := s'.toks) (fun b o hb z => (sb.2 b hb).trans z) y0 y1 y3 y4 y5, rfl, q⟩
/-- what is stored behind a comprehension's frame -/
theorem dc_store {pins : List (Addr × Obj)} {σ : L2.St} {F : Hp} {s' : Shared} {i : Nat} {y : Str} {py : Pos} {D C : Addr} {m : Str → Option Value} {Ds : Ends} (hN : X.N.Nodup) (hy : X.N[i]? = some y) (hl : X.env.scope.names.lookup y = some .local) (J : Inv X pins σ F s')
    (q : gName i (.ref D) σ F Ds.nx) (hn : s'.heap.Ns C m) (f : FpOk X pins F C) :
    compPost (model X.prog X.w) X.A X.xe (some (assign (.Name y py) X.env)) (fun _ s'' => SP X pins Ds .next s'') (.ref D) C (.ok .next) s' := by
  show wpAny _ _ (assign (.Name y py) X.env (.ref D)) _ _ _
  refine wpAny_assign_Name (store_ok2 (v := V.ref D) J hN hy (.inl hl) rfl (fun s2 J2 ⟨a, sb, ha⟩ => ?_) (.inr hl))
  obtain ⟨y0, y1, y2, y3, y4, y5⟩ := f
  have ne : C ≠ a := by
    rcases ha with z | z
    · rw [z]; exact y1
    · exact fun e => y4 y a z e.symm
  exact ⟨m, hn.sameBut sb ne, fun h3 sb3 => ⟨_, F, J2.turned (t' := s2.toks) (fun b o hb z => (sb3.2 b hb).trans z) y0 y1 y3 y4 y5, q⟩⟩
theorem ps_setDcT {i : Nat} {y : Str} {py spos : Pos} (hy : X.N[i]? = some y) (hl : X.env.scope.names.lookup y = some .local) (hsw : swapsWith (.DictComp kx vx [⟨tg, iter, ifs, 0⟩] scope pos) (some (.Name y py)) spos.line X.env = pure true)
    (hu : X.A.units + 64 < cLine) (hc : X.calm = true) (hN : X.N.Nodup) (hi : PI X tg iter src) (ok : BlkOk X.N X.env.scope scope own)
    (hg : ∀ (s : Shared) (G : Hp) (C : Addr) (cl : List (Str × Addr)) (fp : List Addr), PG (X.blk s G scope (compEnvC scope cl C X.env) fp) tg g)
    (ht : ∀ (s : Shared) (G : Hp) (C : Addr) (cl : List (Str × Addr)) (fp : List Addr), PTs (X.blk s G scope (compEnvC scope cl C X.env) fp) ifs tt)
    (hk : ∀ (s : Shared) (G : Hp) (C : Addr) (cl : List (Str × Addr)) (fp : List Addr), PE (X.blk s G scope (compEnvC scope cl C X.env) fp) kx tk)
    (hv : ∀ (s : Shared) (G : Hp) (C : Addr) (cl : List (Str × Addr)) (fp : List Addr), PE (X.blk s G scope (compEnvC scope cl C X.env) fp) vx tv)
    (hs : ∀ x, foldedSetIterable iter X.env x = pure x := by intro _; rfl) : PS X (.Assign [.Name y py] (.DictComp kx vx [⟨tg, iter, ifs, 0⟩] scope pos) spos) (tAsg (tDcT src g tt tk tv (own.map (·.2))) (gName i)) := by
  refine ⟨fun pins s σ H Ds I h => ?_⟩
  rw [exec_Assign_Name_used _ _ _ _ hsw]
  refine wpAny_bind (wpAny_standAt (wpAny_bind ?_))
  show wpAny _ X.A (do let _ ← comprehension (.DictComp kx vx [⟨tg, iter, ifs, 0⟩] scope pos) scope X.env (firstIterPos [⟨tg, iter, ifs, 0⟩] pos) newDict false (eval iter X.env) (some (assign (.Name y py) X.env))) _ _ s
  have h' : tDcT src g tt tk tv (own.map (·.2)) σ H (fun x G => gName i x σ G Ds.nx) := h
  exact wpAny_bind (thn (dcT_core (Qf := fun _ s' => SP X pins Ds .next s') I hu hc hN hi ok hg ht hk hv hs h' fun D C s' m F J q hn f => dc_store hN hy hl J q hn f) fun _ s' hq => wpAny_pure (wpAny_pure hq))
theorem ps_setDcK {i : Nat} {y : Str} {py spos : Pos} (hy : X.N[i]? = some y) (hl : X.env.scope.names.lookup y = some .local) (hsw : swapsWith (.DictComp kx vx [⟨tg, iter, ifs, 0⟩] scope pos) (some (.Name y py)) spos.line X.env = pure true)
    (hc : X.calm = true) (hN : X.N.Nodup) (hi : PI X tg iter src) (ok : BlkOk X.N X.env.scope scope own)
    (hg : ∀ (s : Shared) (G : Hp) (C : Addr) (cl : List (Str × Addr)) (fp : List Addr), PG (X.blk s G scope (compEnvC scope cl C X.env) fp) tg g)
    (ht : ∀ (s : Shared) (G : Hp) (C : Addr) (cl : List (Str × Addr)) (fp : List Addr), PTs (X.blk s G scope (compEnvC scope cl C X.env) fp) ifs tt)
    (hk : ∀ (s : Shared) (G : Hp) (C : Addr) (cl : List (Str × Addr)) (fp : List Addr), PE (X.blk s G scope (compEnvC scope cl C X.env) fp) kx tk)
    (hv : ∀ (s : Shared) (G : Hp) (C : Addr) (cl : List (Str × Addr)) (fp : List Addr), PE (X.blk s G scope (compEnvC scope cl C X.env) fp) vx tv)
    (hs : ∀ x, foldedSetIterable iter X.env x = pure x := by intro _; rfl) : PS X (.Assign [.Name y py] (.DictComp kx vx [⟨tg, iter, ifs, 0⟩] scope pos) spos) (tAsg (tDc src g tt tk tv (own.map (·.2))) (gName i)) := by
  refine ⟨fun pins s σ H Ds I h => ?_⟩
  rw [exec_Assign_Name_used _ _ _ _ hsw]
  refine wpAny_bind (wpAny_standAt (wpAny_bind ?_))
  show wpAny _ X.A (do let _ ← comprehension (.DictComp kx vx [⟨tg, iter, ifs, 0⟩] scope pos) scope X.env (firstIterPos [⟨tg, iter, ifs, 0⟩] pos) newDict false (eval iter X.env) (some (assign (.Name y py) X.env))) _ _ s
  have h' : tDc src g tt tk tv (own.map (·.2)) σ H (fun x G => gName i x σ G Ds.nx) := h
  exact wpAny_bind (thn (dc_core (Qf := fun _ s' => SP X pins Ds .next s') hc hN I hi ok hg ht hk hv hs h' fun D C s' m F J q hn f => dc_store hN hy hl J q hn f) fun _ s' hq => wpAny_pure (wpAny_pure hq))
theorem sw_trueD {py : Pos} {y : Str} {l : Nat} {gs : List Comprehension} {env : Env} (hk : env.scope.kind = .function) (hy : env.scope.names.lookup y = some .local) (hl : (py.line == pos.line) = true)
    (ha : (scope.names.any fun (n, k) => n == y && (k == .local || k == .cell)) = false) : swapsWith (.DictComp kx vx gs scope pos) (some (.Name y py)) l env = pure true := by
  have e1 : env.kindOf y = some .local := hy
  have e2 : env.blockKind = .function := by unfold Env.blockKind; rw [hk]; rfl
  unfold swapsWith
  simp only [e2, e1, ha, Expr.pos, hl]
  rfl
theorem PE.or {e : Expr} {t t' : TE} (h : PE X e t) (h' : PE X e t') : PE X e (fun σ H Q => t σ H Q ∨ t' σ H Q) := ⟨fun pins s σ H Q I q => q.elim (h.run pins s σ H Q I) (h'.run pins s σ H Q I)⟩
theorem PS.or {st : Stmt} {t t' : TS} (h : PS X st t) (h' : PS X st t') : PS X st (fun D σ H => t D σ H ∨ t' D σ H) := ⟨fun pins s σ H D I q => q.elim (h.run pins s σ H D I) (h'.run pins s σ H D I)⟩
theorem PI.or {tg it : Expr} {t t' : TI} (h : PI X tg it t) (h' : PI X tg it t') : PI X tg it (fun σ H R => t σ H R ∨ t' σ H R) := ⟨fun pins s σ H R I q => q.elim (h.run pins s σ H R I) (h'.run pins s σ H R I)⟩
theorem pi_listK {K : PySem.W.Frag} {tg it : Expr} {tl : TE} (e : X.K = K) (h : PE X it tl) : PI X tg it (iList K tl) := by subst e; exact pi_list h
theorem pi_tupK {K : PySem.W.Frag} {tg it : Expr} {tl : TE} (e : X.K = K) (h : PE X it tl) : PI X tg it (iTup K tl) := by subst e; exact pi_tup h
theorem pa_starK {K : PySem.W.Frag} {e : Expr} {es : List Expr} {te : TE} {t : TA} {p : Pos} (hK : X.K = K) (he : PE X e te) (hr : PA X es t) (hs : starEach (.Starred e p :: es) X.env = (true, eval e X.env) :: starEach es X.env := by rfl) : PA X (.Starred e p :: es) (StX.tStar K te t) := by subst hK; exact StX.pa_star he hr hs
theorem pg_tupK {K : PySem.W.Frag} {es : List Expr} {k n : Nat} {p : Pos} {t : TGs} (hK : X.K = K) (hc : X.calm = true) (h : PGs X es t) (hn : (assignEach es X.env).length = n := by rfl) (hst : (assignEach es X.env).findIdx? (·.1) = none := by rfl) : PG X (.Tuple es k p) (gTup K n t) := by subst hK; exact pg_tup hc h hn hst
end
section
variable {J : It} {n : Nat} {G : Hp → Prop} {Y : Nat → Hp → V → Hp → Prop} {g : TG} {tt : TT} {tk tv : TE} {vs : List Nat} {σ : L2.St} {H1 : Hp} {D : Addr} {Qd : Hp → Prop}
theorem dT_it (w : Walk J n G Y) (Pv : Nat → Hp → Prop) (h0 : Pv 0 (upd H1 D (.dT []))) (hG : ∀ i H, i ≤ n → Pv i H → G H)
    (hs : ∀ i x H H', i < n → Pv i H → Y i H x H' → g x (wipe σ vs) H' fun τ F2 => wipe τ vs = wipe σ vs ∧ tt τ F2 fun c F3 =>
      if c = true then tk τ F3 fun y F4 => tv τ F4 fun z F5 => ∃ es k b, y = .ref b ∧ F5 b = some (.tup (k.map kV)) ∧ F5 D = some (.dT es) ∧ es.length < sizeLine ∧ Pv (i + 1) (upd F5 D (.dT (putK es k z))) else Pv (i + 1) F3) (hd : ∀ H, Pv n H → Qd H) :
    ∃ W : Nat → Nat → Hp → Prop, (∃ m, W 0 m (upd H1 D (.dT []))) ∧ ∀ i m F, W i m F → (J.stop i F ∧ Qd F) ∨ (J.go i F ∧ ∃ Nx : Hp → Prop, (∀ F', Nx F' → ∃ m', m' < m ∧ W (i + 1) m' F') ∧ ∀ x F', J.yld i F x F' → g x (wipe σ vs) F' fun τ F2 => wipe τ vs = wipe σ vs ∧ tt τ F2 fun c F3 =>
      if c = true then tk τ F3 fun y F4 => tv τ F4 fun z F5 => ∃ es k b, y = .ref b ∧ F5 b = some (.tup (k.map kV)) ∧ F5 D = some (.dT es) ∧ es.length < sizeLine ∧ Nx (upd F5 D (.dT (putK es k z))) else Nx F3) := by
  refine ⟨fun i m F => i + m = n ∧ Pv i F, ⟨n, by omega, h0⟩, fun i m F hW => ?_⟩
  obtain ⟨hm, p⟩ := hW
  have q := hG i F (by omega) p
  by_cases lt : i < n
  · exact .inr ⟨w.goes i F lt q, Pv (i + 1), fun F' p' => ⟨m - 1, by omega, by omega, p'⟩, fun x F' y => hs i x F F' lt p (w.yields i F x F' lt q y)⟩
  · obtain rfl : i = n := by omega
    exact .inl ⟨w.stops F q, hd F p⟩
theorem dK_it (w : Walk J n G Y) (Pv : Nat → Hp → Prop) (h0 : Pv 0 (upd H1 D (.dK []))) (hG : ∀ i H, i ≤ n → Pv i H → G H)
    (hs : ∀ i x H H', i < n → Pv i H → Y i H x H' → g x (wipe σ vs) H' fun τ F2 => wipe τ vs = wipe σ vs ∧ tt τ F2 fun c F3 =>
      if c = true then tk τ F3 fun y F4 => tv τ F4 fun z F5 => ∃ es k, y = kV k ∧ F5 D = some (.dK es) ∧ es.length < sizeLine ∧ Pv (i + 1) (upd F5 D (.dK (putK es k z))) else Pv (i + 1) F3) (hd : ∀ H, Pv n H → Qd H) :
    ∃ W : Nat → Nat → Hp → Prop, (∃ m, W 0 m (upd H1 D (.dK []))) ∧ ∀ i m F, W i m F → (J.stop i F ∧ Qd F) ∨ (J.go i F ∧ ∃ Nx : Hp → Prop, (∀ F', Nx F' → ∃ m', m' < m ∧ W (i + 1) m' F') ∧ ∀ x F', J.yld i F x F' → g x (wipe σ vs) F' fun τ F2 => wipe τ vs = wipe σ vs ∧ tt τ F2 fun c F3 =>
      if c = true then tk τ F3 fun y F4 => tv τ F4 fun z F5 => ∃ es k, y = kV k ∧ F5 D = some (.dK es) ∧ es.length < sizeLine ∧ Nx (upd F5 D (.dK (putK es k z))) else Nx F3) := by
  refine ⟨fun i m F => i + m = n ∧ Pv i F, ⟨n, by omega, h0⟩, fun i m F hW => ?_⟩
  obtain ⟨hm, p⟩ := hW
  have q := hG i F (by omega) p
  by_cases lt : i < n
  · exact .inr ⟨w.goes i F lt q, Pv (i + 1), fun F' p' => ⟨m - 1, by omega, by omega, p'⟩, fun x F' y => hs i x F F' lt p (w.yields i F x F' lt q y)⟩
  · obtain rfl : i = n := by omega
    exact .inl ⟨w.stops F q, hd F p⟩
end
end R1

namespace R1
open PySem PySem.Spec PyProof.Rows L2
/-! ### one lemma for every loop and comprehension -/
section
variable {J : It} {n : Nat} {G : Hp → Prop} {Y : Nat → Hp → V → Hp → Prop} {H0 : Hp} {Qd : Hp → Prop} {Body : V → Hp → (Hp → Prop) → Prop}
theorem walk_it (w : Walk J n G Y) (Pv : Nat → Hp → Prop) (h0 : Pv 0 H0) (hG : ∀ i H, i ≤ n → Pv i H → G H)
    (hs : ∀ i x H H', i < n → Pv i H → Y i H x H' → Body x H' (Pv (i + 1))) (hd : ∀ H, Pv n H → Qd H) :
    ∃ W : Nat → Nat → Hp → Prop, (∃ m, W 0 m H0) ∧ ∀ i m F, W i m F → (J.stop i F ∧ Qd F) ∨ (J.go i F ∧ ∃ Nx : Hp → Prop, (∀ F', Nx F' → ∃ m', m' < m ∧ W (i + 1) m' F') ∧ ∀ x F', J.yld i F x F' → Body x F' Nx) := by
  refine ⟨fun i m F => i + m = n ∧ Pv i F, ⟨n, by omega, h0⟩, fun i m F hW => ?_⟩
  obtain ⟨hm, p⟩ := hW
  have q := hG i F (by omega) p
  by_cases lt : i < n
  · exact .inr ⟨w.goes i F lt q, Pv (i + 1), fun F' p' => ⟨m - 1, by omega, by omega, p'⟩, fun x F' y => hs i x F F' lt p (w.yields i F x F' lt q y)⟩
  · obtain rfl : i = n := by omega
    exact .inl ⟨w.stops F q, hd F p⟩
end
/-! ### two lists alike, item by item -/
section
variable {α : Type} {R S : V → α → Prop}
def Al (R : V → α → Prop) (xs : List V) (rs : List α) : Prop := xs.length = rs.length ∧ ∀ (i : Nat) (x : V) (r : α), xs[i]? = some x → rs[i]? = some r → R x r
theorem Al.nil : Al R [] [] := ⟨rfl, fun i x r h => by simp at h⟩
theorem Al.mono {xs : List V} {rs : List α} (h : Al R xs rs) (f : ∀ x r, R x r → S x r) : Al S xs rs := ⟨h.1, fun i x r a b => f x r (h.2 i x r a b)⟩
theorem Al.snoc {xs : List V} {rs : List α} {x : V} {r : α} (h : Al R xs rs) (q : R x r) : Al R (xs ++ [x]) (rs ++ [r]) := by
  refine ⟨by simp [h.1], fun i y t hy ht => ?_⟩
  by_cases lt : i < xs.length
  · rw [List.getElem?_append_left lt] at hy
    rw [List.getElem?_append_left (by rw [← h.1]; exact lt)] at ht
    exact h.2 i y t hy ht
  · rw [List.getElem?_append_right (by omega)] at hy
    rw [List.getElem?_append_right (by rw [← h.1]; omega)] at ht
    rw [h.1] at hy
    have e : i - rs.length = 0 := by
      cases z : i - rs.length with
      | zero => rfl
      | succ k => rw [z] at hy; simp at hy
    rw [e] at hy ht
    cases hy; cases ht
    exact q
theorem Al.at {xs : List V} {rs : List α} (h : Al R xs rs) {i : Nat} {x : V} (hx : xs[i]? = some x) : ∃ r, rs[i]? = some r ∧ R x r := by
  have lt : i < xs.length := by
    by_cases z : i < xs.length
    · exact z
    · rw [List.getElem?_eq_none (by omega)] at hx; cases hx
  have e : rs[i]? = some (rs[i]'(by rw [← h.1]; exact lt)) := List.getElem?_eq_getElem _
  exact ⟨_, e, h.2 i x _ hx e⟩
theorem Al.one {x : V} {r : α} (q : R x r) : Al R [x] [r] := (Al.nil (R := R)).snoc q
end
end R1

namespace R1
open PySem PySem.Spec PyProof.Rows L2
/-! ### len(set(x)), x a list or a tuple of ints, any of them twice -/
def dist (ns : List Int) : List Int := ns.foldl step_dedup []
theorem firstMet_dist (ns : List Int) : firstMet (fun i => ns.getD i 0) ns.length = dist ns := by
  unfold firstMet dist
  congr 1
  apply List.ext_getElem?
  intro i
  rw [List.getElem?_map]
  by_cases h : i < ns.length
  · rw [List.getElem?_range h, List.getElem?_eq_getElem h]
    simp [List.getD, List.getElem?_eq_getElem h]
  · rw [List.getElem?_eq_none (by simpa using h), List.getElem?_eq_none (by omega)]
    rfl
theorem dist_go : ∀ (ns acc : List Int), acc.Nodup → ((ns.foldl step_dedup acc).Nodup ∧ ∀ k, k ∈ ns.foldl step_dedup acc ↔ k ∈ acc ∨ k ∈ ns)
  | [], acc, h => ⟨h, fun k => by simp⟩
  | n :: r, acc, h => by
    show ((r.foldl step_dedup (step_dedup acc n)).Nodup ∧ _)
    by_cases z : acc.any (· == n) = true
    · have e : step_dedup acc n = acc := by unfold step_dedup; rw [if_pos z]
      have m : n ∈ acc := by
        obtain ⟨u, hu, q⟩ := List.any_eq_true.mp z
        rw [← eq_of_beq q]; exact hu
      obtain ⟨a, b⟩ := dist_go r acc h
      refine ⟨by rw [e]; exact a, fun k => ?_⟩
      show k ∈ r.foldl step_dedup (step_dedup acc n) ↔ _
      rw [e, b k, List.mem_cons]
      constructor
      · rintro (q | q)
        · exact .inl q
        · exact .inr (.inr q)
      · rintro (q | q | q)
        · exact .inl q
        · exact .inl (q ▸ m)
        · exact .inr q
    · have e : step_dedup acc n = acc ++ [n] := by unfold step_dedup; rw [if_neg z]
      have m : n ∉ acc := fun hm => z (List.any_eq_true.mpr ⟨n, hm, beq_self_eq_true n⟩)
      have h2 : (acc ++ [n]).Nodup := by
        rw [List.nodup_append]
        refine ⟨h, by simp, fun u hu v hv q => m ?_⟩
        rw [← (by simpa using hv : v = n), ← q]; exact hu
      obtain ⟨a, b⟩ := dist_go r (acc ++ [n]) h2
      refine ⟨by rw [e]; exact a, fun k => ?_⟩
      show k ∈ r.foldl step_dedup (step_dedup acc n) ↔ _
      rw [e, b k, List.mem_append, List.mem_cons]
      simp [or_assoc]
theorem dist_nodup (ns : List Int) : (dist ns).Nodup := (dist_go ns [] List.nodup_nil).1
theorem dist_mem (ns : List Int) (k : Int) : k ∈ dist ns ↔ k ∈ ns := by
  have := (dist_go ns [] List.nodup_nil).2 k
  unfold dist
  simpa using this
section
variable {X : Cx}
def tLenSetX (K : PySem.W.Frag) (ta : TE) : TE := fun σ H Q => ta σ H fun x H1 => ∃ (l : Addr) (ns : List Int), x = V.ref l ∧ (SqL K H1 l (ns.map V.int) ∨ SqT K H1 l (ns.map V.int)) ∧ ns.length ≤ 1000 ∧ Q (.int (dist ns).length) H1
theorem pe_lenSetX {a : Expr} {ta : TE} {p p2 q pos : Pos} (hc : X.calm = true) (hg : Gl X "len") (hm : X.mg "len" = none) (hg2 : Gl X "set") (hm2 : X.mg "set" = none) (ha : PE X a ta)
    (na : starEach [a] X.env = (false, eval a X.env) :: starEach [] X.env := by rfl) : PE X (.Call (.Name "len" p) [.Call (.Name "set" p2) [a] [] q] [] pos) (tLenSetX X.K ta) := by
  refine ⟨fun pins s σ H Q I h => ?_⟩
  refine Call_ (ld_blt I hg hm PySem.boot_len ?_)
  refine PyProof.Rows.callWith_builtin1 (PyProof.Rows.args_cons ?_ rfl) rfl rfl
  refine Call_ (ld_blt I hg2 hm2 PyProof.Rows.boot_set ?_)
  refine PyProof.Rows.callWith_type1 (PyProof.Rows.args_cons (thn (ha.run pins s σ H _ I h) fun v s1 ⟨x, H1, I1, r1, q1⟩ => PyProof.Rows.args_nil ?_) na) na rfl
  obtain ⟨l, ns, rfl, hq, h1, q1⟩ := q1
  cases r1
  rcases hq with hq | hq
  · obtain ⟨its, r, pl, hz⟩ := I1.list hq
    have hl : its.toArray.size = ns.length := by rw [List.size_toArray, ← r.length, List.length_map]
    refine call_set_list (I1.ok.hd hc) pl.isList (ns := ns) (by simpa using r.ints) (by unfold scanBound; omega) fun h' tk hS hk => ?_
    rw [hl, firstMet_dist] at hS
    refine PyProof.Rows.args_nil ?_
    obtain ⟨o, es, ep, t, ho, hex, hd, _, _, hb, hf, hn⟩ := hS
    have hle : (dist ns).length ≤ ns.length := by rw [← firstMet_dist]; exact firstMet_length_le _ _
    have I2 : Inv X pins σ H1 { s1 with heap := h', toks := tk } := I1.kept fun b o e => hk b o (Heap.lt_size e) e
    exact call_len_set ho hex hd hf (by rw [hn] <;> omega) ⟨.int (dist ns).length, H1, I2.tok _, ⟨_, by rw [hn]⟩, q1⟩
  · obtain ⟨its, r, pl, hz⟩ := I1.tuple hq
    refine call_set_tupI ns (I1.ok.hd hc) pl (by simpa using r.ints) (by unfold scanBound; omega) fun h' tk c hS hc' hk => ?_
    refine PyProof.Rows.args_nil ?_
    obtain ⟨o, es, ep, t, ho, hex, hd, _, nd, me, _, hf, hn, _⟩ := hS
    have I2 : Inv X pins σ H1 { s1 with heap := h', toks := tk } := I1.kept fun b o e => hk b o e
    have e1 : (es.toList.map keyOf).length = (dist ns).length := by
      refine ((List.perm_ext_iff_of_nodup nd (dist_nodup ns)).mpr fun k => ?_).length_eq
      rw [← me k, dist_mem, decide_eq_true_eq]
    have hn' : es.size = (dist ns).length := by rw [← e1]; simp
    exact call_len_set ho hex hd hf (by omega) ⟨.int (dist ns).length, H1, I2.tok _, ⟨_, by rw [hn']⟩, q1⟩
/-! ### rules that name X.K, for a comprehension's block -/
theorem tuple_ofK {K : PySem.W.Frag} (hK : X.K = K) : CallR X (.type "tuple") (fun xs H Q => ∃ p ys, xs = [V.ref p] ∧ ((SqL K H p ys ∧ ∀ (l : Addr), H l = none → Q (V.ref l) (upd H l (HO.tup ys))) ∨ SqT K H p ys ∧ Q (V.ref p) H)) := by subst hK; exact call_tuple_of
theorem list_ofK {K : PySem.W.Frag} (hK : X.K = K) : CallR X (.type "list") (fun xs H Q => ∃ p ys, xs = [V.ref p] ∧ (SqL K H p ys ∨ SqT K H p ys) ∧ ∀ l, H l = none → Q (V.ref l) (upd H l (HO.lst ys))) := by subst hK; exact call_list_of
theorem op_catTK {K : PySem.W.Frag} (hK : X.K = K) : OpR X (binaryOp .Add) (rCatT K) := by subst hK; exact op_catT
end
end R1

/-! isinstance(e, C), e a caught error with fields: the answer may be False -/
namespace R1
open PySem PySem.Spec PyProof.Rows L2
def rIsX (K : PySem.W.Frag) (D a : Addr) (cls : Value) (d : Option Addr) : List V → Hp → VK → Prop := fun xs H Q => ∃ (c : Addr) (b : Bool) (dd : Addr) (fs : List (Str × V)), cls = .ref D ∧ d = some dd ∧ H dd = some (.xd fs) ∧ xs = [.ref a, .ref c] ∧ PySem.W.kitOne K (.ref D) (.ref c) = some b ∧ Q (.bl b) H
theorem call_isX {X : Cx} {K : PySem.W.Frag} {a D : Addr} {oe : Obj} {cls : Value} {d : Option Addr} {pn : List (Addr × Obj)} (hK : X.K = K) (C : ExcC K D) (hz : Zc cls d oe) (hf : ∃ vs, oe.data = .fields vs) : CallR (X.suite a ((a, oe) :: pn)) (.builtin "isinstance") (rIsX K D a cls d) := by
  subst hK
  intro pins s σ H xs us Q I r h
  obtain ⟨c, b, dd, fs, rfl, rfl, ea, rfl, e, q⟩ := h
  obtain ⟨u1, u2, rfl, r1, r2⟩ := vals2 r
  cases (show u1 = Value.ref a from r1)
  cases (show u2 = Value.ref c from r2)
  obtain ⟨hget, _⟩ := I.pin (a, oe) (List.mem_append.mpr (.inl List.mem_cons_self))
  obtain ⟨vs, hd⟩ := hf
  have hx : ObjOk X.prog X.w H s.heap dd (.xd fs) := I.hok dd _ ea
  obtain ⟨mA, hns, hr⟩ := hx
  obtain ⟨od, ho, hl⟩ := lookIn_ns hns
  have J : PySem.W.InstAt s.heap a oe D (some od) := ⟨hget, hz.1, by unfold PySem.W.notCls; rw [hd] <;> rfl, by rw [hz.2]; exact ho⟩
  obtain ⟨cd, hc, _⟩ := PySem.W.any_some C.hd
  exact PySem.W.kia_one (PySem.W.kitx_exc (by rw [hc]; rfl) C.hg C.hk C.hs C.ha C.hn C.ht C.hm) I.kIn J e (fun z => nomatch z) fun tk => ⟨.bl b, H, I.tok tk, rfl, q⟩
end R1

namespace R1
open PySem PySem.Spec PyProof.Rows L2
section
variable {K : PySem.W.Frag} {a b : Addr} {xs ys : List V}
theorem walk_zipT {n : Nat} (hn : n = min xs.length ys.length) : Walk (RZ.ItzT K a b) n (fun H => SqT K H a xs ∧ SqT K H b ys) (YPair (fun i => xs[i]?) (fun i => ys[i]?)) := by
  subst hn
  refine ⟨fun i _ hi q => ?_, fun _ q => ⟨xs, ys, q.1, q.2, by omega⟩, fun i H v H' _ q y => ?_⟩
  · have h1 : i < xs.length := by omega
    have h2 : i < ys.length := by omega
    exact ⟨xs, ys, xs[i], ys[i], q.1, q.2, by simp [h1], by simp [h2]⟩
  · obtain ⟨T, x, z, h1, h2, h3, h4, h5⟩ := y
    exact ⟨T, x, z, h1, h2, h3, h4 xs q.1, h5 ys q.2⟩
end
end R1

/-! enumerate(t), t a tuple -/
namespace PySem
open PySem.Spec PyProof.Rows PySem.W
theorem meets_enum1 {v : Value} {o : Obj} {H : Heap → Prop} (B : Begins v o H) :
    Meets (Builtin.«enumerate.__new__» ⟨[.type "enumerate", v], []⟩) (fun _ R s => H s.heap ∧
      R (.ok (.ret (.ref (s.heap.push o).objs.size))) { s with heap := (s.heap.push o).push { cls := .type "enumerate", data := .fields #[.none, .bool false, .ref s.heap.objs.size, rawInt 0, .none, .none] } }) :=
  .of_wp fun prog w A R s h => by
    obtain ⟨hp, g, d, tk, os⟩ := s; obtain ⟨h1, h⟩ := h
    have hsub := sub_enumerate
    have q1 : ∀ {A' : Around} {E : Value → Shared → Prop} {Q : Value → Shared → Prop}, Q (.ref hp.objs.size) ⟨hp.push o, g, d, tk, os⟩ → wpAny (model prog w) A' (pyIter v) Q E ⟨hp, g, d, tk, os⟩ :=
      fun q => B.iter prog w _ _ ⟨hp, g, d, tk, os⟩ _ h1 q
    wp_walk using q1
    refine wpAny_stack_any fun st => wpAny_pure ?_
    split
    · rename_i c _ _ _ _ _
      cases (c == Value.type "enumerate")
      · wp_walk using q1
        exact ⟨_, rfl, h⟩
      · wp_walk using q1
        exact ⟨_, rfl, h⟩
    · wp_walk using q1
      exact ⟨_, rfl, h⟩
section
variable {prog : Program} {w : World} {A : Around} {E : Value → Shared → Prop} {s : Shared}
theorem enum1 {v : Value} {o : Obj} {H : Heap → Prop} {Q : Value → Shared → Prop} (B : Begins v o H) (h1 : H s.heap)
    (h : ∀ h', IsEnum h' (s.heap.objs.size + 1) s.heap.objs.size 0 .none → h'.get? s.heap.objs.size = some o → h'.objs.size = s.heap.objs.size + 2 →
      (∀ b o, s.heap.get? b = some o → h'.get? b = some o) → Q (.ref (s.heap.objs.size + 1)) { s with heap := h' }) :
    wpAny (model prog w) A (call (.type "enumerate") [v]) Q E s := by
  refine callType_new F.called_enumerate (by decide) (F.typeCall_enumerate_1 _) (F.newCall_enumerate_1 _) (fun obj => F.args_object_init_2 obj _) F.entry_enumerate_new
    (meets_enum1 B) ⟨h1, ?_⟩
  have hz : (s.heap.push o).objs.size = s.heap.objs.size + 1 := Heap.size_push ..
  show _ ∧ _
  rw [hz]
  have he : IsEnum ((s.heap.push o).push { cls := .type "enumerate", data := .fields #[.none, .bool false, .ref s.heap.objs.size, rawInt 0, .none, .none] }) (s.heap.objs.size + 1) s.heap.objs.size 0 .none := by
    have := Heap.get?_push_size (s.heap.push o) (o := { cls := .type "enumerate", data := .fields #[.none, .bool false, .ref s.heap.objs.size, rawInt 0, .none, .none] }) rfl
    rw [hz] at this; exact this
  exact ⟨⟨_, he, rfl⟩, h _ he (Heap.get?_push_of_some _ (Heap.get?_push_size _ B.free)) (by rw [Heap.size_push, hz]) fun b o x => Heap.get?_push_of_some _ (Heap.get?_push_of_some _ x)⟩
end
end PySem

namespace PySem
section
variable {prog : Program} {w : World} {A : Around} {E : Value → Shared → Prop} {s : Shared}
theorem enum_endT {e it l : Addr} {i : Nat} {items : Array Value} {old : Value} {Q : Option Value → Shared → Prop} (hh : A.handled = none)
    (he : IsEnum s.heap e it i old) (hit : s.heap.IsTupleIter it l i) (hl : s.heap.IsTuple l items) (hx : items[i]? = none)
    (hQ : ∀ h', Heap.ExtBut it s.heap h' → Q none { s with heap := h' }) : wpAny (model prog w) A (pyNext (.ref e)) Q E s := by
  have hT : s.TypeIs (.ref e) "enumerate" := ⟨_, he, rfl⟩
  unfold pyNext
  refine wpAny_bind (wpAny_attempt (wpAny_callSpecial?_slot (name := Str.ofString "__next__") hT F.slot_enumerate_next
    (wpAny_call_entry F.slot_enumerate_next hT F.entry_enumerate_next ?_ (F.args_enumerate_next_1 _))))
  show wpAny _ _ (field (.ref e) 2 >>= _) _ _ _
  refine wpAny_bind (wpAny_field he rfl (x := .ref it) rfl ?_)
  refine wpAny_bind (wpAny_nextOf_tuple_end hh hit hl hx fun h' x he' hx' => ?_)
  obtain ⟨o, ho, hc⟩ := hx'
  refine wpAny_bind (wpAny_isInstance (T := "StopIteration") (b := true) ⟨o, ho, hc⟩ isSubtype_stop ?_)
  exact wpAny_pure (hQ _ he')
end
end PySem
namespace R1
open PySem PySem.Spec PyProof.Rows L2
def IteT (K : PySem.W.Frag) (a : Addr) : It :=
  ⟨fun i H => ∃ (xs : List V) (x : V), SqT K H a xs ∧ xs[i]? = some x, fun i H v H' => ∃ T x, v = .ref T ∧ H T = none ∧ H' = upd H T (.tup [.int (i : Nat), x]) ∧ ∀ xs, SqT K H a xs → xs[i]? = some x, fun i H => ∃ xs : List V, SqT K H a xs ∧ xs.length ≤ i⟩
theorem turn_enumT {P : Program} {w : World} {K : PySem.W.Frag} {elts : List Expr} {kk : Nat} {tpos : Pos} (a e it : Addr) :
    Turn P w K (.Tuple elts kk tpos) (IteT K a) [e, it] e (fun i h => (∃ old, IsEnum h e it ((i : Nat) : Int) old) ∧ h.IsTupleIter it a i ∧ e ≠ it ∧ a ≠ it ∧ a ≠ e) where
  mem := by simp
  obj := fun i h st b hb => by
    obtain ⟨⟨old, he⟩, ⟨o, ho, hc, hd⟩, _⟩ := st
    have e' : b = e ∨ b = it := by simpa using hb
    rcases e' with z | z
    · rw [z]; exact ⟨_, he, fun v q => nomatch q⟩
    · rw [z]; exact ⟨o, ho, fun v q => by rw [hd] at q; cases q⟩
  keep := fun i h h' st k => let ⟨⟨old, he⟩, hi, hne⟩ := st; ⟨⟨old, k e (by simp) _ he⟩, hi.at fun o q => k it (by simp) o q, hne⟩
  item := by
    intro X hP hw hK hc i pins s σ H E I hf st hg
    subst hP hw hK
    obtain ⟨⟨old, he⟩, hit, hne, hai, hae⟩ := st
    obtain ⟨xs, x, hq, hx⟩ := hg
    obtain ⟨its, rv, p, hz⟩ := I.tuple hq
    obtain ⟨u, hu, ru⟩ := rv.get hx
    have hel : e < s.heap.objs.size := Heap.lt_size he
    have hil : it < s.heap.objs.size := by obtain ⟨_, q, _⟩ := hit; exact Heap.lt_size q
    have hli : i < its.toArray.size := by
      have := rv.length
      have h2 : i < xs.length := by
        by_cases z : i < xs.length
        · exact z
        · rw [List.getElem?_eq_none (by omega)] at hx; cases hx
      simp; omega
    refine wpAny_pyNext_enum_itemD (PySem.Draws.tuple (show X.A.in1.handled = none from I.ok.hd hc) it a hai its.toArray) he ⟨hit, p⟩ hli hne (by simp [hne, Ne.symm hae]) fun x' h' tk hP' ho hst' hT hsz hk => ?_
    have ex : x' = u := by
      rw [List.getElem?_toArray, hu] at hP'
      exact (Option.some.inj hP').symm
    subst ex
    refine ⟨_, rfl, wpAny_letOwnedTupleGo_enum (s := { s with heap := h', toks := tk + 1 }) ho fun h'' he' sb => ?_⟩
    have hT2 : h''.get? s.heap.objs.size = some { cls := .type "tuple", data := .seq #[.int i tk, x'] } := (sb.2 _ (Nat.ne_of_gt hel)).trans hT
    have new : ObjOk X.prog X.w (upd H s.heap.objs.size (.tup [.int (i : Nat), x])) h'' s.heap.objs.size (.tup [.int (i : Nat), x]) :=
      ⟨by show 2 ≤ sizeLine; decide, [.int i tk, x'], .cons ⟨_, rfl⟩ (.cons ru .nil), ⟨_, hT2, rfl, _, rfl⟩⟩
    have I1 : Inv X pins σ (upd H s.heap.objs.size (.tup [.int (i : Nat), x])) { s with heap := h'', toks := tk + 1 } :=
      I.turnedNew (ch := [e, it]) (fun b ob hb q => (sb.2 b (fun z => hb (by simp [z]))).trans (hk b ob (fun z => hb (by simp [z])) (fun z => hb (by simp [z])) q)) hf (Nat.le_refl _) new
    refine ⟨.ref s.heap.objs.size, _, I1, rfl, ⟨_, x, rfl, I.hok.fresh (Nat.le_refl _), rfl, fun ys hy => by rw [I.tuple_inj hy hq]; exact hx⟩, ⟨⟨x', ?_⟩, hst'.1.at fun o q => (sb.2 it (Ne.symm hne)).trans q, hne, hai, hae⟩, fun b hb => ?_⟩
    · have e1 : ((i + 1 : Nat) : Int) = (i : Int) + 1 := by omega
      rw [e1]; exact he'
    · have hb' : b < s.heap.objs.size := by
        have e' : b = e ∨ b = it := by simpa using hb
        rcases e' with z | z
        · rw [z]; exact hel
        · rw [z]; exact hil
      rw [upd_ne (Nat.ne_of_lt hb')]
      exact (hf b hb).1
  done := by
    intro X hP hw hK hc i pins s σ H E I hf st hg
    subst hP hw hK
    obtain ⟨⟨old, he⟩, hit, hne, hai, hae⟩ := st
    obtain ⟨xs, hq, hx⟩ := hg
    obtain ⟨its, rv, p, hz⟩ := I.tuple hq
    obtain ⟨f0, f1, f2, f3, f4, f5⟩ := hf it (by simp)
    have hl := rv.length
    exact enum_endT (I.ok.hd hc) he hit p (by simp; omega) fun h' eb => ⟨rfl, I.turned (t' := s.toks) (fun b o hb q => eb b o hb q) f0 f1 f3 f4 f5⟩
  self := fun A i s Q E st h => let ⟨⟨_, he⟩, _⟩ := st; wpAny_pyIter_enum he h
end R1

namespace R1
open PySem PySem.Spec PyProof.Rows L2
def iEnumT (K : PySem.W.Frag) (ta : TA) : TI := fun σ H R => ta σ H fun vs H1 => ∃ a xs, vs = [.ref a] ∧ SqT K H1 a xs ∧ R (IteT K a) H1
theorem pi_enumT {X : Cx} {e : Expr} {ta : TA} {p pos tpos : Pos} {elts : List Expr} {kk : Nat} (hg : Gl X "enumerate") (hm : X.mg "enumerate" = none) (ha : PA X [e] ta) (hs : starEach [e] X.env = [(false, eval e X.env)] := by rfl) :
    PI X (.Tuple elts kk tpos) (.Call (.Name "enumerate" p) [e] [] pos) (iEnumT X.K ta) := by
  refine ⟨fun pins s σ H R I h => ?_⟩
  refine Call_ (ld_blt I hg hm boot_enumerate (PyProof.Rows.callWith_type1 (thn (ha.run pos pins s σ H _ I h) fun us s1 ⟨vs, H1, I1, r1, q1⟩ => ?_) hs rfl))
  obtain ⟨a, xs, ex, hq, q⟩ := q1
  subst ex
  cases r1 with
  | cons r rr =>
    cases rr
    cases r
    obtain ⟨its, rv, p', hz⟩ := I1.tuple hq
    have hla : a < s1.heap.objs.size := by
      obtain ⟨o, ho, _⟩ := id p'
      exact Heap.lt_size ho
    refine enum1 (begins_tuple a its.toArray) p' fun h' he hit hsz hk => wpAny_pyIter_enum he ?_
    have I2 : Inv X pins σ H1 { s1 with heap := h' } := I1.kept (t' := s1.toks) hk
    refine ⟨s1.heap.objs.size + 1, [s1.heap.objs.size + 1, s1.heap.objs.size], _, _, H1, rfl, I2, turn_enumT a (s1.heap.objs.size + 1) s1.heap.objs.size, ⟨⟨.none, he⟩, ⟨_, hit, rfl, rfl⟩, Nat.succ_ne_self _, Nat.ne_of_lt hla, Nat.ne_of_lt (Nat.lt_succ_of_lt hla)⟩, fun b hb => ?_, q⟩
    have e' : b = s1.heap.objs.size + 1 ∨ b = s1.heap.objs.size := by simpa using hb
    have hle : s1.heap.objs.size ≤ b := by
      rcases e' with z | z
      · rw [z]; exact Nat.le_add_right _ _
      · rw [z]; exact Nat.le_refl _
    exact I1.fpOk hle (I1.hok.fresh hle)
section
variable {K : PySem.W.Frag} {a : Addr} {xs : List V}
theorem walk_enumT : Walk (IteT K a) xs.length (fun H => SqT K H a xs) (YPair (fun i => some (.int (i : Nat))) (fun i => xs[i]?)) := by
  refine ⟨fun i _ hi q => ⟨xs, xs[i], q, by simp [hi]⟩, fun _ q => ⟨xs, q, Nat.le_refl _⟩, fun i H v H' _ q y => ?_⟩
  obtain ⟨T, x, h1, h2, h3, h4⟩ := y
  exact ⟨T, .int (i : Nat), x, h1, h2, h3, rfl, h4 xs q⟩
end
end R1

namespace R1
open PySem PySem.Spec PyProof.Rows L2
section
variable {P : Program} {w : World} {K : PySem.W.Frag} {mg : Str → Option Value} {base : Heap} {CX : CXT} {k : Nat} {f : Addr} {fd : FuncData} {ps : List Str}
/-- one def, two contracts -/
theorem fn_or {sp sp' : Sp} (F : FnOk P w K mg base CX k f fd ps sp) (G : FnOk P w K mg base CX k f fd ps sp') : FnOk P w K mg base CX k f fd ps (fun vs H Q E => sp vs H Q E ∨ sp' vs H Q E) :=
  ⟨fun vs H Q E q => q.elim (F.len vs H Q E) (G.len vs H Q E), fun A outer s H args us vs Q E hr he hb hv hs => hs.elim (F.run A outer s H args us vs Q E hr he hb hv) (G.run A outer s H args us vs Q E hr he hb hv)⟩
end
end R1

namespace R1
open PySem PySem.Spec PyProof.Rows L2
/-! ### what sorted leaves, by the items' own rows -/
section
variable {κ : Type} {R : V → κ → Prop} (enc : κ → PyData)
def sortK (rs : List κ) : List κ := rs.mergeSort (PySem.W.dataLe false enc)
theorem zip_al : ∀ {xs : List V} {rs : List κ}, xs.length = rs.length → (xs.zip rs).map Prod.fst = xs ∧ (xs.zip rs).map Prod.snd = rs
  | [], [], _ => ⟨rfl, rfl⟩
  | x :: xs, r :: rs, h => by
    obtain ⟨a, b⟩ := zip_al (Nat.succ.inj h)
    exact ⟨by rw [List.zip_cons_cons, List.map_cons, a], by rw [List.zip_cons_cons, List.map_cons, b]⟩
theorem sort_al {xs : List V} {rs : List κ} (h : Al R xs rs) : Al R (R0.sortV xs (rs.map enc)) (sortK enc rs) := by
  obtain ⟨e1, e2⟩ := zip_al h.1
  obtain ⟨zs, hzs⟩ : ∃ zs, zs = (xs.zip rs).mergeSort (PySem.W.dataLe false fun z : V × κ => enc z.2) := ⟨_, rfl⟩
  have hz : xs.zip (rs.map enc) = (xs.zip rs).map fun z => (z.1, enc z.2) := by
    rw [List.zip_map_right]
    exact List.map_congr_left fun z _ => rfl
  have hs1 : R0.sortV xs (rs.map enc) = zs.map Prod.fst := by
    unfold R0.sortV
    rw [hz, ← List.map_mergeSort (f := fun z : V × κ => (z.1, enc z.2)) (r := PySem.W.dataLe false fun z : V × κ => enc z.2) (s := PySem.W.dataLe false Prod.snd) (fun a _ b _ => rfl), List.map_map, hzs]
    rfl
  have hs2 : sortK enc rs = zs.map Prod.snd := by
    unfold sortK
    rw [hzs, List.map_mergeSort (r := PySem.W.dataLe false fun z : V × κ => enc z.2) (s := PySem.W.dataLe false enc) (fun a _ b _ => rfl), e2]
  rw [hs1, hs2]
  refine ⟨by simp, fun i x r hx hr => ?_⟩
  rw [List.getElem?_map] at hx hr
  cases e : zs[i]? with
  | none => rw [e] at hx; cases hx
  | some z =>
    rw [e] at hx hr
    obtain rfl : z.1 = x := Option.some.inj hx
    obtain rfl : z.2 = r := Option.some.inj hr
    have hm : z ∈ xs.zip rs := by
      have := List.mem_of_getElem? e
      rw [hzs, List.mem_mergeSort] at this
      exact this
    obtain ⟨j, hj⟩ := List.mem_iff_getElem?.mp hm
    have hj' := List.getElem?_zip_eq_some.mp hj
    exact h.2 j z.1 z.2 hj'.1 hj'.2
end
end R1

/-! list(zip(a, b)), a and b tuples of one length -/
namespace R1
open PySem PySem.Spec PyProof.Rows L2
theorem lt1000 {k : Nat} (h : k ≤ 1000) : k < sizeLine := by
  have : (1000 : Nat) < sizeLine := by decide
  omega
theorem zip_has_no_len : typeLookup (.type "zip") "__len__" = pure none := am_miss_of_fast (by decide +kernel)
theorem zip_has_no_hint : typeLookup (.type "zip") "__length_hint__" = pure none := am_miss_of_fast (by decide +kernel)
section
variable {prog : Program} {w : World} {A : Around} {E : Value → Shared → Prop} {s : Shared} {z TI TO T i1 i2 a b S : Addr} {f : Bool} {oT : Obj} {i n : Nat} {xs ys : Array Value} {x y : Value}
theorem zheld_item {Q : Value → Shared → Prop} (D : ZipApart z TI TO i1 i2 a b) (hz : IsZipHeld s.heap z TI TO T f) (hT : s.heap.get? T = some oT) (ti : IsPair s.heap TI (.ref i1) (.ref i2))
    (t1 : s.heap.IsTupleIter i1 a i) (t2 : s.heap.IsTupleIter i2 b i) (ha : s.heap.IsTuple a xs) (hb : s.heap.IsTuple b ys) (hx : xs[i]? = some x) (hy : ys[i]? = some y)
    (q : ∀ h', IsZipHeld h' z TI TO T true → h'.IsTupleIter i1 a (i + 1) → h'.IsTupleIter i2 b (i + 1) → IsPair h' s.heap.objs.size x y →
      (∀ c o, c ≠ z → c ≠ i1 → c ≠ i2 → s.heap.get? c = some o → h'.get? c = some o) → Q (.ref s.heap.objs.size) { s with heap := h' }) :
    wpAny (model prog w) A (Builtin.«zip.__next__» ⟨[.ref z], []⟩) (fun r s2 => ∃ u, r = .done (.ret u) ∧ Q u s2) E s := by
  show wpAny _ _ (field (.ref z) 2 >>= _) _ _ s
  refine wpAny_bind (wpAny_field hz rfl (x := .bool false) rfl ?_); show wpAny _ _ (field (.ref z) 3 >>= _) _ _ s
  refine wpAny_bind (wpAny_field hz rfl (x := .ref TI) rfl ?_); refine wpAny_bind (wpAny_seqItems ti rfl ?_)
  show wpAny _ _ (Builtin.SmallTypes.ownedTupleIsFree (.ref z) >>= _) _ _ s
  refine wpAny_bind (wpAny_tupleHeld_zip hz hT fun g1 z1 k1 => ?_); simp only [Bool.false_eq_true, if_false]
  refine wpAny_bind ?_; rw [← Array.forIn_toList]; simp only [List.forIn_cons, List.forIn_nil]
  refine wpAny_bind (wpAny_bind (wpAny_holding ?_)); show wpAny _ _ (Builtin.SmallTypes.nextOf (.ref i1) >>= _) _ _ _
  refine wpAny_bind (RZ.nextOf_tuple_item (s := { s with heap := g1 }) (t1.extBut k1.extBut D.i1z) (ha.extBut k1.extBut D.l1z) hx fun g2 t1' k2 => wpAny_pure (wpAny_pure ?_))
  refine wpAny_bind (wpAny_bind (wpAny_holding ?_)); show wpAny _ _ (Builtin.SmallTypes.nextOf (.ref i2) >>= _) _ _ _
  refine wpAny_bind (RZ.nextOf_tuple_item (s := { s with heap := g2 }) ((t2.extBut k1.extBut D.i2z).extBut k2.extBut D.i12.symm) ((hb.extBut k1.extBut D.l2z).extBut k2.extBut D.l2i1) hy fun g3 t2' k3 => wpAny_pure (wpAny_pure (wpAny_pure ?_)))
  show wpAny _ _ (newTuple [x, y] >>= _) _ _ _
  refine wpAny_bind (wpAny_newTuple (wpAny_pure ⟨_, rfl, ?_⟩))
  have e0 : g3.objs.size = s.heap.objs.size := by rw [k3.1, k2.1, k1.1]
  have z3 : IsZipHeld g3 z TI TO T true := k3.extBut _ _ D.i2z.symm (k2.extBut _ _ D.i1z.symm z1)
  have up : ∀ c o, c ≠ z → c ≠ i1 → c ≠ i2 → s.heap.get? c = some o → g3.get? c = some o := fun c o n1 n2 n3 e => k3.extBut _ _ n3 (k2.extBut _ _ n2 (k1.extBut _ _ n1 e))
  have t13 : g3.IsTupleIter i1 a (i + 1) := t1'.extBut k3.extBut D.i12
  have new : IsPair (g3.push { cls := .type "tuple", data := .seq #[x, y] }) g3.objs.size x y := Heap.get?_push_size _ rfl
  show Q (.ref g3.objs.size) _
  rw [e0] at new ⊢
  exact q _ (Heap.get?_push_of_some _ z3) (t13.at fun o e => Heap.get?_push_of_some _ e) (t2'.at fun o e => Heap.get?_push_of_some _ e) new fun c o n1 n2 n3 e => Heap.get?_push_of_some _ (up c o n1 n2 n3 e)
theorem zheld_end {Q : Fin → Shared → Prop} (hh : A.handled = none) (D : ZipApart z TI TO i1 i2 a b) (hz : IsZipHeld s.heap z TI TO T f) (hT : s.heap.get? T = some oT) (ti : IsPair s.heap TI (.ref i1) (.ref i2))
    (t1 : s.heap.IsTupleIter i1 a i) (ha : s.heap.IsTuple a xs) (hx : xs[i]? = none)
    (q : ∀ h' e, (∀ c o, c ≠ z → c ≠ i1 → c ≠ i2 → s.heap.get? c = some o → h'.get? c = some o) → (∃ o, h'.get? e = some o ∧ o.cls = .type "StopIteration") → E (.ref e) { s with heap := h' }) :
    wpAny (model prog w) A (Builtin.«zip.__next__» ⟨[.ref z], []⟩) Q E s := by
  show wpAny _ _ (field (.ref z) 2 >>= _) _ _ s
  refine wpAny_bind (wpAny_field hz rfl (x := .bool false) rfl ?_); show wpAny _ _ (field (.ref z) 3 >>= _) _ _ s
  refine wpAny_bind (wpAny_field hz rfl (x := .ref TI) rfl ?_); refine wpAny_bind (wpAny_seqItems ti rfl ?_)
  show wpAny _ _ (Builtin.SmallTypes.ownedTupleIsFree (.ref z) >>= _) _ _ s
  refine wpAny_bind (wpAny_tupleHeld_zip hz hT fun g1 z1 k1 => ?_); simp only [Bool.false_eq_true, if_false]
  refine wpAny_bind ?_; rw [← Array.forIn_toList]; simp only [List.forIn_cons, List.forIn_nil]
  refine wpAny_bind (wpAny_bind (wpAny_holding ?_)); show wpAny _ _ (Builtin.SmallTypes.nextOf (.ref i1) >>= _) _ _ _
  exact wpAny_bind (RZ.nextOf_tuple_end (s := { s with heap := g1 }) hh (t1.extBut k1.extBut D.i1z) (ha.extBut k1.extBut D.l1z) hx fun g2 e k2 he => q g2 e (fun c o n1 n2 _ v => k2 _ _ n2 (k1.extBut _ _ n1 v)) he)
theorem znext_item {Q : Option Value → Shared → Prop} (D : ZipApart z TI TO i1 i2 a b) (hz : IsZipHeld s.heap z TI TO T f) (hT : s.heap.get? T = some oT) (ti : IsPair s.heap TI (.ref i1) (.ref i2))
    (t1 : s.heap.IsTupleIter i1 a i) (t2 : s.heap.IsTupleIter i2 b i) (ha : s.heap.IsTuple a xs) (hb : s.heap.IsTuple b ys) (hx : xs[i]? = some x) (hy : ys[i]? = some y)
    (q : ∀ h', IsZipHeld h' z TI TO T true → h'.IsTupleIter i1 a (i + 1) → h'.IsTupleIter i2 b (i + 1) → IsPair h' s.heap.objs.size x y →
      (∀ c o, c ≠ z → c ≠ i1 → c ≠ i2 → s.heap.get? c = some o → h'.get? c = some o) → Q (some (.ref s.heap.objs.size)) { s with heap := h' }) :
    wpAny (model prog w) A (pyNext (.ref z)) Q E s := by
  have ty : s.TypeIs (.ref z) "zip" := ⟨_, hz, rfl⟩
  unfold pyNext
  exact wpAny_bind (wpAny_attempt (wpAny_callSpecial?_slot (name := Str.ofString "__next__") ty F.slot_zip_next (wpAny_call_entry F.slot_zip_next ty F.entry_zip_next (zheld_item D hz hT ti t1 t2 ha hb hx hy fun h' c1 c2 c3 c4 c5 => wpAny_pure (q h' c1 c2 c3 c4 c5)) (F.args_zip_next_1 _))))
theorem znext_end {Q : Option Value → Shared → Prop} (hh : A.handled = none) (D : ZipApart z TI TO i1 i2 a b) (hz : IsZipHeld s.heap z TI TO T f) (hT : s.heap.get? T = some oT) (ti : IsPair s.heap TI (.ref i1) (.ref i2))
    (t1 : s.heap.IsTupleIter i1 a i) (ha : s.heap.IsTuple a xs) (hx : xs[i]? = none)
    (q : ∀ h', (∀ c o, c ≠ z → c ≠ i1 → c ≠ i2 → s.heap.get? c = some o → h'.get? c = some o) → Q none { s with heap := h' }) : wpAny (model prog w) A (pyNext (.ref z)) Q E s := by
  have ty : s.TypeIs (.ref z) "zip" := ⟨_, hz, rfl⟩
  unfold pyNext
  refine wpAny_bind (wpAny_attempt (wpAny_callSpecial?_slot (name := Str.ofString "__next__") ty F.slot_zip_next (wpAny_call_entry F.slot_zip_next ty F.entry_zip_next (zheld_end hh D hz hT ti t1 ha hx fun h' e k ⟨o, ho, hc⟩ => ?_) (F.args_zip_next_1 _))))
  exact wpAny_bind (wpAny_isInstance (T := "StopIteration") (b := true) ⟨o, ho, hc⟩ isSubtype_stop (wpAny_pure (q _ k)))
/-- where the iterator stands, i pairs given out -/
structure ZAt (h : Heap) (z TI TO i1 i2 a b : Addr) (i : Nat) : Prop where
  ti : IsPair h TI (.ref i1) (.ref i2)
  t1 : h.IsTupleIter i1 a i
  t2 : h.IsTupleIter i2 b i
  out : (IsZip h z TI TO .none ∧ ∃ u v, IsPair h TO u v) ∨ ∃ T f oT, IsZipHeld h z TI TO T f ∧ h.get? T = some oT ∧ T ≠ z ∧ T ≠ i1 ∧ T ≠ i2 ∧ T ≠ S
/-- the pairs given out -/
structure Prs (h : Heap) (lo : Addr) (xs ys : Array Value) (as : List Addr) : Prop where
  rise : as.Pairwise (· < ·)
  above : ∀ c ∈ as, lo ≤ c
  pair : ∀ (j : Nat) (c : Addr), as[j]? = some c → ∃ x y, xs[j]? = some x ∧ ys[j]? = some y ∧ IsPair h c x y
theorem Prs.there {h : Heap} {lo : Addr} {as : List Addr} (g : Prs h lo xs ys as) {c : Addr} (hc : c ∈ as) : c < h.objs.size := by
  obtain ⟨j, hj⟩ := List.mem_iff_getElem?.mp hc
  obtain ⟨_, _, _, _, e⟩ := g.pair j c hj
  exact Heap.lt_size e
theorem zat_item {Q : Option Value → Shared → Prop} (D : ZipApart z TI TO i1 i2 a b) (Z : ZAt (S := S) s.heap z TI TO i1 i2 a b i) (hS : S < s.heap.objs.size) (ha : s.heap.IsTuple a xs) (hb : s.heap.IsTuple b ys) (hx : xs[i]? = some x) (hy : ys[i]? = some y)
    (q : ∀ h', ZAt (S := S) h' z TI TO i1 i2 a b (i + 1) → IsPair h' s.heap.objs.size x y → (∀ c o, c ≠ z → c ≠ TO → c ≠ i1 → c ≠ i2 → s.heap.get? c = some o → h'.get? c = some o) → Q (some (.ref s.heap.objs.size)) { s with heap := h' }) :
    wpAny (model prog w) A (pyNext (.ref z)) Q E s := by
  have l1 : i1 < s.heap.objs.size := by obtain ⟨_, e, _⟩ := Z.t1; exact Heap.lt_size e
  have l2 : i2 < s.heap.objs.size := by obtain ⟨_, e, _⟩ := Z.t2; exact Heap.lt_size e
  rcases Z.out with ⟨hz, u, v, hO⟩ | ⟨T, f, oT, hz, hT, n1, n2, n3, n4⟩
  · have lz : z < s.heap.objs.size := Heap.lt_size hz
    refine RZ.pyNext_zipT_item D hz Z.ti hO Z.t1 Z.t2 ha hb hx hy fun h' z' o' t1' t2' hN _ k => q h' ⟨k _ _ D.TIz D.TITO D.TIi1 D.TIi2 Z.ti, t1', t2', .inr ⟨s.heap.objs.size, false, _, z', hN, Nat.ne_of_gt lz, Nat.ne_of_gt l1, Nat.ne_of_gt l2, Nat.ne_of_gt hS⟩⟩ hN k
  · refine znext_item D hz hT Z.ti Z.t1 Z.t2 ha hb hx hy fun h' z' t1' t2' hN k => q h' ⟨k _ _ D.TIz D.TIi1 D.TIi2 Z.ti, t1', t2', .inr ⟨T, true, oT, z', k _ _ n1 n2 n3 hT, n1, n2, n3, n4⟩⟩ hN fun c o m1 _ m3 m4 e => k c o m1 m3 m4 e
theorem zat_end {Q : Option Value → Shared → Prop} (hh : A.handled = none) (D : ZipApart z TI TO i1 i2 a b) (Z : ZAt (S := S) s.heap z TI TO i1 i2 a b i) (ha : s.heap.IsTuple a xs) (hb : s.heap.IsTuple b ys) (hx : xs[i]? = none)
    (q : ∀ h', (∀ c o, c ≠ z → c ≠ TO → c ≠ i1 → c ≠ i2 → s.heap.get? c = some o → h'.get? c = some o) → Q none { s with heap := h' }) : wpAny (model prog w) A (pyNext (.ref z)) Q E s := by
  rcases Z.out with ⟨hz, u, v, hO⟩ | ⟨T, f, oT, hz, hT, n1, n2, n3, n4⟩
  · exact RZ.pyNext_zipT_end hh D hz Z.ti hO Z.t1 Z.t2 ha hb (.inl hx) fun h' k => q h' k
  · exact znext_end hh D hz hT Z.ti Z.t1 ha hx fun h' k => q h' fun c o m1 _ m3 m4 e => k c o m1 m3 m4 e
theorem ZAt.keep {h h' : Heap} (Z : ZAt (S := S) h z TI TO i1 i2 a b i) (k : ∀ c o, c ≠ S → h.get? c = some o → h'.get? c = some o) (m1 : z ≠ S) (m2 : TI ≠ S) (m3 : TO ≠ S) (m4 : i1 ≠ S) (m5 : i2 ≠ S) : ZAt (S := S) h' z TI TO i1 i2 a b i :=
  ⟨k _ _ m2 Z.ti, Z.t1.at fun o e => k _ o m4 e, Z.t2.at fun o e => k _ o m5 e, Z.out.elim (fun ⟨hz, u, v, hO⟩ => .inl ⟨k _ _ m1 hz, u, v, k _ _ m3 hO⟩) fun ⟨T, f, oT, hz, hT, n1, n2, n3, n4⟩ => .inr ⟨T, f, oT, k _ _ m1 hz, k _ _ n4 hT, n1, n2, n3, n4⟩⟩
/-- all five cells and the list lie below lo -/
structure ZLow (lo S z TI TO i1 i2 a b : Addr) : Prop where
  fs : S < lo
  fz : z < lo
  fo : TO < lo
  f1 : i1 < lo
  f2 : i2 < lo
  nz : z ≠ S
  nI : TI ≠ S
  nO : TO ≠ S
  n1 : i1 ≠ S
  n2 : i2 ≠ S
  na : a ≠ S
  nb : b ≠ S
theorem zloop {R : Result → Shared → Prop} {lo : Addr} {h1 : Heap} (hh : A.handled = none) (D : ZipApart z TI TO i1 i2 a b) (L : ZLow lo S z TI TO i1 i2 a b) (ex : xs.size = n) (ey : ys.size = n) (hn : n ≤ 1000) (res : Value)
    (hR : ∀ h' acc c as, (∀ d o, d ≠ S → d ≠ z → d ≠ TO → d ≠ i1 → d ≠ i2 → h1.get? d = some o → h'.get? d = some o) → h'.get? S = some { cls := .type "list", dict := none, data := .seq acc c, slots := #[] } → as.length = n → Prs h' lo xs ys as →
      acc.toList = as.map Value.ref → R (.ok (.ret res)) { s with heap := h' }) :
    ∀ (k i : Nat) (h : Heap) (c : Nat) (acc : Array Value) (as : List Addr), n - i = k → i ≤ n → ZAt (S := S) h z TI TO i1 i2 a b i → h.IsTuple a xs → h.IsTuple b ys → (∀ d o, d ≠ S → d ≠ z → d ≠ TO → d ≠ i1 → d ≠ i2 → h1.get? d = some o → h.get? d = some o) →
      h.get? S = some { cls := .type "list", dict := none, data := .seq acc c, slots := #[] } → acc.toList = as.map Value.ref → as.length = i → Prs h lo xs ys as → lo ≤ h.objs.size →
      codeAny (model prog w) A (.builtin "list.extend.loop" ⟨[.ref S, .ref z, res], []⟩) R { s with heap := h } := by
  intro k
  induction k with
  | zero =>
    intro i h c acc as hk hi Z ha hb kp hS hacc hal G hlo
    refine codeAny_builtin PySem.F.entry_extend_loop ?_; rw [Around.under_plainId PySem.F.plain_extend_loop _]
    show wpAny _ A.in1 (pyNext (.ref z) >>= _) _ _ _
    refine wpAny_bind (zat_end (s := { s with heap := h }) (A := A.in1) hh D Z ha hb (Array.getElem?_eq_none (by omega)) fun h' k' => wpAny_pure ?_)
    refine hR h' acc c as (fun d o d0 d1 d2 d3 d4 e => k' d o d1 d2 d3 d4 (kp d o d0 d1 d2 d3 d4 e)) (k' _ _ L.nz.symm L.nO.symm L.n1.symm L.n2.symm hS) (by omega) ⟨G.rise, G.above, fun j d hj => ?_⟩ hacc
    obtain ⟨u, v, e1, e2, e3⟩ := G.pair j d hj
    have ge := G.above d (List.mem_of_getElem? hj)
    exact ⟨u, v, e1, e2, k' d _ (Nat.ne_of_gt (Nat.lt_of_lt_of_le L.fz ge)) (Nat.ne_of_gt (Nat.lt_of_lt_of_le L.fo ge)) (Nat.ne_of_gt (Nat.lt_of_lt_of_le L.f1 ge)) (Nat.ne_of_gt (Nat.lt_of_lt_of_le L.f2 ge)) e3⟩
  | succ k ih =>
    intro i h c acc as hk hi Z ha hb kp hS hacc hal G hlo
    have lt : i < n := by omega
    have hx : xs[i]? = some (xs[i]'(by omega)) := Array.getElem?_eq_getElem _
    have hy : ys[i]? = some (ys[i]'(by omega)) := Array.getElem?_eq_getElem _
    have hsz : acc.size = i := by rw [← Array.length_toList, hacc, List.length_map, hal]
    refine codeAny_builtin PySem.F.entry_extend_loop ?_; rw [Around.under_plainId PySem.F.plain_extend_loop _]
    show wpAny _ A.in1 (pyNext (.ref z) >>= _) _ _ _
    refine wpAny_bind (zat_item (s := { s with heap := h }) (S := S) D Z (Heap.lt_size hS) ha hb hx hy fun h' Z' hN k' => ?_)
    dsimp only at hN k' ⊢
    have hS' := k' S _ L.nz.symm L.nO.symm L.n1.symm L.n2.symm hS
    have up : ∀ d o, d ≠ S → h'.get? d = some o → (h'.update S (Obj.mapSeq (·.push (Value.ref h.objs.size)))).get? d = some o := fun d o hd e => (Heap.get?_update_other _ _ (Ne.symm hd)).trans e
    have lS : S < h.objs.size := Heap.lt_size hS
    show wpAny _ A.in1 (updateSeq S (·.push (Value.ref h.objs.size)) >>= _) _ _ _
    refine wpAny_bind (wpAny_updateSeq hS' rfl (wpAny_pure ⟨plainId_quiet PySem.F.plain_extend_loop _, ih (i + 1) _ _ (acc.push (Value.ref h.objs.size)) (as ++ [h.objs.size]) (by omega) lt (Z'.keep up L.nz L.nI L.nO L.n1 L.n2)
      (ha.at fun o e => up a o L.na (k' a o D.l1z D.l1TO D.l1i1 D.l1i2 e)) (hb.at fun o e => up b o L.nb (k' b o D.l2z D.l2TO D.l2i1 D.l2i2 e)) (fun d o d0 d1 d2 d3 d4 e => up d o d0 (k' d o d1 d2 d3 d4 (kp d o d0 d1 d2 d3 d4 e)))
      (Heap.get?_update_self _ hS' rfl) (by rw [Array.toList_push, hacc, List.map_append]; rfl) (by rw [List.length_append, hal]; rfl) ⟨?_, ?_, ?_⟩ ?_⟩) ?_ ?_)
    · exact List.pairwise_append.mpr ⟨G.rise, List.pairwise_singleton _ _, fun u hu v hv => by rw [List.mem_singleton.mp hv]; exact G.there hu⟩
    · intro u hu
      rcases List.mem_append.mp hu with hu | hu
      · exact G.above u hu
      · rw [List.mem_singleton.mp hu]; exact hlo
    · intro j d hj
      by_cases h1 : j < as.length
      · rw [List.getElem?_append_left h1] at hj
        obtain ⟨u, v, e1, e2, e3⟩ := G.pair j d hj
        have ge := G.above d (List.mem_of_getElem? hj)
        exact ⟨u, v, e1, e2, up d _ (Nat.ne_of_gt (Nat.lt_of_lt_of_le L.fs ge)) (k' d _ (Nat.ne_of_gt (Nat.lt_of_lt_of_le L.fz ge)) (Nat.ne_of_gt (Nat.lt_of_lt_of_le L.fo ge)) (Nat.ne_of_gt (Nat.lt_of_lt_of_le L.f1 ge)) (Nat.ne_of_gt (Nat.lt_of_lt_of_le L.f2 ge)) e3)⟩
      · rw [List.getElem?_append_right (by omega)] at hj
        have e0 : j - as.length = 0 := by
          cases e : j - as.length with
          | zero => rfl
          | succ m => rw [e] at hj; simp at hj
        rw [e0] at hj
        have hd : h.objs.size = d := by simpa using hj
        have hji : j = i := by omega
        subst hd
        subst hji
        exact ⟨_, _, hx, hy, up _ _ (Nat.ne_of_gt lS) hN⟩
    · have e : (h'.update S (Obj.mapSeq (·.push (Value.ref h.objs.size)))).get? h.objs.size = _ := up _ _ (Nat.ne_of_gt lS) hN
      exact Nat.le_trans hlo (Nat.le_of_lt (Heap.lt_size e))
    · rw [hsz]; exact Nat.le_of_lt (lt1000 (by omega))
    · show (acc.push (Value.ref h.objs.size)).size ≤ sizeLine + 1
      rw [Array.size_push, hsz]
      have := lt1000 (show i ≤ 1000 by omega)
      omega
end
end R1

namespace R1
open PySem PySem.Spec PyProof.Rows L2
section
variable {prog : Program} {w : World} {A : Around} {E : Value → Shared → Prop} {s : Shared} {z TI TO i1 i2 a b S : Addr} {n : Nat} {xs ys : Array Value} {u v : Value}
theorem zip_hint (hz : s.TypeIs (.ref z) "zip") {Q : Bool → Shared → Prop} (q : Q true s) : wpAny (model prog w) A (Builtin.List.listLengthHint (.ref z)) Q E s := by
  unfold Builtin.List.listLengthHint
  refine wpAny_bind (wpAny_specialOf hz zip_has_no_len ?_)
  show wpAny _ A (specialOf (Value.ref z) (Str.ofString "__length_hint__") >>= _) _ _ _
  exact wpAny_bind (wpAny_specialOf hz zip_has_no_hint (wpAny_pure q))
def ZKept (S z TO i1 i2 : Addr) (h h' : Heap) : Prop := ∀ d o, d ≠ S → d ≠ z → d ≠ TO → d ≠ i1 → d ≠ i2 → h.get? d = some o → h'.get? d = some o
theorem zextend {R : Result → Shared → Prop} {c0 : Nat} (hh : A.handled = none) (D : ZipApart z TI TO i1 i2 a b) (L : ZLow s.heap.objs.size S z TI TO i1 i2 a b) (hz : IsZip s.heap z TI TO .none) (ti : IsPair s.heap TI (.ref i1) (.ref i2)) (hO : IsPair s.heap TO u v)
    (t1 : s.heap.IsTupleIter i1 a 0) (t2 : s.heap.IsTupleIter i2 b 0) (ha : s.heap.IsTuple a xs) (hb : s.heap.IsTuple b ys) (ex : xs.size = n) (ey : ys.size = n) (hn : n ≤ 1000) (res : Value) (hS : s.heap.get? S = some { cls := .type "list", data := .seq #[] c0 })
    (hR : ∀ h' acc c as, ZKept S z TO i1 i2 s.heap h' → h'.get? S = some { cls := .type "list", dict := none, data := .seq acc c, slots := #[] } → as.length = n → Prs h' s.heap.objs.size xs ys as → acc.toList = as.map Value.ref → R (.ok (.ret res)) { s with heap := h' }) :
    wpAny (model prog w) A.in1 (Builtin.List.listExtendWith (.ref S) (.ref z) res)
      (fun r s' => match r with | .done f => R (.ok f) s' | .again c' => c'.quiet = true ∧ codeAny (model prog w) A c' R s') (fun e s' => R (.error e) s') s := by
  have ty : s.TypeIs (.ref z) "zip" := ⟨_, hz, rfl⟩
  have n1 : Builtin.List.listSameRef (.ref S) (.ref z) = false := by simp [Builtin.List.listSameRef, L.nz.symm]
  have n2 : (Value.type "zip" == Value.type "list") = false := by decide
  have n3 : (Value.type "zip" == Value.type "tuple") = false := by decide
  unfold Builtin.List.listExtendWith
  refine wpAny_bind (wpAny_typeOf ty ?_); simp only [n1, n2, n3, Bool.or_false, Bool.false_eq_true, if_false]
  refine wpAny_bind (wpAny_pyIter_zip hz ?_); refine wpAny_bind (wpAny_holding (zip_hint ty ?_)); simp only [Bool.true_or, if_true]
  refine wpAny_bind (wpAny_rule ?_)
  refine wpAny_bind ?_; show wpAny _ A.in1 (updateSeq S (·.push .none) >>= fun _ => updateSeq S (·.pop)) _ _ s
  refine wpAny_bind (wpAny_updateSeq hS rfl ?_)
  have g2 := Heap.get?_update_self (Obj.mapSeq (·.push Value.none)) hS rfl
  refine wpAny_updateSeq (hz := by seq_fits) g2 rfl ?_
  have g3 := Heap.get?_update_self (Obj.mapSeq (·.pop)) g2 rfl
  have ot : ∀ d o, d ≠ S → s.heap.get? d = some o → ((s.heap.update S (Obj.mapSeq (·.push Value.none))).update S (Obj.mapSeq (·.pop))).get? d = some o := fun d o hd e =>
    (Heap.get?_update_other _ _ (Ne.symm hd)).trans ((Heap.get?_update_other _ _ (Ne.symm hd)).trans e)
  generalize eh : (s.heap.update S (Obj.mapSeq (·.push Value.none))).update S (Obj.mapSeq (·.pop)) = hf at g3 ot ⊢
  have sz : s.heap.objs.size ≤ hf.objs.size := by rw [← eh]; simp [Heap.update]
  have Z0 : ZAt (S := S) s.heap z TI TO i1 i2 a b 0 := ⟨ti, t1, t2, .inl ⟨hz, u, v, hO⟩⟩
  exact wpAny_pure ⟨plainId_quiet PySem.F.plain_extend_loop _, zloop (s := s) (h1 := s.heap) hh D L ex ey hn res (fun h' acc c as kp hS' hl G hacc => hR h' acc c as kp hS' hl G hacc) n 0 hf _ _ [] (Nat.sub_zero _) (Nat.zero_le _) (Z0.keep ot L.nz L.nI L.nO L.n1 L.n2)
    (ha.at fun o e => ot a o L.na e) (hb.at fun o e => ot b o L.nb e) (fun d o d0 _ _ _ _ e => ot d o d0 e) g3 rfl rfl ⟨List.Pairwise.nil, (fun _ h => nomatch h), fun j c hj => by simp at hj⟩ sz⟩
theorem zcall {Q : Value → Shared → Prop} (hh : A.handled = none) (D : ZipApart z TI TO i1 i2 a b) (hz : IsZip s.heap z TI TO .none) (ti : IsPair s.heap TI (.ref i1) (.ref i2)) (hO : IsPair s.heap TO u v)
    (t1 : s.heap.IsTupleIter i1 a 0) (t2 : s.heap.IsTupleIter i2 b 0) (ha : s.heap.IsTuple a xs) (hb : s.heap.IsTuple b ys) (ex : xs.size = n) (ey : ys.size = n) (hn : n ≤ 1000)
    (q : ∀ h' acc c as, (∀ d o, d ≠ z → d ≠ TO → d ≠ i1 → d ≠ i2 → s.heap.get? d = some o → h'.get? d = some o) → h'.get? s.heap.objs.size = some { cls := .type "list", dict := none, data := .seq acc c, slots := #[] } → as.length = n → Prs h' (s.heap.objs.size + 1) xs ys as →
      acc.toList = as.map Value.ref → Q (.ref s.heap.objs.size) { s with heap := h' }) : wpAny (model prog w) A (call (.type "list") [.ref z]) Q E s := by
  have lz : z < s.heap.objs.size := Heap.lt_size hz
  have lI : TI < s.heap.objs.size := Heap.lt_size ti
  have lO : TO < s.heap.objs.size := Heap.lt_size hO
  have l1 : i1 < s.heap.objs.size := by obtain ⟨_, e, _⟩ := t1; exact Heap.lt_size e
  have l2 : i2 < s.heap.objs.size := by obtain ⟨_, e, _⟩ := t2; exact Heap.lt_size e
  have la : a < s.heap.objs.size := by obtain ⟨_, e, _⟩ := id ha; exact Heap.lt_size e
  have lb : b < s.heap.objs.size := by obtain ⟨_, e, _⟩ := id hb; exact Heap.lt_size e
  refine callType_codes (Q₁ := fun obj s2 => obj = .ref s.heap.objs.size ∧ s2 = { s with heap := s.heap.push { cls := .type "list", data := .seq #[] } }) PySem.F.called_list (PySem.F.typeCall_list_1 _) PySem.F.entry_list_init (code_list_new _ ⟨rfl, rfl⟩) fun obj s2 h2 => ?_
  obtain ⟨rfl, rfl⟩ := h2
  have hS : (s.heap.push { cls := .type "list", data := .seq #[] }).get? s.heap.objs.size = some { cls := .type "list", data := .seq #[] } := Heap.get?_push_size _ rfl
  have pz : (s.heap.push { cls := .type "list", data := .seq #[] }).objs.size = s.heap.objs.size + 1 := Heap.size_push ..
  have up : ∀ d o, s.heap.get? d = some o → (s.heap.push { cls := .type "list", data := .seq #[] }).get? d = some o := fun d o e => Heap.get?_push_of_some _ e
  generalize eg : s.heap.push { cls := .type "list", data := .seq #[] } = g at hS pz up ⊢
  refine ⟨⟨_, hS, rfl⟩, PySem.F.args_list_init_2 _ _, ?_⟩
  show wpAny _ _ (do let old ← Builtin.List.listItems (.ref s.heap.objs.size); Builtin.List.listUpdate (.ref s.heap.objs.size) (fun _ => #[]); letGo old.toList.reverse; Builtin.List.listExtendWith (.ref s.heap.objs.size) (.ref z) .none) _ _ _
  refine wpAny_bind ?_; unfold Builtin.List.listItems
  refine wpAny_bind (wpAny_seqItems hS rfl (wpAny_pure ?_))
  show wpAny _ _ (updateSeq s.heap.objs.size (fun _ => #[]) >>= fun _ => letGo (#[] : Array Value).toList.reverse >>= fun _ => Builtin.List.listExtendWith (.ref s.heap.objs.size) (.ref z) .none) _ _ _
  refine wpAny_bind (wpAny_updateSeq hS rfl ?_)
  have hS2 := Heap.get?_update_self (Obj.mapSeq (fun _ => (#[] : Array Value))) hS rfl
  have ot : ∀ d o, d ≠ s.heap.objs.size → g.get? d = some o → (g.update s.heap.objs.size (Obj.mapSeq (fun _ => (#[] : Array Value)))).get? d = some o := fun d o hd e => (Heap.get?_update_other _ _ (Ne.symm hd)).trans e
  have sz2 : (g.update s.heap.objs.size (Obj.mapSeq (fun _ => (#[] : Array Value)))).objs.size = s.heap.objs.size + 1 := by rw [← pz]; simp [Heap.update]
  refine wpAny_bind (wpAny_letGo ?_)
  generalize g.update s.heap.objs.size (Obj.mapSeq (fun _ => (#[] : Array Value))) = g2 at hS2 ot sz2 ⊢
  have k2 : ∀ d o, s.heap.get? d = some o → g2.get? d = some o := fun d o e => ot d o (Nat.ne_of_lt (Heap.lt_size e)) (up d o e)
  refine zextend (A := A.in1) (R := wants (fun r s₂ => r = Value.none ∧ Q (Value.ref s.heap.objs.size) s₂) E) (s := { s with heap := g2 }) (n := n) hh D ⟨?_, ?_, ?_, ?_, ?_, Nat.ne_of_lt lz, Nat.ne_of_lt lI, Nat.ne_of_lt lO, Nat.ne_of_lt l1, Nat.ne_of_lt l2, Nat.ne_of_lt la, Nat.ne_of_lt lb⟩ (k2 _ _ hz) (k2 _ _ ti) (k2 _ _ hO)
    (t1.at fun o e => k2 _ o e) (t2.at fun o e => k2 _ o e) (ha.at fun o e => k2 _ o e) (hb.at fun o e => k2 _ o e) ex ey hn .none hS2 fun h' acc c as kp hS' hl G hacc => ⟨rfl, q h' acc c as (fun d o d1 d2 d3 d4 e => kp d o (Nat.ne_of_lt (Heap.lt_size e)) d1 d2 d3 d4 (k2 d o e)) hS' hl (by rw [← sz2]; exact G) hacc⟩
  all_goals (show _ < g2.objs.size; rw [sz2])
  · exact Nat.lt_succ_self _
  · exact Nat.lt_succ_of_lt lz
  · exact Nat.lt_succ_of_lt lO
  · exact Nat.lt_succ_of_lt l1
  · exact Nat.lt_succ_of_lt l2
end
/-! ### tracked -/
def putP : Hp → List Addr → List (V × V) → Hp
  | H, c :: cs, p :: ps => putP (upd H c (.tup [p.1, p.2])) cs ps
  | H, _, _ => H
theorem putP_off {d : Addr} : ∀ (cs : List Addr) (ps : List (V × V)) (H : Hp), d ∉ cs → putP H cs ps d = H d
  | [], _, _, _ => rfl
  | _ :: _, [], _, _ => rfl
  | c :: cs, p :: ps, H, h => by
    have h2 : d ≠ c ∧ d ∉ cs := ⟨fun e => h (e ▸ List.mem_cons_self), fun e => h (List.mem_cons_of_mem _ e)⟩
    show putP (upd H c (.tup [p.1, p.2])) cs ps d = H d
    rw [putP_off cs ps _ h2.2, upd_ne h2.1]
theorem putP_at : ∀ (cs : List Addr) (ps : List (V × V)) (H : Hp), cs.Nodup → ∀ (j : Nat) (c : Addr) (p : V × V), cs[j]? = some c → ps[j]? = some p → putP H cs ps c = some (.tup [p.1, p.2])
  | [], _, _, _, _, _, _, h, _ => by simp at h
  | _ :: _, [], _, _, _, _, _, _, h => by simp at h
  | c :: cs, p :: ps, H, nd, 0, d, r, h1, h2 => by
    cases h1; cases h2
    show putP (upd H c (.tup [p.1, p.2])) cs ps c = _
    rw [putP_off cs ps _ (List.nodup_cons.mp nd).1, upd_same]
  | c :: cs, p :: ps, H, nd, j + 1, d, r, h1, h2 => putP_at cs ps _ (List.nodup_cons.mp nd).2 j d r (by simpa using h1) (by simpa using h2)
theorem refs_vals : ∀ as : List Addr, Vals (as.map V.ref) (as.map Value.ref)
  | [] => .nil
  | _ :: as => .cons rfl (refs_vals as)
theorem LiI_get : ∀ {vs : List V} {us : List Value}, Vals vs us → ∀ {j : Nat} {u : Value}, us[j]? = some u → ∃ v, vs[j]? = some v ∧ RelV v u
  | _, _, .nil, j, u, h => by simp at h
  | _, _, .cons r t, 0, u, h => by cases h; exact ⟨_, rfl, r⟩
  | _, _, .cons r t, j + 1, u, h => by simpa using LiI_get t (by simpa using h)
section
variable {X : Cx}
theorem zip_laid {pins : List (Addr × Obj)} {σ : L2.St} {H : Hp} {s : Shared} {h' : Heap} {l : Addr} {acc : Array Value} {c tk : Nat} {as : List Addr} {vs ws : List V} {us rs : List Value} (I : Inv X pins σ H s) (rv : Vals vs us) (rw' : Vals ws rs) (hl : as.length ≤ 1000) (hk : ∀ d o, s.heap.get? d = some o → h'.get? d = some o)
    (ll : s.heap.objs.size ≤ l) {lw : Addr} (hlw : l < lw) (hS : h'.get? l = some { cls := .type "list", dict := none, data := .seq acc c, slots := #[] }) (G : Prs h' lw us.toArray rs.toArray as) (hacc : acc.toList = as.map Value.ref) :
    ∃ H' : Hp, Same H H' ∧ H l = none ∧ H' l = some (.lst (as.map V.ref)) ∧ (∀ (j : Nat) (d : Addr) (x y : V), as[j]? = some d → vs[j]? = some x → ws[j]? = some y → H' d = some (.tup [x, y])) ∧ Inv X pins σ H' { s with heap := h', toks := tk } := by
  have nd : as.Nodup := List.Pairwise.imp (fun {d e} (h : d < e) => Nat.ne_of_lt h) G.rise
  have lo : ∀ d ∈ as, s.heap.objs.size ≤ d ∧ d ≠ l := fun d hd => by
    have q : l < d := Nat.lt_of_lt_of_le hlw (G.above d hd)
    exact ⟨Nat.le_of_lt (Nat.lt_of_le_of_lt ll q), Nat.ne_of_gt q⟩
  have nl : H l = none := I.hok.fresh ll
  have nw : ∀ d ∈ as, H d = none := fun d hd => I.hok.fresh (lo d hd).1
  have zl : (vs.zip ws).length = min vs.length ws.length := List.length_zip
  have gz : ∀ (j : Nat) (x y : V), vs[j]? = some x → ws[j]? = some y → (vs.zip ws)[j]? = some (x, y) := fun j x y h1 h2 => List.getElem?_zip_eq_some.mpr ⟨h1, h2⟩
  generalize eH : putP (upd H l (.lst (as.map V.ref))) as (vs.zip ws) = H'
  have off : ∀ d, d ∉ as → d ≠ l → H' d = H d := fun d h1 h2 => by rw [← eH, putP_off as _ _ h1, upd_ne h2]
  have atl : H' l = some (.lst (as.map V.ref)) := by rw [← eH, putP_off as _ _ (fun z => (lo l z).2 rfl), upd_same]
  have att : ∀ (j : Nat) (d : Addr) (x y : V), as[j]? = some d → vs[j]? = some x → ws[j]? = some y → H' d = some (.tup [x, y]) := fun j d x y h1 h2 h3 => by
    rw [← eH]; exact putP_at as _ _ nd j d (x, y) h1 (gz j x y h2 h3)
  have kp : Same H H' := fun d o e => by
    rw [off d (fun z => by rw [nw d z] at e; cases e) (fun z => by rw [z, nl] at e; cases e)]; exact e
  refine ⟨H', kp, nl, atl, att, I.call' (ch := []) rfl ⟨fun d o e _ _ _ => hk d o e, fun d o e _ _ _ => ⟨o.slots, hk d o e⟩, fun d o e n _ => ?_, fun d o e _ => ⟨o, hk d o e⟩, fun d r e => kp d _ e, fun d o r e => kp d _ e, fun d r e => ⟨#[], by rw [kp d _ e]; simp⟩⟩ (fun d o e => ?_) I.bare fun d z => by simp at z⟩
  · have q := Heap.lt_size e
    rw [off d (fun z => absurd q (Nat.not_lt.mpr (lo d z).1)) (fun z => absurd q (Nat.not_lt.mpr (z ▸ ll)))]; exact n
  · by_cases hd : d ∈ as
    · obtain ⟨j, hj⟩ := List.mem_iff_getElem?.mp hd
      obtain ⟨x, y, e1, e2, e3⟩ := G.pair j d hj
      obtain ⟨p, hp, rp⟩ := LiI_get rv (by simpa using e1)
      obtain ⟨r, hr, rr⟩ := LiI_get rw' (by simpa using e2)
      rw [att j d p r hj hp hr] at e
      cases e
      exact ⟨by show 2 ≤ sizeLine; decide, [x, y], .cons rp (.cons rr .nil), ⟨_, e3, rfl, _, rfl⟩⟩
    · by_cases h2 : d = l
      · subst h2
        rw [atl] at e
        cases e
        refine ⟨by rw [List.length_map]; exact Nat.le_of_lt (lt1000 hl), acc.toList, c, by rw [hacc]; exact refs_vals as, ?_⟩
        rw [Array.toArray_toList]; exact hS
      · rw [off d hd h2] at e
        exact (I.hok d o e).stay (fun g v _ y => hk g v y) (fun g y => kp g _ y) fun g r y => kp g _ y
def tListZip (K : PySem.W.Frag) (ta : TA) : TE := fun σ H Q => ta σ H fun vs H1 => ∃ a b xs ys, vs = [.ref a, .ref b] ∧ SqT K H1 a xs ∧ SqT K H1 b ys ∧ xs.length = ys.length ∧ xs.length ≤ 1000 ∧
  ∀ (H2 : Hp) (l : Addr) (as : List Addr), Same H1 H2 → H1 l = none → as.length = xs.length → H2 l = some (.lst (as.map V.ref)) → (∀ (j : Nat) (d : Addr) (x y : V), as[j]? = some d → xs[j]? = some x → ys[j]? = some y → H2 d = some (.tup [x, y])) → Q (.ref l) H2
theorem pe_listZip {e e2 : Expr} {ta : TA} {p p2 pos pos2 : Pos} (hc : X.calm = true) (hg : Gl X "list") (hm : X.mg "list" = none) (hg2 : Gl X "zip") (hm2 : X.mg "zip" = none) (ha : PA X [e, e2] ta)
    (na : starEach [.Call (.Name "zip" p2) [e, e2] [] pos2] X.env = (false, eval (.Call (.Name "zip" p2) [e, e2] [] pos2) X.env) :: starEach [] X.env := by rfl)
    (hs : starEach [e, e2] X.env = (false, eval e X.env) :: starEach [e2] X.env := by rfl) (hpl : (backTo pos2 (starEach [e2] X.env)).any (·.1) = false := by rfl) :
    PE X (.Call (.Name "list" p) [.Call (.Name "zip" p2) [e, e2] [] pos2] [] pos) (tListZip X.K ta) := by
  refine ⟨fun pins s σ H Q I h => ?_⟩
  refine Call_ (ld_blt I hg hm PyProof.Rows.boot_list ?_)
  refine PyProof.Rows.callWith_type1 (PyProof.Rows.args_cons ?_ na) na rfl
  refine Call_ (ld_blt I hg2 hm2 PyProof.Rows.boot_zip (PyProof.Rows.callWith_type1 (thn (ha.run pos2 pins s σ H _ I h) fun us s1 ⟨vs, H1, I1, r1, q1⟩ => ?_) hs hpl))
  obtain ⟨a, b, xs, ys, rfl, hqx, hqy, hl, hl2, q⟩ := q1
  obtain ⟨u1, u2, rfl, e1, e2⟩ := vals2 r1
  obtain rfl : u1 = Value.ref a := e1
  obtain rfl : u2 = Value.ref b := e2
  obtain ⟨its, rv, p1, _⟩ := I1.tuple hqx
  obtain ⟨its2, rv2, p2', _⟩ := I1.tuple hqy
  obtain ⟨o1, ho1, _⟩ := id p1
  obtain ⟨o2, ho2, _⟩ := id p2'
  have y1 := rv.length
  have y2 := rv2.length
  refine RZ.call_zipT (show s1.heap.IsTuple a its.toArray from p1) (show s1.heap.IsTuple b its2.toArray from p2') fun h' hz hTI hTO h1 h2 hsz hk => ?_
  refine PyProof.Rows.args_nil ?_
  refine zcall (s := { s1 with heap := h' }) (n := xs.length) (xs := its.toArray) (ys := its2.toArray) (I1.ok.hd hc) (PySem.W.ktu_apart s1.heap.objs.size a b (Heap.lt_size ho1) (Heap.lt_size ho2)) hz hTI hTO h1 h2 (let ⟨o, ho, r⟩ := p1; ⟨o, hk a o ho, r⟩) (let ⟨o, ho, r⟩ := p2'; ⟨o, hk b o ho, r⟩) (by rw [List.size_toArray]; omega) (by rw [List.size_toArray]; omega) hl2 fun h3 acc c as k3 hS hal G hacc => ?_
  have I2 : Inv X pins σ H1 { s1 with heap := h' } := I1.kept (t' := s1.toks) hk
  have ne : ∀ d o, s1.heap.get? d = some o → h3.get? d = some o := fun d o e => by
    have q := Heap.lt_size e
    have nq : ∀ m : Nat, d ≠ s1.heap.objs.size + m := fun m z => absurd q (Nat.not_lt.mpr (z ▸ Nat.le_add_right _ _))
    exact k3 d o (nq 4) (nq 3) (nq 0) (nq 1) (hk d o e)
  obtain ⟨H2, sm, n0, at0, att, J⟩ := zip_laid (tk := s1.toks) I1 rv rv2 (by omega) ne (by rw [hsz]; omega) (Nat.lt_succ_self _) hS G hacc
  exact ⟨.ref h'.objs.size, H2, J, rfl, q H2 _ as sm n0 hal at0 att⟩
end
end R1

/-! text * int, the int any count -/
namespace R1
open PySem PySem.Spec PyProof.Rows L2
def repT (n : Nat) (z : List Nat) : List Nat := (List.replicate n z).flatten
theorem rep_fold (z : Array Nat) : ∀ (n : Nat) (b : Array Nat), ((List.replicate n z).foldl (· ++ ·) b).toList = b.toList ++ (List.replicate n z.toList).flatten
  | 0, b => by simp
  | n + 1, b => by
    rw [List.replicate_succ, List.foldl_cons, rep_fold z n, Array.toList_append, List.replicate_succ, List.flatten_cons, List.append_assoc]
theorem rep_len (z : List Nat) : ∀ n : Nat, (repT n z).length = n * z.length
  | 0 => by simp [repT]
  | n + 1 => by
    have := rep_len z n
    unfold repT at *
    rw [List.replicate_succ, List.flatten_cons, List.length_append, this, Nat.add_mul]
    omega
theorem op_rep {X : Cx} : OpR X (binaryOp .Mult) (fun x y H Q => ∃ (z : List Nat) (n : Nat), x = .str ⟨z.toArray⟩ ∧ y = .int n ∧ n ≤ 1000 ∧ 1 ≤ z.length ∧ z.length ≤ 1000 ∧ Q (.str ⟨(repT n z).toArray⟩) H) := by
  intro pins s σ H x y v u Q I rx ry h
  obtain ⟨z, n, rfl, rfl, h2, h3, h4, q⟩ := h
  obtain ⟨t, rfl⟩ := rx
  obtain ⟨t', rfl⟩ := ry
  have ez : (⟨z.toArray⟩ : Str).length = z.length := by show z.toArray.size = _; simp
  have e24 : sizeLine = 16777216 := by decide
  have hm : z.length * n ≤ 1000 * 1000 := Nat.mul_le_mul h4 h2
  refine PySem.P.mul_str ?_ (fun h1 _ => ?_) (fun _ _ => ?_) ?_
  · rw [decide_eq_false (by omega), decide_eq_false (by omega)]
    rfl
  · have : (1000 : Int) ≤ (2 ^ 63 - 1) / (n : Int) := by
      rw [Int.le_ediv_iff_mul_le (by omega)]
      omega
    rw [ez]
    omega
  · refine decide_eq_false ?_
    rw [e24, ez, Int.toNat_natCast]
    omega
  · have fin : ∀ s' : Shared, s' = { s with toks := s.toks + 1 } → EP X pins σ Q (.str ⟨(repT n z).toArray⟩ s.toks) s' := fun s' e => by
      subst e
      exact ⟨.str ⟨(repT n z).toArray⟩, H, I.tok _, ⟨_, rfl⟩, q⟩
    by_cases h0 : n = 0
    · subst h0
      rw [if_pos (by decide)]
      exact ⟨by decide, fin _ rfl⟩
    · rw [if_neg (by omega)]
      by_cases h1 : n = 1
      · subst h1
        rw [if_pos (by rfl)]
        have e1 : repT 1 z = z := by simp [repT]
        rw [e1] at q
        exact ⟨.str ⟨z.toArray⟩, H, I, ⟨_, rfl⟩, q⟩
      · have c1 : ((n : Int) == 1 || (⟨z.toArray⟩ : Str).length == 0) = false := by
          rw [Bool.or_eq_false_iff, ez]
          exact ⟨by rw [beq_eq_false_iff_ne]; omega, by rw [beq_eq_false_iff_ne]; omega⟩
        rw [c1, if_neg Bool.false_ne_true]
        have eq : (⟨(List.replicate (n : Int).toNat (⟨z.toArray⟩ : Str).cps).foldl (· ++ ·) #[]⟩ : Str) = ⟨(repT n z).toArray⟩ := by
          congr 1
          apply Array.toList_inj.mp
          rw [rep_fold, Int.toNat_natCast]
          simp [repT]
        rw [eq]
        refine ⟨?_, fin _ rfl⟩
        show (repT n z).toArray.size ≤ sizeLine
        rw [e24, List.size_toArray, rep_len, Nat.mul_comm]
        omega
end R1

/-! t[::-1], t a tuple -/
namespace R1
open PySem PySem.Spec PyProof.Rows L2 HT
section
variable {prog : Program} {w : World} {A : Around} {E : Value → Shared → Prop} {s : Shared}
theorem adjust_rev (n : Nat) : Builtin.Slice.sliceAdjust none none (-1) (n : Int) = ((n : Int) - 1, -1) := by
  unfold Builtin.Slice.sliceAdjust
  simp
theorem places_rev (n : Nat) : Builtin.Slice.slicePlaces ((n : Int) - 1) (-1) (-1) = n := by
  unfold Builtin.Slice.slicePlaces
  have h1 : ¬ ((-1 : Int) > 0) := by decide
  simp only [h1, if_false]
  split
  · rw [show (-(-1 : Int)) = 1 by decide, Int.ediv_one]
    omega
  · omega
theorem applied_rev {sl : Addr} {v : Value} {n : Nat} {Q : Int × Int × Nat → Shared → Prop} (hs : s.heap.IsSliceOf sl .none .none v) (p : IsPart v (some (-1))) (q : Q ((n : Int) - 1, -1, n) s) : wpAny (model prog w) A (Builtin.Slice.sliceApplied (.ref sl) (pure (n : Int))) Q E s := by
  obtain ⟨os, hos, hcs, hds⟩ := id hs
  unfold Builtin.Slice.sliceApplied Builtin.Slice.sliceFields
  refine wpAny_bind (wpAny_bind (wpAny_field hos hds (x := .none) rfl (wpAny_bind (wpAny_field hos hds (x := .none) rfl (wpAny_bind (wpAny_field hos hds (x := v) rfl (wpAny_pure ?_)))))))
  refine wpAny_bind (slicePart_ p ?_)
  show wpAny _ _ (if ((-1 : Int) == 0) = true then _ else _) _ _ s
  rw [if_neg (by decide)]
  refine wpAny_bind (slicePart_none (wpAny_bind (slicePart_none (wpAny_bind (wpAny_pure ?_)))))
  show wpAny _ _ (match Builtin.Slice.sliceAdjust none none (-1) (n : Int) with | (l, u) => pure (l, (-1 : Int), Builtin.Slice.slicePlaces l u (-1))) _ _ s
  rw [adjust_rev n]
  show wpAny _ _ (pure ((n : Int) - 1, (-1 : Int), Builtin.Slice.slicePlaces ((n : Int) - 1) (-1) (-1))) _ _ s
  rw [places_rev]
  exact wpAny_pure q
theorem pick_rev (xs : Array Value) : ((List.range xs.size).filterMap fun (m : Nat) => xs[(((xs.size : Int) - 1) + (m : Int) * (-1)).toNat]?).toArray = xs.toList.reverse.toArray := by
  congr 1
  have e : (fun (m : Nat) => xs[(((xs.size : Int) - 1) + (m : Int) * (-1)).toNat]?) = fun m => xs[xs.size - 1 - m]? := by
    funext m
    have : (((xs.size : Int) - 1) + (m : Int) * (-1)).toNat = xs.size - 1 - m := by omega
    rw [this]
  rw [e]
  have f : (List.range xs.size).filterMap (fun m => xs[xs.size - 1 - m]?) = ((List.range xs.size).map fun k => xs.size - 1 - k).filterMap (xs[·]?) := by
    rw [List.filterMap_map]; rfl
  rw [f, PySem.W.krv_range, List.filterMap_reverse, PySem.W.krv_all]
theorem getItem_rev {t sl : Addr} {items : Array Value} {v : Value} {Q : Value → Shared → Prop} (ht : IsTup s.heap t items) (hs : s.heap.IsSliceOf sl .none .none v) (p : IsPart v (some (-1)))
    (h : Q (.ref s.heap.objs.size) { s with heap := s.heap.push { cls := .type "tuple", data := .seq items.toList.reverse.toArray } }) (hz : items.size ≤ sizeLine) : wpAny (model prog w) A (getItem (.ref t) (.ref sl)) Q E s := by
  have hz2 : sizeOk (.seq items.toList.reverse.toArray) := by
    show items.toList.reverse.toArray.size ≤ sizeLine
    rw [List.size_toArray, List.length_reverse, Array.length_toList]; exact hz
  obtain ⟨os, hos, hcs, hds⟩ := id hs
  have ty : s.TypeIs (.ref sl) "slice" := ⟨os, hos, hcs⟩
  unfold getItem
  try with_reducible refine wpAny_holding ?_
  first | refine wpAny_bind (wpAny_pure ?_) | skip
  refine wpAny_bind (wpAny_sequenceKey ht.typeIs (by decide) ?_)
  refine wpAny_bind (wpAny_callSpecial?_slot (name := Str.ofString "__getitem__") ht.typeIs PyProof.Rows.slot_tuple_getitem (wpAny_call_entry PyProof.Rows.slot_tuple_getitem ht.typeIs entry_tuple_getitem ?_ (args_tuple_getitem _ _)))
  show wpAny _ _ (Builtin.Tuple.tupleItemsOf (.ref t) >>= _) _ _ s
  refine wpAny_bind (tupleItemsOf_ ht ?_)
  refine wpAny_bind (wpAny_typeOf ty ?_)
  rw [if_pos (by decide)]
  refine wpAny_bind (applied_rev hs p ?_)
  have hno : ¬ ((((items.size : Int) - 1) == 0 && (-1 : Int) == 1 && items.size == items.size) = true) := by
    rw [show ((-1 : Int) == 1) = false from by decide]
    simp
  show wpAny _ _ (if (((items.size : Int) - 1) == 0 && (-1 : Int) == 1 && items.size == items.size) = true then _ else _) _ _ s
  rw [if_neg hno, pick_rev]
  first
    | exact wpAny_bind (m := Builtin.Tuple.tupleExact _) (wpAny_newObj_type (wpAny_pure ⟨_, rfl, wpAny_pure h⟩) hz2)
    | exact wpAny_bind (m := Builtin.Tuple.tupleExact _) (wpAny_newObj_type (wpAny_bind (wpAny_pure (wpAny_pure ⟨_, rfl, wpAny_pure h⟩))) hz2)
    | exact wpAny_bind (wpAny_bind (m := Builtin.Tuple.tupleExact _) (wpAny_newObj_type (wpAny_pure (wpAny_pure ⟨_, rfl, wpAny_pure h⟩)) hz2))
    | exact wpAny_bind (wpAny_bind (m := Builtin.Tuple.tupleExact _) (wpAny_newObj_type (wpAny_pure ⟨_, rfl, wpAny_pure h⟩) hz2))
end
def tRevT (K : PySem.W.Frag) (te : TE) : TE := fun σ H Q => te σ H fun x H1 => ∃ a xs, x = .ref a ∧ SqT K H1 a xs ∧ ∀ p, H1 p = none → Q (.ref p) (upd H1 p (.tup xs.reverse))
theorem pe_revT {X : Cx} {e : Expr} {te : TE} {k : Nat} {p1 p2 p3 pos : Pos} (he : PE X e te) : PE X (.Subscript e (.Slice none none (some (.UnaryOp .USub (.Constant (.int 1) k p1) p2)) p3) pos) (tRevT X.K te) := by
  refine ⟨fun pins s σ H Q I h => Subscript_ (thn (he.run pins s σ H _ I h) fun v s1 ⟨x, H1, I1, r1, a, xs, ex, hx, q⟩ => ?_)⟩
  subst ex
  cases r1
  have ps : PO X (some (.UnaryOp .USub (.Constant (.int 1) k p1) p2)) (tPart (tUn (rU fun i => .int (-i)) (tC (.int 1)))) := po_some (pe_un un_neg pe_int)
  refine wpAny_Slice (thn (po_none.run pins s1 σ H1 (fun o F => o = none ∧ F = H1) I1 ⟨rfl, rfl⟩) fun vl s2 ⟨l, H2, I2, pl, el, e2⟩ => ?_)
  subst el e2
  refine thn (po_none.run pins s2 σ H2 (fun o F => o = none ∧ F = H2) I2 ⟨rfl, rfl⟩) fun vu s3 ⟨u, H3, I3, pu, eu, e3⟩ => ?_
  subst eu e3
  refine thn (ps.run pins s3 σ H3 (fun o F => o = some (-1) ∧ F = H3) I3 ⟨1, rfl, -1, rfl, rfl, rfl⟩) fun vs s4 ⟨o, H4, I4, pp, eo, e4⟩ => ?_
  subst eo e4
  cases pl
  cases pu
  have J : Inv X pins σ H4 { s4 with heap := s4.heap.push { cls := .type "slice", data := .fields #[.none, .none, vs] } } := I4.kept (t' := s4.toks) fun b ob q => Heap.get?_push_of_some _ q
  obtain ⟨its, r, ht, hz⟩ := J.tuple hx
  have hl := r.length
  show wpAny (model X.prog X.w) X.A (subscriptTail e (.Slice none none (some (.UnaryOp .USub (.Constant (.int 1) k p1) p2)) p3) (.ref a) (.ref s4.heap.objs.size)) (EP X pins σ Q) X.xe { s4 with heap := s4.heap.push { cls := .type "slice", data := .fields #[.none, .none, vs] } }
  refine tail_any (ops := [.ref a, .ref s4.heap.objs.size]) ht.typeIs (PyProof.Rows.slot_tuple_getitem.lookup) ?_ (by with_unfolding_all rfl)
  refine getItem_rev ht (Heap.IsSliceOf.new _ .none .none vs) pp ?_ (by rw [List.size_toArray]; omega)
  refine ⟨.ref _, _, J.laid (t' := s4.toks) (o := .tup xs.reverse) (fun b ob q => Heap.get?_push_of_some _ q) (Nat.le_refl _) ?_, rfl, q _ (J.hok.fresh (Nat.le_refl _))⟩
  exact ⟨by rw [List.length_reverse]; exact hz, _, r.reverse, IsTup.new _ _⟩
end R1

/-! dict(d), a copy -/
namespace R1
open PySem PySem.Spec PyProof.Rows L2
theorem call_dict_of {X : Cx} : CallR X (.type "dict") (fun xs H Q => ∃ (a : Addr) (kvs : List (Key × V)), xs = [.ref a] ∧ H a = some (.dK kvs) ∧ ∀ p, H p = none → Q (.ref p) (upd H p (.dK kvs))) := by
  intro pins s σ H xs us Q I r h
  obtain ⟨a, kvs, rfl, ha, q⟩ := h
  obtain ⟨u, rfl, rx⟩ := vals1 r
  cases rx
  exact d_copyOf I (.inl ha) fun p s' np J => ⟨.ref p, _, J, rfl, q p np⟩
end R1

namespace K0
open PySem PySem.Spec PyProof.Rows L2
def topS (i : Nat) : Stmt := PySem.Challenge.pw_onelooker_k00_names_and_cells.main.body.getD i (.Pass ⟨0, 0, 0, 0⟩)
abbrev s_is_int : Stmt := topS 7
theorem sc_is_int : FnScope ["value"] ["value"] (defScope s_is_int) := ⟨rfl, rfl, rfl, by decide +kernel, rfl, by decide +kernel, by decide +kernel⟩
abbrev s_is_ascending : Stmt := topS 8
theorem sc_is_ascending : FnScope ["items", "low", "high"] ["items"] (defScope s_is_ascending) := ⟨rfl, rfl, rfl, by decide +kernel, rfl, by decide +kernel, by decide +kernel⟩
abbrev s_is_name : Stmt := topS 9
theorem sc_is_name : FnScope ["value", "sign"] ["value"] (defScope s_is_name) := ⟨rfl, rfl, rfl, by decide +kernel, rfl, by decide +kernel, by decide +kernel⟩
abbrev s_check_names : Stmt := topS 10
theorem sc_check_names : FnScope ["names", "name"] ["names"] (defScope s_check_names) := ⟨rfl, rfl, rfl, by decide +kernel, rfl, by decide +kernel, by decide +kernel⟩
abbrev s_pairs : Stmt := topS 11
theorem sc_pairs : FnScope ["names", "at", "name", "later"] ["names"] (defScope s_pairs) := ⟨rfl, rfl, rfl, by decide +kernel, rfl, by decide +kernel, by decide +kernel⟩
abbrev s_marked : Stmt := topS 12
theorem sc_marked : FnScope ["keys", "different", "numbers", "number", "key"] ["keys"] (defScope s_marked) := ⟨rfl, rfl, rfl, by decide +kernel, rfl, by decide +kernel, by decide +kernel⟩
abbrev s_block_count : Stmt := topS 13
theorem sc_block_count : FnScope ["marks"] ["marks"] (defScope s_block_count) := ⟨rfl, rfl, rfl, by decide +kernel, rfl, by decide +kernel, by decide +kernel⟩
abbrev s_partitions : Stmt := topS 14
theorem sc_partitions : FnScope ["count", "rows", "_", "marks", "mark"] ["count"] (defScope s_partitions) := ⟨rfl, rfl, rfl, by decide +kernel, rfl, by decide +kernel, by decide +kernel⟩
abbrev s_meet : Stmt := topS 15
theorem sc_meet : FnScope ["first", "second"] ["first", "second"] (defScope s_meet) := ⟨rfl, rfl, rfl, by decide +kernel, rfl, by decide +kernel, by decide +kernel⟩
abbrev s_cells_over : Stmt := topS 16
theorem sc_cells_over : FnScope ["count", "every", "size", "marks"] ["count"] (defScope s_cells_over) := ⟨rfl, rfl, rfl, by decide +kernel, rfl, by decide +kernel, by decide +kernel⟩
abbrev s_is_partition : Stmt := topS 17
theorem sc_is_partition : FnScope ["value", "count", "mark"] ["value", "count"] (defScope s_is_partition) := ⟨rfl, rfl, rfl, by decide +kernel, rfl, by decide +kernel, by decide +kernel⟩
abbrev s_is_cell : Stmt := topS 18
theorem sc_is_cell : FnScope ["value", "count", "size", "marks"] ["value", "count"] (defScope s_is_cell) := ⟨rfl, rfl, rfl, by decide +kernel, rfl, by decide +kernel, by decide +kernel⟩
abbrev s_check_cell : Stmt := topS 19
theorem sc_check_cell : FnScope ["cell", "count"] ["cell", "count"] (defScope s_check_cell) := ⟨rfl, rfl, rfl, by decide +kernel, rfl, by decide +kernel, by decide +kernel⟩
abbrev s_renamed_marks : Stmt := topS 20
theorem sc_renamed_marks : FnScope ["names", "marks", "mapping", "renamed", "name", "mark", "_"] ["names", "marks", "mapping"] (defScope s_renamed_marks) := ⟨rfl, rfl, rfl, by decide +kernel, rfl, by decide +kernel, by decide +kernel⟩
abbrev s_renamed_card : Stmt := topS 22
theorem sc_renamed_card : FnScope ["card", "names", "mapping", "rows", "words", "size", "marks"] ["card", "names", "mapping"] (defScope s_renamed_card) := ⟨rfl, rfl, rfl, by decide +kernel, rfl, by decide +kernel, by decide +kernel⟩
abbrev s_l_state : Stmt := topS 24
theorem sc_l_state : FnScope ["_law_script"] ["_law_script"] (defScope s_l_state) := ⟨rfl, rfl, rfl, by decide +kernel, rfl, by decide +kernel, by decide +kernel⟩
abbrev s_l_draw : Stmt := topS 25
theorem sc_l_draw : FnScope ["_law_state_here", "_law_many", "_law_cell", "_law_found", "_law_mixed"] ["_law_state_here", "_law_many"] (defScope s_l_draw) := ⟨rfl, rfl, rfl, by decide +kernel, rfl, by decide +kernel, by decide +kernel⟩
abbrev s_l_wide : Stmt := topS 26
theorem sc_l_wide : FnScope ["_law_feed", "_law_many"] ["_law_feed", "_law_many"] (defScope s_l_wide) := ⟨rfl, rfl, rfl, by decide +kernel, rfl, by decide +kernel, by decide +kernel⟩
abbrev s_l_styled : Stmt := topS 27
theorem sc_l_styled : FnScope ["_law_feed", "_law_count", "_law_style", "_law_first", "_law_number", "_law_letters", "_law_names", "_law_k", "_law_at"] ["_law_feed", "_law_count"] (defScope s_l_styled) := ⟨rfl, rfl, rfl, by decide +kernel, rfl, by decide +kernel, by decide +kernel⟩
abbrev s_l_alike : Stmt := topS 28
theorem sc_l_alike : FnScope ["_law_actual", "_law_due", "_law_k"] ["_law_actual", "_law_due"] (defScope s_l_alike) := ⟨rfl, rfl, rfl, by decide +kernel, rfl, by decide +kernel, by decide +kernel⟩
abbrev s_l_partitions : Stmt := topS 29
theorem sc_l_partitions : FnScope ["_law_count", "_law_rows", "_law_step", "_law_longer", "_law_row", "_law_mark"] ["_law_count"] (defScope s_l_partitions) := ⟨rfl, rfl, rfl, by decide +kernel, rfl, by decide +kernel, by decide +kernel⟩
abbrev s_l_cells : Stmt := topS 30
theorem sc_l_cells : FnScope ["_law_count", "_law_found", "_law_size", "_law_marks"] ["_law_count"] (defScope s_l_cells) := ⟨rfl, rfl, rfl, by decide +kernel, rfl, by decide +kernel, by decide +kernel⟩
abbrev s_l_tuples : Stmt := topS 31
theorem sc_l_tuples : FnScope ["_law_choices", "_law_count", "_law_rows", "_law_step", "_law_longer", "_law_row", "_law_choice"] ["_law_choices", "_law_count"] (defScope s_l_tuples) := ⟨rfl, rfl, rfl, by decide +kernel, rfl, by decide +kernel, by decide +kernel⟩
abbrev s_l_name : Stmt := topS 32
theorem sc_l_name : FnScope ["_law_state_here", "_law_text", "_law_k"] ["_law_state_here"] (defScope s_l_name) := ⟨rfl, rfl, rfl, by decide +kernel, rfl, by decide +kernel, by decide +kernel⟩
abbrev s_l_no_name : Stmt := topS 33
theorem sc_l_no_name : FnScope ["_law_state_here", "_law_name_here", "_law_upper", "_law_longer", "_law_menu", "_law_more"] ["_law_state_here"] (defScope s_l_no_name) := ⟨rfl, rfl, rfl, by decide +kernel, rfl, by decide +kernel, by decide +kernel⟩
abbrev s_l_names_error : Stmt := topS 34
theorem sc_l_names_error : FnScope ["_law_names", "_law_answer", "e"] ["_law_names"] (defScope s_l_names_error) := ⟨rfl, rfl, rfl, by decide +kernel, rfl, by decide +kernel, by decide +kernel⟩
abbrev s_l_bent_names : Stmt := topS 35
theorem sc_l_bent_names : FnScope ["_law_state_here", "_law_names", "_law_way", "_law_at", "_law_bad", "_law_rows", "_law_text"] ["_law_state_here", "_law_names"] (defScope s_l_bent_names) := ⟨rfl, rfl, rfl, by decide +kernel, rfl, by decide +kernel, by decide +kernel⟩
abbrev s_l_names_right : Stmt := topS 36
theorem sc_l_names_right : FnScope ["_law_state_here", "_law_names", "_law_due", "_law_k", "_law_j", "_law_bent"] ["_law_state_here"] (defScope s_l_names_right) := ⟨rfl, rfl, rfl, by decide +kernel, rfl, by decide +kernel, by decide +kernel⟩
abbrev s_l_marked : Stmt := topS 37
theorem sc_l_marked : FnScope ["_law_keys", "_law_firsts", "_law_key"] ["_law_keys"] (defScope s_l_marked) := ⟨rfl, rfl, rfl, by decide +kernel, rfl, by decide +kernel, by decide +kernel⟩
abbrev s_l_marks_right : Stmt := topS 38
theorem sc_l_marks_right : FnScope ["_law_state_here", "_law_menu", "_law_keys", "_law_due", "_law_handed", "_law_k"] ["_law_state_here"] (defScope s_l_marks_right) := ⟨rfl, rfl, rfl, by decide +kernel, rfl, by decide +kernel, by decide +kernel⟩
abbrev s_l_partitions_right : Stmt := topS 39
theorem sc_l_partitions_right : FnScope ["_law_state_here", "_law_count", "_law_rows", "_law_found", "_law_row", "_law_step", "_law_first", "_law_second", "_law_due", "_law_k"] ["_law_state_here"] (defScope s_l_partitions_right) := ⟨rfl, rfl, rfl, by decide +kernel, rfl, by decide +kernel, by decide +kernel⟩
abbrev s_l_cell_error : Stmt := topS 40
theorem sc_l_cell_error : FnScope ["_law_cell", "_law_count", "_law_answer", "e"] ["_law_cell", "_law_count"] (defScope s_l_cell_error) := ⟨rfl, rfl, rfl, by decide +kernel, rfl, by decide +kernel, by decide +kernel⟩
abbrev s_l_no_cell : Stmt := topS 41
theorem sc_l_no_cell : FnScope ["_law_state_here", "_law_cell", "_law_size", "_law_marks", "_law_menu", "_law_more"] ["_law_state_here", "_law_cell"] (defScope s_l_no_cell) := ⟨rfl, rfl, rfl, by decide +kernel, rfl, by decide +kernel, by decide +kernel⟩
abbrev s_l_cells_right : Stmt := topS 42
theorem sc_l_cells_right : FnScope ["_law_state_here", "_law_count", "_law_rows", "_law_found", "_law_size", "_law_marks", "_law_due", "_law_cell", "_law_bad"] ["_law_state_here"] (defScope s_l_cells_right) := ⟨rfl, rfl, rfl, by decide +kernel, rfl, by decide +kernel, by decide +kernel⟩
abbrev s_l_renaming : Stmt := topS 43
theorem sc_l_renaming : FnScope ["_law_state_here", "_law_count", "_law_waiting", "_law_targets", "_law_names", "_law_k", "_law_found", "_law_mapping", "_law_name_here", "_law_target"] ["_law_state_here", "_law_count"] (defScope s_l_renaming) := ⟨rfl, rfl, rfl, by decide +kernel, rfl, by decide +kernel, by decide +kernel⟩
abbrev s_l_renamed_right : Stmt := topS 44
theorem sc_l_renamed_right : FnScope ["_law_state_here", "_law_count", "_law_cells_here", "_law_names", "_law_mapping", "_law_found", "_law_rows", "_law_moved", "_law_step", "_law_size", "_law_marks", "_law_words", "_law_due", "_law_handed", "_law_card", "_law_name_here"] ["_law_state_here"] (defScope s_l_renamed_right) := ⟨rfl, rfl, rfl, by decide +kernel, rfl, by decide +kernel, by decide +kernel⟩
abbrev s_law : Stmt := topS 45
theorem sc_law : FnScope ["_law_script", "_law_state_here"] ["_law_script"] (defScope s_law) := ⟨rfl, rfl, rfl, by decide +kernel, rfl, by decide +kernel, by decide +kernel⟩
structure Ad where
  f_is_int : Addr
  d_is_int : FuncData
  f_is_ascending : Addr
  d_is_ascending : FuncData
  f_is_name : Addr
  d_is_name : FuncData
  f_check_names : Addr
  d_check_names : FuncData
  f_pairs : Addr
  d_pairs : FuncData
  f_marked : Addr
  d_marked : FuncData
  f_block_count : Addr
  d_block_count : FuncData
  f_partitions : Addr
  d_partitions : FuncData
  f_meet : Addr
  d_meet : FuncData
  f_cells_over : Addr
  d_cells_over : FuncData
  f_is_partition : Addr
  d_is_partition : FuncData
  f_is_cell : Addr
  d_is_cell : FuncData
  f_check_cell : Addr
  d_check_cell : FuncData
  f_renamed_marks : Addr
  d_renamed_marks : FuncData
  f_renamed_card : Addr
  d_renamed_card : FuncData
  f_l_state : Addr
  d_l_state : FuncData
  f_l_draw : Addr
  d_l_draw : FuncData
  f_l_wide : Addr
  d_l_wide : FuncData
  f_l_styled : Addr
  d_l_styled : FuncData
  f_l_alike : Addr
  d_l_alike : FuncData
  f_l_partitions : Addr
  d_l_partitions : FuncData
  f_l_cells : Addr
  d_l_cells : FuncData
  f_l_tuples : Addr
  d_l_tuples : FuncData
  f_l_name : Addr
  d_l_name : FuncData
  f_l_no_name : Addr
  d_l_no_name : FuncData
  f_l_names_error : Addr
  d_l_names_error : FuncData
  f_l_bent_names : Addr
  d_l_bent_names : FuncData
  f_l_names_right : Addr
  d_l_names_right : FuncData
  f_l_marked : Addr
  d_l_marked : FuncData
  f_l_marks_right : Addr
  d_l_marks_right : FuncData
  f_l_partitions_right : Addr
  d_l_partitions_right : FuncData
  f_l_cell_error : Addr
  d_l_cell_error : FuncData
  f_l_no_cell : Addr
  d_l_no_cell : FuncData
  f_l_cells_right : Addr
  d_l_cells_right : FuncData
  f_l_renaming : Addr
  d_l_renaming : FuncData
  f_l_renamed_right : Addr
  d_l_renamed_right : FuncData
  f_law : Addr
  d_law : FuncData
  c_LookerError : Addr
  c_BadName : Addr
  c_BadCell : Addr
structure Top (K : PySem.W.Frag) (mg : Str → Option Value) (a : Ad) : Prop where
  F_is_int : Fun K "is_int" "is_int" s_is_int a.f_is_int a.d_is_int
  m_is_int : mg "is_int" = some (.ref a.f_is_int)
  b_is_int : Binds K a.d_is_int ["value"] []
  F_is_ascending : Fun K "is_ascending" "is_ascending" s_is_ascending a.f_is_ascending a.d_is_ascending
  m_is_ascending : mg "is_ascending" = some (.ref a.f_is_ascending)
  b_is_ascending : Binds K a.d_is_ascending ["items"] []
  F_is_name : Fun K "is_name" "is_name" s_is_name a.f_is_name a.d_is_name
  m_is_name : mg "is_name" = some (.ref a.f_is_name)
  b_is_name : Binds K a.d_is_name ["value"] []
  F_check_names : Fun K "check_names" "check_names" s_check_names a.f_check_names a.d_check_names
  m_check_names : mg "check_names" = some (.ref a.f_check_names)
  b_check_names : Binds K a.d_check_names ["names"] []
  F_pairs : Fun K "pairs" "pairs" s_pairs a.f_pairs a.d_pairs
  m_pairs : mg "pairs" = some (.ref a.f_pairs)
  b_pairs : Binds K a.d_pairs ["names"] []
  F_marked : Fun K "marked" "marked" s_marked a.f_marked a.d_marked
  m_marked : mg "marked" = some (.ref a.f_marked)
  b_marked : Binds K a.d_marked ["keys"] []
  F_block_count : Fun K "block_count" "block_count" s_block_count a.f_block_count a.d_block_count
  m_block_count : mg "block_count" = some (.ref a.f_block_count)
  b_block_count : Binds K a.d_block_count ["marks"] []
  F_partitions : Fun K "partitions" "partitions" s_partitions a.f_partitions a.d_partitions
  m_partitions : mg "partitions" = some (.ref a.f_partitions)
  b_partitions : Binds K a.d_partitions ["count"] []
  F_meet : Fun K "meet" "meet" s_meet a.f_meet a.d_meet
  m_meet : mg "meet" = some (.ref a.f_meet)
  b_meet : Binds K a.d_meet ["first", "second"] []
  F_cells_over : Fun K "cells_over" "cells_over" s_cells_over a.f_cells_over a.d_cells_over
  m_cells_over : mg "cells_over" = some (.ref a.f_cells_over)
  b_cells_over : Binds K a.d_cells_over ["count"] []
  F_is_partition : Fun K "is_partition" "is_partition" s_is_partition a.f_is_partition a.d_is_partition
  m_is_partition : mg "is_partition" = some (.ref a.f_is_partition)
  b_is_partition : Binds K a.d_is_partition ["value", "count"] []
  F_is_cell : Fun K "is_cell" "is_cell" s_is_cell a.f_is_cell a.d_is_cell
  m_is_cell : mg "is_cell" = some (.ref a.f_is_cell)
  b_is_cell : Binds K a.d_is_cell ["value", "count"] []
  F_check_cell : Fun K "check_cell" "check_cell" s_check_cell a.f_check_cell a.d_check_cell
  m_check_cell : mg "check_cell" = some (.ref a.f_check_cell)
  b_check_cell : Binds K a.d_check_cell ["cell", "count"] []
  F_renamed_marks : Fun K "renamed_marks" "renamed_marks" s_renamed_marks a.f_renamed_marks a.d_renamed_marks
  m_renamed_marks : mg "renamed_marks" = some (.ref a.f_renamed_marks)
  b_renamed_marks : Binds K a.d_renamed_marks ["names", "marks", "mapping"] []
  F_renamed_card : Fun K "renamed_card" "renamed_card" s_renamed_card a.f_renamed_card a.d_renamed_card
  m_renamed_card : mg "renamed_card" = some (.ref a.f_renamed_card)
  b_renamed_card : Binds K a.d_renamed_card ["card", "names", "mapping"] []
  F_l_state : Fun K "_law_state" "_law_state" s_l_state a.f_l_state a.d_l_state
  m_l_state : mg "_law_state" = some (.ref a.f_l_state)
  b_l_state : Binds K a.d_l_state ["_law_script"] []
  F_l_draw : Fun K "_law_draw" "_law_draw" s_l_draw a.f_l_draw a.d_l_draw
  m_l_draw : mg "_law_draw" = some (.ref a.f_l_draw)
  b_l_draw : Binds K a.d_l_draw ["_law_state_here", "_law_many"] []
  F_l_wide : Fun K "_law_wide" "_law_wide" s_l_wide a.f_l_wide a.d_l_wide
  m_l_wide : mg "_law_wide" = some (.ref a.f_l_wide)
  b_l_wide : Binds K a.d_l_wide ["_law_feed", "_law_many"] []
  F_l_styled : Fun K "_law_styled" "_law_styled" s_l_styled a.f_l_styled a.d_l_styled
  m_l_styled : mg "_law_styled" = some (.ref a.f_l_styled)
  b_l_styled : Binds K a.d_l_styled ["_law_feed", "_law_count"] []
  F_l_alike : Fun K "_law_alike" "_law_alike" s_l_alike a.f_l_alike a.d_l_alike
  m_l_alike : mg "_law_alike" = some (.ref a.f_l_alike)
  b_l_alike : Binds K a.d_l_alike ["_law_actual", "_law_due"] []
  F_l_partitions : Fun K "_law_partitions" "_law_partitions" s_l_partitions a.f_l_partitions a.d_l_partitions
  m_l_partitions : mg "_law_partitions" = some (.ref a.f_l_partitions)
  b_l_partitions : Binds K a.d_l_partitions ["_law_count"] []
  F_l_cells : Fun K "_law_cells" "_law_cells" s_l_cells a.f_l_cells a.d_l_cells
  m_l_cells : mg "_law_cells" = some (.ref a.f_l_cells)
  b_l_cells : Binds K a.d_l_cells ["_law_count"] []
  F_l_tuples : Fun K "_law_tuples" "_law_tuples" s_l_tuples a.f_l_tuples a.d_l_tuples
  m_l_tuples : mg "_law_tuples" = some (.ref a.f_l_tuples)
  b_l_tuples : Binds K a.d_l_tuples ["_law_choices", "_law_count"] []
  F_l_name : Fun K "_law_name" "_law_name" s_l_name a.f_l_name a.d_l_name
  m_l_name : mg "_law_name" = some (.ref a.f_l_name)
  b_l_name : Binds K a.d_l_name ["_law_state_here"] []
  F_l_no_name : Fun K "_law_no_name" "_law_no_name" s_l_no_name a.f_l_no_name a.d_l_no_name
  m_l_no_name : mg "_law_no_name" = some (.ref a.f_l_no_name)
  b_l_no_name : Binds K a.d_l_no_name ["_law_state_here"] []
  F_l_names_error : Fun K "_law_names_error" "_law_names_error" s_l_names_error a.f_l_names_error a.d_l_names_error
  m_l_names_error : mg "_law_names_error" = some (.ref a.f_l_names_error)
  b_l_names_error : Binds K a.d_l_names_error ["_law_names"] []
  F_l_bent_names : Fun K "_law_bent_names" "_law_bent_names" s_l_bent_names a.f_l_bent_names a.d_l_bent_names
  m_l_bent_names : mg "_law_bent_names" = some (.ref a.f_l_bent_names)
  b_l_bent_names : Binds K a.d_l_bent_names ["_law_state_here", "_law_names"] []
  F_l_names_right : Fun K "_law_names_right" "_law_names_right" s_l_names_right a.f_l_names_right a.d_l_names_right
  m_l_names_right : mg "_law_names_right" = some (.ref a.f_l_names_right)
  b_l_names_right : Binds K a.d_l_names_right ["_law_state_here"] []
  F_l_marked : Fun K "_law_marked" "_law_marked" s_l_marked a.f_l_marked a.d_l_marked
  m_l_marked : mg "_law_marked" = some (.ref a.f_l_marked)
  b_l_marked : Binds K a.d_l_marked ["_law_keys"] []
  F_l_marks_right : Fun K "_law_marks_right" "_law_marks_right" s_l_marks_right a.f_l_marks_right a.d_l_marks_right
  m_l_marks_right : mg "_law_marks_right" = some (.ref a.f_l_marks_right)
  b_l_marks_right : Binds K a.d_l_marks_right ["_law_state_here"] []
  F_l_partitions_right : Fun K "_law_partitions_right" "_law_partitions_right" s_l_partitions_right a.f_l_partitions_right a.d_l_partitions_right
  m_l_partitions_right : mg "_law_partitions_right" = some (.ref a.f_l_partitions_right)
  b_l_partitions_right : Binds K a.d_l_partitions_right ["_law_state_here"] []
  F_l_cell_error : Fun K "_law_cell_error" "_law_cell_error" s_l_cell_error a.f_l_cell_error a.d_l_cell_error
  m_l_cell_error : mg "_law_cell_error" = some (.ref a.f_l_cell_error)
  b_l_cell_error : Binds K a.d_l_cell_error ["_law_cell", "_law_count"] []
  F_l_no_cell : Fun K "_law_no_cell" "_law_no_cell" s_l_no_cell a.f_l_no_cell a.d_l_no_cell
  m_l_no_cell : mg "_law_no_cell" = some (.ref a.f_l_no_cell)
  b_l_no_cell : Binds K a.d_l_no_cell ["_law_state_here", "_law_cell"] []
  F_l_cells_right : Fun K "_law_cells_right" "_law_cells_right" s_l_cells_right a.f_l_cells_right a.d_l_cells_right
  m_l_cells_right : mg "_law_cells_right" = some (.ref a.f_l_cells_right)
  b_l_cells_right : Binds K a.d_l_cells_right ["_law_state_here"] []
  F_l_renaming : Fun K "_law_renaming" "_law_renaming" s_l_renaming a.f_l_renaming a.d_l_renaming
  m_l_renaming : mg "_law_renaming" = some (.ref a.f_l_renaming)
  b_l_renaming : Binds K a.d_l_renaming ["_law_state_here", "_law_count"] []
  F_l_renamed_right : Fun K "_law_renamed_right" "_law_renamed_right" s_l_renamed_right a.f_l_renamed_right a.d_l_renamed_right
  m_l_renamed_right : mg "_law_renamed_right" = some (.ref a.f_l_renamed_right)
  b_l_renamed_right : Binds K a.d_l_renamed_right ["_law_state_here"] []
  F_law : Fun K "law" "law" s_law a.f_law a.d_law
  m_law : mg "law" = some (.ref a.f_law)
  b_law : Binds K a.d_law ["_law_script"] []
  m_LookerError : mg "LookerError" = some (.ref a.c_LookerError)
  m_BadName : mg "BadName" = some (.ref a.c_BadName)
  m_BadCell : mg "BadCell" = some (.ref a.c_BadCell)
  m_MOST_NAMES : ∃ t, mg "MOST_NAMES" = some (.int 3 t)
  m_ENDLESS : ∃ t, mg "ENDLESS" = some (.int 3 t)
  z_ValueError : mg "ValueError" = none
  z_all : mg "all" = none
  z_bool : mg "bool" = none
  z_dict : mg "dict" = none
  z_enumerate : mg "enumerate" = none
  z_int : mg "int" = none
  z_isinstance : mg "isinstance" = none
  z_len : mg "len" = none
  z_list : mg "list" = none
  z_max : mg "max" = none
  z_range : mg "range" = none
  z_set : mg "set" = none
  z_sorted : mg "sorted" = none
  z_str : mg "str" = none
  z_tuple : mg "tuple" = none
  z_zip : mg "zip" = none
end K0

namespace K0
open PySem PySem.Spec PyProof.Rows L2
section
variable {P : Program} {w : World} {K : PySem.W.Frag} {mg : Str → Option Value} {base : Heap} {a : Ad}
/-- no list, tuple or dict is an int or a truth value: what x is, by its type t -/
def spIsInt (K : PySem.W.Frag) : Sp := fun vs H Q _ => ∃ (x : V) (t : String) (b c : Bool), vs = [x] ∧ TyX K H x (.type t) ∧ kitB t "int" = some b ∧ kitB t "bool" = some c ∧ Q (.bl (b && !c)) H
theorem ok_is_int (T : Top K mg a) : FnOk P w K mg base CX0 1 a.f_is_int a.d_is_int ["value"] (spIsInt K) := by
  refine T.F_is_int.ok sc_is_int (fun vs H Q E h => ?_) (fun cdv A outer s H vs Q E hr h => ?_)
  · obtain ⟨x, t, b, c, rfl, _⟩ := h
    rfl
  · obtain ⟨x, t, b, c, rfl, ht, hb, hc, q⟩ := h
    refine ⟨_, (pss_one (ps_ret (pe_and (pe_callB call_isi (by rfl) T.z_isinstance (by decide +kernel) (pa_cons (pv 0) (pa_cons (pe_bltn (v := .ty "int") (by rfl) T.z_int (by decide +kernel) rfl) pa_nil))) (pe_one (pe_not (pe_callB call_isi (by rfl) T.z_isinstance (by decide +kernel) (pa_cons (pv 0) (pa_cons (pe_bltn (v := .ty "bool") (by rfl) T.z_bool (by decide +kernel) rfl) pa_nil)))))))), ?_⟩
    refine ⟨x, rfl, x, .ty "int", .type t, .type "int", b, rfl, .ty _, ht, kit_ty hb, b, rfl, ?_⟩
    cases b with
    | false => exact q
    | true =>
      refine iteT ⟨x, rfl, x, .ty "bool", .type t, .type "bool", c, rfl, .ty _, ht, kit_ty hc, c, rfl, ?_⟩
      simpa using q
end
end K0

namespace K0
open PySem PySem.Spec PyProof.Rows L2
section
variable {P : Program} {w : World} {K : PySem.W.Frag} {mg : Str → Option Value} {base : Heap} {a : Ad}
/-- the drawing state at st -/
structure Sta (H : Hp) (st : Addr) : Prop where
  ex : ∃ (sc : Addr) (ns : List Int) (i b s l : Int), sc ≠ st ∧ H st = some (.lst [.ref sc, .int i, .int b, .int s, .int l]) ∧ H sc = some (.lst (ns.map V.int)) ∧ 0 ≤ i ∧ 0 ≤ b ∧ 0 ≤ s ∧ s < 10 ^ 18 ∧ 0 ≤ l ∧ l ≤ 6
/-- all else stays -/
def Kp (st : Addr) (H H' : Hp) : Prop := ∀ b o, b ≠ st → H b = some o → H' b = some o
theorem Kp.refl (st : Addr) (H : Hp) : Kp st H H := fun _ _ _ h => h
theorem Kp.trans {st : Addr} {H H1 H2 : Hp} (x : Kp st H H1) (y : Kp st H1 H2) : Kp st H H2 := fun b o n h => y b o n (x b o n h)
theorem Kp.put {st : Addr} {H H1 : Hp} {o : HO} (x : Kp st H H1) : Kp st H (upd H1 st o) := fun b u n h => by
  rw [upd_ne n]
  exact x b u n h
theorem Same.kp {st : Addr} {H H' : Hp} (h : Same H H') : Kp st H H' := fun b o _ e => h b o e
def spDraw : Sp := fun vs H Q _ => ∃ (st : Addr) (m : Int), vs = [.ref st, .int m] ∧ Sta H st ∧ 1 ≤ m ∧ m < 2 ^ 60 ∧ ∀ H' v, Kp st H H' → Sta H' st → 0 ≤ v → v < m → Q (.int v) H'
theorem ixv {K : PySem.W.Frag} {i : Nat} {p : Addr} {xs : List V} {v : V} {σ : L2.St} {H : Hp} {Q : VK} (j : Nat) (h0 : σ[i]? = some (some (.ref p))) (h : SqL K H p xs) (e : xs[j]? = some v) (q : Q v H) : tOp (rIx K) (tVar i) (tC (.int (j : Int))) σ H Q :=
  ⟨.ref p, h0, .inl ⟨p, xs, j, v, rfl, rfl, h, atI_nat e, q⟩⟩
theorem eqi {K : PySem.W.Frag} {x y : Int} {H : Hp} {Q : Bool → Hp → Prop} (q : Q (decide (x = y)) H) : (fun x y H Q => rEq x y H Q ∨ rEqD K x y H Q) (.int x) (.int y) H (fun z H' => ∃ k, z = .bl k ∧ Q k H') := .inl ⟨rfl, _, rfl, by
  have e : decide (V.int x = V.int y) = decide (x = y) := by
    by_cases h : x = y
    · rw [decide_eq_true h, decide_eq_true (by rw [h])]
    · rw [decide_eq_false h, decide_eq_false (fun z => h (V.int.inj z))]
  rw [e]; exact q⟩
theorem setv {p : Addr} {xs : List V} {v : V} {H : Hp} {Q : Hp → Prop} (j : Nat) (h : H p = some (.lst xs)) (hj : j < xs.length) (q : Q (upd H p (.lst (xs.set j v)))) : rSetL (.ref p) (.int (j : Int)) v H Q := ⟨p, xs, j, j, rfl, rfl, h, by
  unfold ixN
  rw [if_pos (by omega), if_pos (by omega)]
  simp, q⟩
theorem sta_cell {H : Hp} {st : Addr} {xs : List V} {j : Nat} {v : V} (h : H st = some (.lst xs)) (e : xs[j]? = some v) : (∃ (p : Addr) (ys : List V) (i : Int) (u : V), V.ref st = .ref p ∧ V.int (j : Int) = .int i ∧ SqL K H p ys ∧ atI ys i = some u ∧ u = v) := ⟨st, xs, j, v, rfl, rfl, SqL.of h, atI_nat e, rfl⟩
theorem ok_draw (T : Top K mg a) : FnOk P w K mg base CX0 1 a.f_l_draw a.d_l_draw ["_law_state_here", "_law_many"] spDraw := by
  refine T.F_l_draw.ok sc_l_draw (fun vs H Q E h => ?_) (fun cdv A outer s H vs Q E hr h => ?_)
  · obtain ⟨st, m, rfl, _⟩ := h
    rfl
  · obtain ⟨st, m, rfl, ⟨sc, ns, i, b, s, l, hne, hst, hsc, hi, hb, hs0, hs1, hl0, hl1⟩, hm0, hm1, q⟩ := h
    refine ⟨_, (pss_cons (ps_if (pt_cmpR (OpR.or op_lt op_lt_str) (pv 1) pe_int (nomark _))
      (pss_one (ps_ret pe_int))
      pss_nil)
    (C8.pss_cut (ps_if (PW.pt (pw_and (pt_cmpR (OpR.or op_eq (op_eqD hr.units)) (pe_ix ix_seq (pv 0) pe_int (fun _ _ => rfl)) pe_int (nomark _)) (pw_and (pt_cmpR (OpR.or op_eq (op_eqD hr.units)) (pe_ix ix_seq (pv 0) pe_int (fun _ _ => rfl)) pe_int (nomark _)) (pw_and1 (pt_cmpR (OpR.or op_lt op_lt_str) (pe_ix ix_seq (pv 0) pe_int (fun _ _ => rfl)) (pe_callB (CallR.or call_len_str call_len_seq) (by rfl) T.z_len (by decide +kernel) (pa_cons (pe_ix ix_seq (pv 0) pe_int (fun _ _ => rfl)) pa_nil)) (nomark _))))))
      (pss_cons (ps_set (i := 2) sc_l_draw.nd rfl (.inl rfl) (pe_ix ix_seq (pe_ix ix_seq (pv 0) pe_int (fun _ _ => rfl)) (pe_ix ix_seq (pv 0) pe_int (fun _ _ => rfl)) (fun _ _ => rfl)))
      (pss_cons (ps_asg (pe_op (OpR.or op_add (OpR.or op_add_str (OpR.or op_cat op_catT))) (pe_ix ix_seq (pv 0) pe_int (fun _ _ => rfl)) pe_int) (pg_sub (pv 0) pe_int set_list))
      (pss_cons (ps_if (pt_cmpR (OpR.or op_lt op_lt_str) (pv 2) pe_int (nomark _))
        (pss_one (ps_set (i := 2) sc_l_draw.nd rfl (.inl rfl) (pe_op op_sub pe_int (pe_op (OpR.or op_mul op_mulW) pe_int (pv 2)))))
        pss_nil)
      (pss_one (ps_if (pt_cmpR (OpR.or op_ge op_ge_str) (pv 2) (pe_op op_pow pe_int pe_int) (nomark _))
        (pss_one (ps_asg (pv 2) (pg_sub (pv 0) pe_int set_list)))
        (pss_cons (ps_asg (pv 2) (pg_sub (pv 0) pe_int set_list))
        (pss_one (ps_asg pe_int (pg_sub (pv 0) pe_int set_list)))))))))
      pss_nil)
    (pss_cons (ps_if (pt_cmpR (OpR.or op_gt op_gt_str) (pe_ix ix_seq (pv 0) pe_int (fun _ _ => rfl)) pe_int (nomark _))
      (pss_cons (ps_set (i := 3) sc_l_draw.nd rfl (.inl rfl) (pe_op op_mod (pe_callTy (CallR.or call_int1 call_int_str) (by rfl) T.z_int (by decide +kernel) (pa_cons (pe_ix ix_seq (pv 0) pe_int (fun _ _ => rfl)) pa_nil)) (pv 1)))
      (pss_cons (ps_asg (pe_op op_fdivW (pe_ix ix_seq (pv 0) pe_int (fun _ _ => rfl)) (pv 1)) (pg_sub (pv 0) pe_int set_list))
      (pss_one (ps_ret (pv 3)))))
      pss_nil)
    (pss_cons (ps_if (pt_cmpR (OpR.or op_gt op_gt_str) (pe_ix ix_seq (pv 0) pe_int (fun _ _ => rfl)) pe_int (nomark _))
      (pss_cons (ps_asg (pe_op op_sub (pe_ix ix_seq (pv 0) pe_int (fun _ _ => rfl)) pe_int) (pg_sub (pv 0) pe_int set_list))
      (pss_cons (ps_set (i := 4) sc_l_draw.nd rfl (.inl rfl) (pe_op op_mod (pe_callTy (CallR.or call_int1 call_int_str) (by rfl) T.z_int (by decide +kernel) (pa_cons (pe_op (OpR.or op_mul op_mulW) (pe_ix ix_seq (pv 0) pe_int (fun _ _ => rfl)) (pe_op (OpR.or op_add (OpR.or op_add_str (OpR.or op_cat op_catT))) pe_int (pe_op (OpR.or op_mul op_mulW) pe_int (pe_ix ix_seq (pv 0) pe_int (fun _ _ => rfl))))) pa_nil)) pe_int))
      (pss_cons (ps_set (i := 4) sc_l_draw.nd rfl (.inl rfl) (pe_op op_mod (pe_callTy (CallR.or call_int1 call_int_str) (by rfl) T.z_int (by decide +kernel) (pa_cons (pe_op (OpR.or op_mul op_mulW) (pv 4) (pe_op (OpR.or op_add (OpR.or op_add_str (OpR.or op_cat op_catT))) pe_int (pe_ix ix_seq (pv 0) pe_int (fun _ _ => rfl)))) pa_nil)) pe_int))
      (pss_one (ps_ret (pe_op op_mod (pe_callTy (CallR.or call_int1 call_int_str) (by rfl) T.z_int (by decide +kernel) (pa_cons (pv 4) pa_nil)) (pv 1)))))))
      pss_nil)
    (pss_one (ps_ret pe_int)))))), ?_⟩
    refine ⟨.int m, rfl, .inl ⟨m, 2, rfl, rfl, _, rfl, ite2 (fun e => ?_) (fun e => ?_)⟩⟩
    · exact q H 0 (Kp.refl _ _) ⟨sc, ns, i, b, s, l, hne, hst, hsc, hi, hb, hs0, hs1, hl0, hl1⟩ (by omega) (by omega)
    · have hm2 : 2 ≤ m := by
        have := of_decide_eq_false (Bool.eq_false_iff.mpr e)
        omega
      refine ⟨fun σ' H' => ∃ y2 y3 y4, σ' = [some (.ref st), some (.int m), y2, y3, y4] ∧ Kp st H H' ∧ Sta H' st, ?_, ?_⟩
      · -- load
        have S0 : Sta H st := ⟨sc, ns, i, b, s, l, hne, hst, hsc, hi, hb, hs0, hs1, hl0, hl1⟩
        refine ixv 2 rfl (SqL.of hst) rfl (eqi (ite2 (fun e1 => ?_) (fun e1 => ?_)))
        rotate_left
        · exact iteF ⟨_, _, _, rfl, Kp.refl _ _, S0⟩
        refine ixv 4 rfl (SqL.of hst) rfl (eqi (ite2 (fun e2 => ?_) (fun e2 => ?_)))
        rotate_left
        · exact iteF ⟨_, _, _, rfl, Kp.refl _ _, S0⟩
        refine ixv 1 rfl (SqL.of hst) rfl (ixv 0 rfl (SqL.of hst) rfl (.inr ⟨sc, _, rfl, .inl (SqL.of hsc), .inl ⟨i, _, rfl, rfl, _, rfl, ite2 (fun e3 => ?_) (fun e3 => ?_)⟩⟩))
        rotate_left
        · exact ⟨_, _, _, rfl, Kp.refl _ _, S0⟩
        have h3 : i < ns.length := by
          have := of_decide_eq_true e3
          simpa using this
        obtain ⟨j, rfl⟩ : ∃ j : Nat, i = j := ⟨i.toNat, by omega⟩
        have hj : j < ns.length := by omega
        refine ixv 0 rfl (SqL.of hst) rfl (ixv 1 rfl (SqL.of hst) rfl (.inl ⟨sc, _, _, .int ns[j], rfl, rfl, SqL.of hsc, atI_nat (by simp [hj]), ?_⟩))
        refine ixv 1 rfl (SqL.of hst) rfl (.inl ⟨_, 1, rfl, rfl, ?_⟩)
        refine ⟨.ref st, rfl, setv 1 hst (by simp) ?_⟩
        -- the cell, not below 0
        have tail : ∀ (c : Int) (y3 y4 : Option V), 0 ≤ c → tIfS (tTest (tOp (fun x y H Q => rI0 (fun i j => V.bl (decide (j ≤ i))) x y H Q ∨ ∃ i j, x = V.str i ∧ y = V.str j ∧ Q (V.bl (!decide (i.cps.toList < j.cps.toList))) H) (tVar 2) (tOp (rI CPow fun i j => V.int (i ^ j.toNat)) (tC (.int 10)) (tC (.int 18)))))
            (tAsg (tVar 2) (gSub (tVar 0) (tC (.int 2)) rSetL)) (tSeq (tAsg (tVar 2) (gSub (tVar 0) (tC (.int 3)) rSetL)) (tAsg (tC (.int 6)) (gSub (tVar 0) (tC (.int 4)) rSetL)))
            { nx := fun σ' H' => ∃ y2 y3 y4, σ' = [some (.ref st), some (.int m), y2, y3, y4] ∧ Kp st H H' ∧ Sta H' st, rt := Q } [some (.ref st), some (.int m), some (.int c), y3, y4] (upd H st (.lst [.ref sc, .int (j + 1), .int b, .int s, .int l])) := by
          intro c y3 y4 hc
          have hsc' : (upd H st (.lst [.ref sc, .int (j + 1), .int b, .int s, .int l])) sc = some (.lst (ns.map V.int)) := by
            rw [upd_ne hne]; exact hsc
          refine ⟨.int c, rfl, 10, 18, rfl, rfl, ⟨by decide, by decide⟩, .inl ⟨c, _, rfl, rfl, _, rfl, ite2 (fun e => ?_) (fun e => ?_)⟩⟩
          · refine ⟨.int c, rfl, .ref st, rfl, setv 2 upd_same (by simp) ?_⟩
            refine ⟨_, _, _, rfl, (Kp.refl _ _).put.put, sc, ns, j + 1, c, s, l, hne, upd_same, ?_, by omega, hc, hs0, hs1, hl0, hl1⟩
            rw [upd_ne hne]; exact hsc'
          · have hlt : c < 10 ^ 18 := by
              have := of_decide_eq_false (Bool.eq_false_iff.mpr e)
              have e18 : (10 : Int) ^ (18 : Int).toNat = 10 ^ 18 := rfl
              rw [e18] at this
              omega
            refine ⟨.int c, rfl, .ref st, rfl, setv 3 upd_same (by simp) ?_⟩
            refine ⟨.ref st, rfl, setv 4 upd_same (by simp) ?_⟩
            refine ⟨_, _, _, rfl, (Kp.refl _ _).put.put.put, sc, ns, j + 1, b, c, 6, hne, upd_same, ?_, by omega, hb, hc, hlt, by omega, by omega⟩
            rw [upd_ne hne, upd_ne hne]; exact hsc'
        refine ⟨.int ns[j], rfl, .inl ⟨_, 0, rfl, rfl, _, rfl, ite2 (fun e => ?_) (fun e => ?_)⟩⟩
        · have hneg : ns[j] < 0 := of_decide_eq_true e
          refine ⟨.int ns[j], rfl, .inl ⟨2, _, rfl, rfl, .inl ⟨by decide, by decide⟩, 1, _, rfl, rfl, ?_⟩⟩
          exact tail (1 - 2 * ns[j]) _ _ (by omega)
        · have hpos : ¬ ns[j] < 0 := of_decide_eq_false (Bool.eq_false_iff.mpr e)
          exact tail ns[j] _ _ (by omega)
      · rintro σ' H1 ⟨y2, y3, y4, rfl, hk, sc, ns, i, b, s, l, hne, hst, hsc, hi, hb, hs0, hs1, hl0, hl1⟩
        have hsc2 : ∀ o, (upd H1 st o) sc = some (.lst (ns.map V.int)) := fun o => by
          rw [upd_ne hne]; exact hsc
        refine ixv 2 rfl (SqL.of hst) rfl (.inl ⟨b, 0, rfl, rfl, _, rfl, ite2 (fun e => ?_) (fun e => ?_)⟩)
        · have hb1 : 0 < b := of_decide_eq_true e
          refine ixv 2 rfl (SqL.of hst) rfl (.inl (.inl ⟨b, rfl, .int m, rfl, b, m, rfl, rfl, by omega, ?_⟩))
          refine ixv 2 rfl (SqL.of hst) rfl ⟨.int m, rfl, b, m, rfl, rfl, wide_div (b := 60) (by omega) (by omega) (by decide) (by decide), .ref st, rfl, setv 2 hst (by simp) ?_⟩
          refine ⟨.int (b % m), rfl, q _ _ hk.put ⟨sc, ns, i, b / m, s, l, hne, upd_same, hsc2 _, hi, Int.ediv_nonneg hb (by omega), hs0, hs1, hl0, hl1⟩ (Int.emod_nonneg _ (by omega)) (Int.emod_lt_of_pos _ (by omega))⟩
        · refine ixv 4 rfl (SqL.of hst) rfl (.inl ⟨l, 0, rfl, rfl, _, rfl, ite2 (fun e2 => ?_) (fun e2 => ?_)⟩)
          · have hl2 : 0 < l := of_decide_eq_true e2
            refine ixv 4 rfl (SqL.of hst) rfl ⟨l, 1, rfl, rfl, .ref st, rfl, setv 4 hst (by simp) ?_⟩
            have hA : (upd H1 st (.lst [.ref sc, .int i, .int b, .int s, .int (l - 1)])) st = some (.lst [.ref sc, .int i, .int b, .int s, .int (l - 1)]) := upd_same
            refine ixv 3 rfl (SqL.of hA) rfl (ixv 4 rfl (SqL.of hA) rfl (.inl ⟨2, l - 1, rfl, rfl, .inl ⟨by decide, by decide⟩, ?_⟩))
            refine .inl ⟨48271, _, rfl, rfl, .inl ⟨s, _, rfl, rfl, .inl ⟨by omega, by omega⟩, ?_⟩⟩
            refine .inl (.inl ⟨_, rfl, _, 2147483647, rfl, rfl, by (show (0 : Int) < _; decide), ?_⟩)
            have h4 := Int.emod_nonneg (s * (48271 + 2 * (l - 1))) (show (2147483647 : Int) ≠ 0 by decide)
            have h5 := Int.emod_lt_of_pos (s * (48271 + 2 * (l - 1))) (show (0 : Int) < 2147483647 by decide)
            refine ⟨.int (s * (48271 + 2 * (l - 1)) % 2147483647), rfl, ixv 4 rfl (SqL.of hA) rfl (.inl ⟨16807, l - 1, rfl, rfl, .inl ⟨_, _, rfl, rfl, .inl ⟨by omega, by omega⟩, ?_⟩⟩)⟩
            refine .inl (.inl ⟨_, rfl, _, 1000003, rfl, rfl, by (show (0 : Int) < _; decide), ?_⟩)
            refine ⟨_, rfl, .inl (.inl ⟨_, rfl, .int m, rfl, _, m, rfl, rfl, by omega, ?_⟩)⟩
            exact q _ _ hk.put ⟨sc, ns, i, b, s, l - 1, hne, upd_same, hsc2 _, hi, hb, hs0, hs1, by omega, by omega⟩ (Int.emod_nonneg _ (by omega)) (Int.emod_lt_of_pos _ (by omega))
          · exact q _ _ hk ⟨sc, ns, i, b, s, l, hne, hst, hsc, hi, hb, hs0, hs1, hl0, hl1⟩ (by omega) (by omega)
end
end K0


namespace K0
open PySem PySem.Spec PyProof.Rows L2
section
variable {P : Program} {w : World} {K : PySem.W.Frag} {mg : Str → Option Value} {base : Heap} {a : Ad}
def spState (K : PySem.W.Frag) : Sp := fun vs H Q _ => ∃ (p : Addr) (ns : List Int), vs = [.ref p] ∧ SqL K H p (ns.map V.int) ∧ ∀ H' st, H st = none → Same H H' → Sta H' st → Q (.ref st) H'
theorem same_upd {H : Hp} {p : Addr} {o : HO} (h : H p = none) : Same H (upd H p o) := fun b x e => by
  rw [upd_ne (ne_of_none e h)]
  exact e
theorem ok_state (T : Top K mg a) : FnOk P w K mg base CX0 1 a.f_l_state a.d_l_state ["_law_script"] (spState K) := by
  refine T.F_l_state.ok sc_l_state (fun vs H Q E h => ?_) (fun cdv A outer s H vs Q E hr h => ?_)
  · obtain ⟨st, m, rfl, _⟩ := h
    rfl
  · obtain ⟨p, ns, rfl, hS, q⟩ := h
    refine ⟨_, (pss_one (ps_ret (pe_lst (pa_cons (pe_callTy call_list_of (by rfl) T.z_list (by decide +kernel) (pa_cons (pv 0) pa_nil)) (pa_cons pe_int (pa_cons pe_int (pa_cons pe_int (pa_cons pe_int pa_nil)))))))), ?_⟩
    refine ⟨.ref p, rfl, p, _, rfl, .inl hS, fun sc nsc => ?_⟩
    refine ⟨by show 5 ≤ sizeLine; decide, fun st nst => ?_⟩
    have hne : sc ≠ st := fun e => by
      rw [← e, upd_same] at nst
      cases nst
    have n0 : H st = none := by
      rw [upd_ne (Ne.symm hne)] at nst
      exact nst
    refine q _ st n0 ((same_upd nsc).trans (same_upd nst)) ⟨sc, ns, 0, 0, 0, 0, hne, upd_same, ?_, by omega, by omega, by omega, by decide, by omega, by omega⟩
    rw [upd_ne hne, upd_same]
/-- _law_wide -/
def spWide : Sp := fun vs H Q _ => ∃ (st : Addr) (m : Int), vs = [.ref st, .int m] ∧ Sta H st ∧ 1 ≤ m ∧ ∀ H' v, Kp st H H' → Sta H' st → 0 ≤ v → v < m → Q (.int v) H'
theorem ok_wide (T : Top K mg a) : FnOk P w K mg base CX0 2 a.f_l_wide a.d_l_wide ["_law_feed", "_law_many"] spWide := by
  have G_l_draw := ok_draw (P := P) (w := w) (base := base) T
  refine T.F_l_wide.ok sc_l_wide (fun vs H Q E h => ?_) (fun cdv A outer s H vs Q E hr h => ?_)
  · obtain ⟨st, m, rfl, _⟩ := h
    rfl
  · obtain ⟨st, m, rfl, S, hm, q⟩ := h
    refine ⟨_, (pss_one (ps_ret (pe_op op_mod (pe_callTy (CallR.or call_int1 call_int_str) (by rfl) T.z_int (by decide +kernel) (pa_cons (pe_op (OpR.or op_add (OpR.or op_add_str (OpR.or op_cat op_catT))) (pe_op (OpR.or op_mul op_mulW) pe_int (pe_call G_l_draw (hr.mono (by decide)) (by rfl) T.m_l_draw T.F_l_draw.kp T.b_l_draw .nil pass0 (pa_cons (pv 0) (pa_cons pe_int pa_nil)))) (pe_call G_l_draw (hr.mono (by decide)) (by rfl) T.m_l_draw T.F_l_draw.kp T.b_l_draw .nil pass0 (pa_cons (pv 0) (pa_cons pe_int pa_nil)))) pa_nil)) (pv 1)))), ?_⟩
    refine ⟨.ref st, rfl, st, 60, rfl, S, by decide, by decide, fun H1 v1 k1 S1 a1 b1 => ?_⟩
    refine .inl ⟨60, v1, rfl, rfl, .inl ⟨by decide, by decide⟩, ?_⟩
    refine ⟨.ref st, rfl, st, 60, rfl, S1, by decide, by decide, fun H2 v2 k2 S2 a2 b2 => ?_⟩
    refine .inl ⟨60 * v1, v2, rfl, rfl, .inl (.inl ⟨_, rfl, .int m, rfl, _, m, rfl, rfl, by omega, ?_⟩)⟩
    exact q _ _ (k1.trans k2) S2 (Int.emod_nonneg _ (by omega)) (Int.emod_lt_of_pos _ (by omega))
/-! ### alike -/
theorem tyx_l {H : Hp} {p : Addr} {xs : List V} (h : SqL K H p xs) : TyX K H (.ref p) (.type "list") := by
  rcases h with (h | ⟨o, h⟩) | ⟨o, its, n, h, hc, _⟩
  · exact .base (.lst h)
  · exact .base (.frz h)
  · exact .kList h hc
theorem tyx_t {H : Hp} {p : Addr} {xs : List V} (h : SqT K H p xs) : TyX K H (.ref p) (.type "tuple") := by
  rcases h with (h | ⟨o, h⟩) | ⟨o, its, n, h, hc, _⟩
  · exact .base (.tup h)
  · exact .fTuple h
  · exact .kTuple h hc
/-- alike by one more layer -/
inductive SmS (K : PySem.W.Frag) (R : Hp → V → V → Prop) (H : Hp) : V → V → Prop where
  | non : SmS K R H .non .non
  | bl (b : Bool) : SmS K R H (.bl b) (.bl b)
  | int (i : Int) : SmS K R H (.int i) (.int i)
  | str (x : Str) : SmS K R H (.str x) (.str x)
  | lst {p q : Addr} {xs ys : List V} (hx : SqL K H p xs) (hy : SqL K H q ys) (l : xs.length = ys.length) (lt : xs.length ≤ 1000000) (r : ∀ (i : Nat) x y, xs[i]? = some x → ys[i]? = some y → R H x y) : SmS K R H (.ref p) (.ref q)
  | tup {p q : Addr} {xs ys : List V} (hx : SqT K H p xs) (hy : SqT K H q ys) (l : xs.length = ys.length) (lt : xs.length ≤ 1000000) (r : ∀ (i : Nat) x y, xs[i]? = some x → ys[i]? = some y → R H x y) : SmS K R H (.ref p) (.ref q)
def Sm (K : PySem.W.Frag) : Nat → Hp → V → V → Prop
  | 0 => fun _ _ _ => False
  | n + 1 => SmS K (Sm K n)
def spAl (R : Hp → V → V → Prop) : Sp := fun vs H Q _ => ∃ x y, vs = [x, y] ∧ R H x y ∧ Q (.bl true) H
theorem isiv {K : PySem.W.Frag} {σ : L2.St} {H : Hp} {i : Nat} {x : V} {t c : String} {b : Bool} {Q : VK} (h0 : σ[i]? = some (some x)) (ht : TyX K H x (.type t)) (hb : kitB t c = some b) (q : Q (.bl b) H) : tCB (rIsi K) (tCons (tVar i) (tCons (tC (.ty c)) tNil)) σ H Q :=
  ⟨x, h0, x, .ty c, .type t, .type c, b, rfl, .ty _, ht, kit_ty hb, q⟩
theorem isit {K : PySem.W.Frag} {σ : L2.St} {H : Hp} {i : Nat} {x : V} {t c : String} {b : Bool} {Q : Bool → Hp → Prop} (h0 : σ[i]? = some (some x)) (ht : TyX K H x (.type t)) (hb : kitB t c = some b) (q : Q b H) : tB (tCB (rIsi K) (tCons (tVar i) (tCons (tC (.ty c)) tNil))) σ H Q :=
  isiv h0 ht hb ⟨b, rfl, q⟩
theorem al_step {k : Nat} {R : Hp → V → V → Prop} (T : Top K mg a) (G_l_alike : FnOk P w K mg base CX0 k a.f_l_alike a.d_l_alike ["_law_actual", "_law_due"] (spAl R)) : FnOk P w K mg base CX0 (k + 1) a.f_l_alike a.d_l_alike ["_law_actual", "_law_due"] (spAl (SmS K R)) := by
  refine T.F_l_alike.ok sc_l_alike (fun vs H Q E h => ?_) (fun cdv A outer s H vs Q E hr h => ?_)
  · obtain ⟨x, y, rfl, _⟩ := h
    rfl
  · obtain ⟨x, y, rfl, S, q⟩ := h
    refine ⟨_, (pss_cons (ps_if (pt_cmpR op_isN (pv 1) pe_non (nomark _))
      (pss_one (ps_ret (pe_cmpR op_isN (pv 0) pe_non (nomark _))))
      pss_nil)
    (pss_cons (ps_if (PW.pt (pw_or (pt_val (pe_callB call_isi (by rfl) T.z_isinstance (by decide +kernel) (pa_cons (pv 1) (pa_cons (pe_bltn (v := .ty "bool") (by rfl) T.z_bool (by decide +kernel) rfl) pa_nil)))) (pw_or1 (pt_val (pe_callB call_isi (by rfl) T.z_isinstance (by decide +kernel) (pa_cons (pv 0) (pa_cons (pe_bltn (v := .ty "bool") (by rfl) T.z_bool (by decide +kernel) rfl) pa_nil)))))))
      (pss_one (ps_ret (pe_and (pe_callB call_isi (by rfl) T.z_isinstance (by decide +kernel) (pa_cons (pv 1) (pa_cons (pe_bltn (v := .ty "bool") (by rfl) T.z_bool (by decide +kernel) rfl) pa_nil))) (pe_and (pe_callB call_isi (by rfl) T.z_isinstance (by decide +kernel) (pa_cons (pv 0) (pa_cons (pe_bltn (v := .ty "bool") (by rfl) T.z_bool (by decide +kernel) rfl) pa_nil))) (pe_one (pe_cmpR (OpR.or op_eq (op_eqD hr.units)) (pv 0) (pv 1) (nomark _)))))))
      pss_nil)
    (pss_cons (ps_if (pt_val (pe_callB call_isi (by rfl) T.z_isinstance (by decide +kernel) (pa_cons (pv 1) (pa_cons (pe_bltn (v := .ty "int") (by rfl) T.z_int (by decide +kernel) rfl) pa_nil))))
      (pss_one (ps_ret (pe_and (pe_callB call_isi (by rfl) T.z_isinstance (by decide +kernel) (pa_cons (pv 0) (pa_cons (pe_bltn (v := .ty "int") (by rfl) T.z_int (by decide +kernel) rfl) pa_nil))) (pe_one (pe_cmpR (OpR.or op_eq (op_eqD hr.units)) (pv 0) (pv 1) (nomark _))))))
      pss_nil)
    (pss_cons (ps_if (pt_val (pe_callB call_isi (by rfl) T.z_isinstance (by decide +kernel) (pa_cons (pv 1) (pa_cons (pe_bltn (v := .ty "str") (by rfl) T.z_str (by decide +kernel) rfl) pa_nil))))
      (pss_one (ps_ret (pe_and (pe_callB call_isi (by rfl) T.z_isinstance (by decide +kernel) (pa_cons (pv 0) (pa_cons (pe_bltn (v := .ty "str") (by rfl) T.z_str (by decide +kernel) rfl) pa_nil))) (pe_one (pe_cmpR (OpR.or op_eq (op_eqD hr.units)) (pv 0) (pv 1) (nomark _))))))
      pss_nil)
    (pss_cons (ps_if (pt_val (pe_callB call_isi (by rfl) T.z_isinstance (by decide +kernel) (pa_cons (pv 1) (pa_cons (pe_bltn (v := .ty "list") (by rfl) T.z_list (by decide +kernel) rfl) pa_nil))))
      (pss_one (ps_if (pt_not (pt_val (pe_callB call_isi (by rfl) T.z_isinstance (by decide +kernel) (pa_cons (pv 0) (pa_cons (pe_bltn (v := .ty "list") (by rfl) T.z_list (by decide +kernel) rfl) pa_nil)))))
        (pss_one (ps_ret pe_bl))
        pss_nil))
      (pss_one (ps_if (pt_not (pt_val (pe_callB call_isi (by rfl) T.z_isinstance (by decide +kernel) (pa_cons (pv 0) (pa_cons (pe_bltn (v := .ty "tuple") (by rfl) T.z_tuple (by decide +kernel) rfl) pa_nil)))))
        (pss_one (ps_ret pe_bl))
        pss_nil)))
    (pss_cons (ps_if (pt_cmpR (OpR.or op_ne (op_neD hr.units)) (pe_callB (CallR.or call_len_str call_len_seq) (by rfl) T.z_len (by decide +kernel) (pa_cons (pv 0) pa_nil)) (pe_callB (CallR.or call_len_str call_len_seq) (by rfl) T.z_len (by decide +kernel) (pa_cons (pv 1) pa_nil)) (nomark _))
      (pss_one (ps_ret pe_bl))
      pss_nil)
    (pss_cons (ps_for PassesOwn.never rfl (pi_range1 (by rfl) T.z_range (pa_cons (pe_callB (CallR.or call_len_str call_len_seq) (by rfl) T.z_len (by decide +kernel) (pa_cons (pv 1) pa_nil)) pa_nil)) (pg_name (i := 2) sc_l_alike.nd rfl (.inl rfl))
      (pss_one (ps_if (pt_not (pt_val (pe_call G_l_alike hr (by rfl) T.m_l_alike T.F_l_alike.kp T.b_l_alike .nil pass0 (pa_cons (pe_ix ix_seq (pv 0) (pv 2) (fun _ _ => rfl)) (pa_cons (pe_ix ix_seq (pv 1) (pv 2) (fun _ _ => rfl)) pa_nil)))))
        (pss_one (ps_ret pe_bl))
        pss_nil)))
    (pss_one (ps_ret pe_bl))))))))), ?_⟩
    cases S with
    | non => exact ⟨_, rfl, rfl, _, rfl, iteT ⟨_, rfl, rfl, q⟩⟩
    | bl b =>
      refine ⟨_, rfl, rfl, _, rfl, iteF ?_⟩
      refine isit rfl (.base (.bl b)) (b := true) (by decide +kernel) ?_
      refine isit rfl (.base (.bl b)) (b := true) (by decide +kernel) ?_
      refine isit rfl (.base (.bl b)) (b := true) (by decide +kernel) ?_
      refine ⟨_, rfl, _, rfl, .inl ⟨rfl, ?_⟩⟩
      rw [decide_eq_true rfl]
      exact q
    | int i =>
      refine ⟨_, rfl, rfl, _, rfl, iteF ?_⟩
      refine isit rfl (.base (.int i)) (b := false) (by decide +kernel) ?_
      refine isit rfl (.base (.int i)) (b := false) (by decide +kernel) ?_
      refine isit rfl (.base (.int i)) (b := true) (by decide +kernel) ?_
      refine isit rfl (.base (.int i)) (b := true) (by decide +kernel) ?_
      refine ⟨_, rfl, _, rfl, .inl ⟨rfl, ?_⟩⟩
      rw [decide_eq_true rfl]
      exact q
    | str z =>
      refine ⟨_, rfl, rfl, _, rfl, iteF ?_⟩
      refine isit rfl (.base (.str z)) (b := false) (by decide +kernel) ?_
      refine isit rfl (.base (.str z)) (b := false) (by decide +kernel) ?_
      refine isit rfl (.base (.str z)) (b := false) (by decide +kernel) ?_
      refine isit rfl (.base (.str z)) (b := true) (by decide +kernel) ?_
      refine isit rfl (.base (.str z)) (b := true) (by decide +kernel) ?_
      refine ⟨_, rfl, _, rfl, .inl ⟨rfl, ?_⟩⟩
      rw [decide_eq_true rfl]
      exact q
    | @lst p p' xs ys hx hy l lt r =>
      refine ⟨_, rfl, rfl, _, rfl, iteF ?_⟩
      refine isit rfl (tyx_l hy) (b := false) (by decide +kernel) ?_
      refine isit rfl (tyx_l hx) (b := false) (by decide +kernel) ?_
      refine isit rfl (tyx_l hy) (b := false) (by decide +kernel) ?_
      refine isit rfl (tyx_l hy) (b := false) (by decide +kernel) ?_
      refine isit rfl (tyx_l hy) (b := true) (by decide +kernel) ?_
      refine isit rfl (tyx_l hx) (b := true) (by decide +kernel) ?_
      refine ⟨_, rfl, .inr ⟨p, xs, rfl, .inl hx, _, rfl, .inr ⟨p', ys, rfl, .inl hy, .inl ⟨rfl, _, rfl, ?_⟩⟩⟩⟩
      rw [l]
      refine iteNS rfl ?_
      refine ⟨_, rfl, .inr ⟨p', ys, rfl, .inl hy, _, rfl, by omega, by omega, for_range (lo := 0) (n := ys.length) (fun i σ' H' => ∃ y2, σ' = [some (.ref p), some (.ref p'), y2] ∧ H' = H) ⟨_, rfl, rfl⟩ ?_ ?_⟩⟩
      · rintro i σ' H' hi ⟨y2, rfl, rfl⟩
        have h1 : xs[i]? = some xs[i] := List.getElem?_eq_getElem (by omega)
        have h2 : ys[i]? = some ys[i] := List.getElem?_eq_getElem hi
        rw [Int.zero_add]
        refine ⟨_, rfl, _, rfl, .inl ⟨p, xs, i, xs[i], rfl, rfl, hx, atI_nat h1, ?_⟩⟩
        refine ⟨_, rfl, _, rfl, .inl ⟨p', ys, i, ys[i], rfl, rfl, hy, atI_nat h2, ?_⟩⟩
        exact ⟨_, _, rfl, r i _ _ h1 h2, _, rfl, _, rfl, rfl⟩
      · rintro σ' H' ⟨y2, rfl, rfl⟩
        exact q
    | @tup p p' xs ys hx hy l lt r =>
      refine ⟨_, rfl, rfl, _, rfl, iteF ?_⟩
      refine isit rfl (tyx_t hy) (b := false) (by decide +kernel) ?_
      refine isit rfl (tyx_t hx) (b := false) (by decide +kernel) ?_
      refine isit rfl (tyx_t hy) (b := false) (by decide +kernel) ?_
      refine isit rfl (tyx_t hy) (b := false) (by decide +kernel) ?_
      refine isit rfl (tyx_t hy) (b := false) (by decide +kernel) ?_
      refine isit rfl (tyx_t hx) (b := true) (by decide +kernel) ?_
      refine ⟨_, rfl, .inr ⟨p, xs, rfl, .inr hx, _, rfl, .inr ⟨p', ys, rfl, .inr hy, .inl ⟨rfl, _, rfl, ?_⟩⟩⟩⟩
      rw [l]
      refine iteNS rfl ?_
      refine ⟨_, rfl, .inr ⟨p', ys, rfl, .inr hy, _, rfl, by omega, by omega, for_range (lo := 0) (n := ys.length) (fun i σ' H' => ∃ y2, σ' = [some (.ref p), some (.ref p'), y2] ∧ H' = H) ⟨_, rfl, rfl⟩ ?_ ?_⟩⟩
      · rintro i σ' H' hi ⟨y2, rfl, rfl⟩
        have h1 : xs[i]? = some xs[i] := List.getElem?_eq_getElem (by omega)
        have h2 : ys[i]? = some ys[i] := List.getElem?_eq_getElem hi
        rw [Int.zero_add]
        refine ⟨_, rfl, _, rfl, .inr (.inl ⟨p, xs, i, xs[i], rfl, rfl, hx, atI_nat h1, ?_⟩)⟩
        refine ⟨_, rfl, _, rfl, .inr (.inl ⟨p', ys, i, ys[i], rfl, rfl, hy, atI_nat h2, ?_⟩)⟩
        exact ⟨_, _, rfl, r i _ _ h1 h2, _, rfl, _, rfl, rfl⟩
      · rintro σ' H' ⟨y2, rfl, rfl⟩
        exact q
theorem ok_alike (T : Top K mg a) : ∀ n, FnOk P w K mg base CX0 n a.f_l_alike a.d_l_alike ["_law_actual", "_law_due"] (spAl (Sm K n))
  | 0 => ⟨fun vs H Q E h => by
      obtain ⟨x, y, rfl, h, _⟩ := h
      exact h.elim, fun A outer s H args us vs Q E hr he hb hv h => by
      obtain ⟨x, y, rfl, h, _⟩ := h
      exact h.elim⟩
  | n + 1 => al_step T (ok_alike T n)
end
end K0


namespace K0
open PySem PySem.Spec PyProof.Rows L2
section
variable {κ : Type} [DecidableEq κ]
def fst1 : List κ → List κ → List κ
  | acc, [] => acc
  | acc, k :: r => if k ∈ acc then fst1 acc r else fst1 (acc ++ [k]) r
theorem fst1_snoc : ∀ (acc l : List κ) (k : κ), fst1 acc (l ++ [k]) = if k ∈ fst1 acc l then fst1 acc l else fst1 acc l ++ [k]
  | acc, [], k => rfl
  | acc, j :: r, k => by
    show (if j ∈ acc then fst1 acc (r ++ [k]) else fst1 (acc ++ [j]) (r ++ [k])) = _
    by_cases h : j ∈ acc
    · rw [if_pos h, fst1_snoc acc r k]
      simp only [fst1, if_pos h]
    · rw [if_neg h, fst1_snoc (acc ++ [j]) r k]
      simp only [fst1, if_neg h]
theorem fst1_nodup : ∀ (acc l : List κ), acc.Nodup → (fst1 acc l).Nodup
  | acc, [], h => h
  | acc, j :: r, h => by
    show (if j ∈ acc then fst1 acc r else fst1 (acc ++ [j]) r).Nodup
    by_cases hj : j ∈ acc
    · rw [if_pos hj]; exact fst1_nodup acc r h
    · rw [if_neg hj]
      refine fst1_nodup _ r ?_
      rw [List.nodup_append]
      refine ⟨h, by simp, fun a ha b hb e => ?_⟩
      have : b = j := by simpa using hb
      rw [e, this] at ha
      exact hj ha
theorem fst1_acc : ∀ (acc l : List κ) (k : κ), k ∈ acc → k ∈ fst1 acc l
  | acc, [], k, h => h
  | acc, j :: r, k, h => by
    show k ∈ (if j ∈ acc then fst1 acc r else fst1 (acc ++ [j]) r)
    split
    · exact fst1_acc acc r k h
    · exact fst1_acc _ r k (List.mem_append_left _ h)
theorem fst1_mem : ∀ (acc l : List κ) (k : κ), k ∈ l → k ∈ fst1 acc l
  | acc, j :: r, k, h => by
    show k ∈ (if j ∈ acc then fst1 acc r else fst1 (acc ++ [j]) r)
    rcases List.mem_cons.mp h with e | h
    · subst e
      split
      · rename_i hj; exact fst1_acc acc r _ hj
      · exact fst1_acc _ r _ (by simp)
    · split
      · exact fst1_mem acc r k h
      · exact fst1_mem _ r k h
theorem fst1_len : ∀ (acc l : List κ), (fst1 acc l).length ≤ acc.length + l.length
  | acc, [] => by simp [fst1]
  | acc, j :: r => by
    show (if j ∈ acc then fst1 acc r else fst1 (acc ++ [j]) r).length ≤ _
    split
    · have := fst1_len acc r; simp only [List.length_cons]; omega
    · have := fst1_len (acc ++ [j]) r; simp only [List.length_append, List.length_cons, List.length_nil] at this ⊢; omega
def pos : List κ → κ → Nat
  | [], _ => 0
  | j :: r, k => if j = k then 0 else pos r k + 1
def marksOf (ks : List κ) : List Nat := ks.map (pos (fst1 [] ks))
def numbL : Nat → List κ → List (κ × V)
  | _, [] => []
  | n, k :: r => (k, .int (n : Int)) :: numbL (n + 1) r
theorem numbL_snoc : ∀ (n : Nat) (l : List κ) (k : κ), numbL n (l ++ [k]) = numbL n l ++ [(k, .int ((n + l.length : Nat) : Int))]
  | n, [], k => rfl
  | n, j :: r, k => by
    show (j, V.int (n : Int)) :: numbL (n + 1) (r ++ [k]) = _
    rw [numbL_snoc (n + 1) r k]
    have e : n + 1 + r.length = n + (j :: r).length := by simp; omega
    rw [e]
    rfl
theorem numbL_len : ∀ (n : Nat) (l : List κ), (numbL n l).length = l.length
  | n, [] => rfl
  | n, j :: r => congrArg Nat.succ (numbL_len (n + 1) r)
theorem numbL_keys : ∀ (n : Nat) (l : List κ), (numbL n l).map (·.1) = l
  | n, [] => rfl
  | n, j :: r => congrArg (j :: ·) (numbL_keys (n + 1) r)
theorem numbL_val : ∀ (n : Nat) (l : List κ) (k : κ), k ∈ l → valV (numbL n l) k = some (.int ((n + pos l k : Nat) : Int))
  | n, j :: r, k, h => by
    by_cases e : j = k
    · subst e
      have : pos (j :: r) j = 0 := by simp [pos]
      rw [this]
      exact valV_pos rfl
    · have hk : k ∈ r := by
        rcases List.mem_cons.mp h with z | z
        · exact absurd z.symm e
        · exact z
      have hp : pos (j :: r) k = pos r k + 1 := by simp [pos, e]
      have : valV (numbL n (j :: r)) k = valV (numbL (n + 1) r) k := by
        unfold valV
        show ((((j, V.int (n : Int)) :: numbL (n + 1) r).find? _).map _) = _
        rw [List.find?_cons_of_neg (by simpa using e)]
      rw [this, numbL_val (n + 1) r k hk, hp]
      congr 3
      omega
theorem putK_same (l : List κ) (k : κ) (z : V) : putK (l.map fun j => (j, z)) k z = (if k ∈ l then l else l ++ [k]).map fun j => (j, z) := by
  unfold putK
  have e : ((l.map fun j => (j, z)).any fun kv => decide (kv.1 = k)) = decide (k ∈ l) := by
    rw [Bool.eq_iff_iff, List.any_eq_true, decide_eq_true_eq]
    constructor
    · rintro ⟨p, hp, hk⟩
      obtain ⟨j, hj, rfl⟩ := List.mem_map.mp hp
      have : j = k := of_decide_eq_true hk
      rw [← this]; exact hj
    · intro h
      exact ⟨(k, z), List.mem_map.mpr ⟨k, h, rfl⟩, decide_eq_true rfl⟩
  rw [e]
  by_cases h : k ∈ l
  · rw [if_pos (decide_eq_true h), if_pos h, List.map_map]
    refine List.map_congr_left fun j _ => ?_
    show (if j = k then (j, z) else (j, z)) = (j, z)
    split <;> rfl
  · rw [if_neg (by rw [decide_eq_false h]; exact Bool.false_ne_true), if_neg h, List.map_append]
    rfl
theorem putK_new {es : List (κ × V)} {k : κ} {z : V} (h : k ∉ es.map (·.1)) : putK es k z = es ++ [(k, z)] := by
  unfold putK
  rw [if_neg]
  intro q
  rw [List.any_eq_true] at q
  obtain ⟨p, hp, hk⟩ := q
  exact h (List.mem_map.mpr ⟨p, hp, of_decide_eq_true hk⟩)
end
end K0


namespace K0
open PySem PySem.Spec PyProof.Rows L2
theorem Same.mut {H H' : Hp} {p : Addr} {o : HO} (e : Same H H') (h : H p = none) : Same H (upd H' p o) := fun b u hb => by
  rw [upd_ne (ne_of_none hb h)]
  exact e b u hb
theorem SameT {K : PySem.W.Frag} {H H' : Hp} {a : Addr} {xs : List V} (e : Same H H') (h : SqT K H a xs) : SqT K H' a xs := by
  rcases h with (h | ⟨o, h⟩) | h
  · exact .inl (.inl (e _ _ h))
  · exact .inl (.inr ⟨o, e _ _ h⟩)
  · exact .inr h
section
variable {P : Program} {w : World} {K : PySem.W.Frag} {mg : Str → Option Value} {base : Heap} {a : Ad}
def nvals (ns : List Nat) : List V := ns.map fun (n : Nat) => V.int (n : Int)
def spMarkK (K : PySem.W.Frag) : Sp := fun vs H Q _ => ∃ (a0 : Addr) (ks : List Key), vs = [.ref a0] ∧ (SqL K H a0 (ks.map kV) ∨ SqT K H a0 (ks.map kV)) ∧ ks.length ≤ 1000 ∧ ∀ p H', H p = none → Same H H' → H' p = some (.tup (nvals (marksOf ks))) → Q (.ref p) H'
theorem ok_markK (T : Top K mg a) : FnOk P w K mg base CX0 1 a.f_marked a.d_marked ["keys"] (spMarkK K) := by
  refine T.F_marked.ok sc_marked (fun vs H Q E h => ?_) (fun cdv A outer s H vs Q E hr h => ?_)
  · obtain ⟨a0, ks, rfl, _⟩ := h
    rfl
  · obtain ⟨a0, ks, rfl, hS, hl, q⟩ := h
    refine ⟨_, (pss_cons (ps_set (i := 1) sc_marked.nd rfl (.inl rfl) (pe_callTy (CallR.or call_list_of (CallR.or (call_list_dK rfl) (call_list_dT rfl))) (by rfl) T.z_list (by decide +kernel) (pa_cons (R1.PE.or (pe_dc (own := [("key", 4)]) rfl sc_marked.nd (R1.PI.or (pi_list (pv 0)) (pi_tup (pv 0))) (blkOk_by (own := [("key", 4)]) (N := ["keys", "different", "numbers", "number", "key"]) (sc := defScope s_marked) (by decide +kernel)) (fun _ _ _ _ _ => (pg_name (i := 4) sc_marked.nd rfl (.inl rfl))) (fun _ _ _ _ _ => pts_nil) (fun _ _ _ _ _ => (pv 4)) (fun _ _ _ _ _ => pe_bl)) (R1.pe_dcT (own := [("key", 4)]) hr.units rfl sc_marked.nd (R1.PI.or (pi_list (pv 0)) (pi_tup (pv 0))) (blkOk_by (own := [("key", 4)]) (N := ["keys", "different", "numbers", "number", "key"]) (sc := defScope s_marked) (by decide +kernel)) (fun _ _ _ _ _ => (pg_name (i := 4) sc_marked.nd rfl (.inl rfl))) (fun _ _ _ _ _ => pts_nil) (fun _ _ _ _ _ => (pv 4)) (fun _ _ _ _ _ => pe_bl))) pa_nil)))
    (pss_cons (ps_set (i := 2) sc_marked.nd rfl (.inr rfl) (R1.PE.or (pe_dc (own := [("number", 3), ("key", 4)]) rfl sc_marked.nd (pi_enum (by rfl) T.z_enumerate (pa_cons (pv 1) pa_nil)) (blkOk_by (own := [("number", 3), ("key", 4)]) (N := ["keys", "different", "numbers", "number", "key"]) (sc := defScope s_marked) (by decide +kernel)) (fun _ _ _ _ _ => (R1.pg_tupK (K := K) (n := 2) rfl rfl (pgs_cons (pg_name (i := 3) sc_marked.nd rfl (.inl rfl)) (pgs_cons (pg_name (i := 4) sc_marked.nd rfl (.inl rfl)) pgs_nil)))) (fun _ _ _ _ _ => pts_nil) (fun _ _ _ _ _ => (pv 4)) (fun _ _ _ _ _ => (pv 3))) (R1.pe_dcT (own := [("number", 3), ("key", 4)]) hr.units rfl sc_marked.nd (pi_enum (by rfl) T.z_enumerate (pa_cons (pv 1) pa_nil)) (blkOk_by (own := [("number", 3), ("key", 4)]) (N := ["keys", "different", "numbers", "number", "key"]) (sc := defScope s_marked) (by decide +kernel)) (fun _ _ _ _ _ => (R1.pg_tupK (K := K) (n := 2) rfl rfl (pgs_cons (pg_name (i := 3) sc_marked.nd rfl (.inl rfl)) (pgs_cons (pg_name (i := 4) sc_marked.nd rfl (.inl rfl)) pgs_nil)))) (fun _ _ _ _ _ => pts_nil) (fun _ _ _ _ _ => (pv 4)) (fun _ _ _ _ _ => (pv 3)))))
    (pss_one (ps_ret (pe_callTy call_tuple_of (by rfl) T.z_tuple (by decide +kernel) (pa_cons (pe_lc (own := [("key", 4)]) rfl sc_marked.nd (R1.PI.or (pi_list (pv 0)) (pi_tup (pv 0))) (blkOk_by (own := [("key", 4)]) (N := ["keys", "different", "numbers", "number", "key"]) (sc := defScope s_marked) (by decide +kernel)) (fun _ _ _ _ _ => (pg_name (i := 4) sc_marked.nd rfl (.inl rfl))) (fun _ _ _ _ _ => pts_nil) (fun _ _ _ _ _ => (pe_dget (hu_of hr) (pv 2) (pv 4) (fun _ _ => rfl)))) pa_nil)))))), ?_⟩
    have hln : (ks.map kV).length = ks.length := List.length_map _
    have item : ∀ {i : Nat} {x : V}, i < (ks.map kV).length → (ks.map kV)[i]? = some x → ∃ k, ks[i]? = some k ∧ x = kV k ∧ ks.take (i + 1) = ks.take i ++ [k] := fun {i x} hi hx => by
      have hi' : i < ks.length := by omega
      have hk : ks[i]? = some ks[i] := List.getElem?_eq_getElem hi'
      refine ⟨_, hk, ?_, by rw [List.take_add_one, hk]; rfl⟩
      rw [List.getElem?_map, hk] at hx
      exact (Option.some.inj hx).symm
    have fl : (fst1 [] ks).length ≤ ks.length := by simpa using fst1_len [] ks
    have fn := fst1_nodup [] ks List.nodup_nil
    rcases hS with hS | hS
    · refine .inl (.inl ⟨_, rfl, a0, rfl, ⟨_, hS⟩, fun D nD => R1.dK_it (walk_list (xs := ks.map kV)) (fun i H' => Same H H' ∧ H' D = some (.dK ((fst1 [] (ks.take i)).map fun j => (j, V.bl true)))) ⟨Same.mut (Same.refl _) nD, upd_same⟩ (fun i H' _ p => p.1.seq hS) ?_ ?_⟩)
      · rintro i x H1 H' hi ⟨sm, hD⟩ ⟨rfl, hx⟩
        obtain ⟨k, hk, rfl, et⟩ := item hi hx
        refine ⟨rfl, _, rfl, _, k, rfl, hD, ?_, Same.mut sm nD, ?_⟩
        · rw [List.length_map]
          have := fst1_len [] (ks.take i)
          rw [List.length_take] at this
          exact small1000 (by simp at this; omega)
        · rw [upd_same, putK_same, et, fst1_snoc]
      · rintro H1 ⟨s1, hD⟩
        rw [hln, List.take_length] at hD
        have nD' : H D = none := nD
        refine .inr (.inl ⟨D, _, rfl, hD, fun p1 n1 => ?_⟩)
        have hp1 : (upd H1 p1 (.lst (((fst1 [] ks).map fun j => (j, V.bl true)).map fun kv => kV kv.1))) p1 = some (.lst ((fst1 [] ks).map kV)) := by
          rw [upd_same, List.map_map]; rfl
        have s2 : Same H (upd H1 p1 (.lst (((fst1 [] ks).map fun j => (j, V.bl true)).map fun kv => kV kv.1))) := Same.mut s1 (s1.free n1)
        refine .inl ⟨_, rfl, p1, _, rfl, SqL.of hp1, fun D2 nD2 => R1.dK_it (walk_enum (xs := (fst1 [] ks).map kV)) (fun i H' => Same H H' ∧ H' p1 = some (.lst ((fst1 [] ks).map kV)) ∧ H' D2 = some (.dK (numbL 0 ((fst1 [] ks).take i)))) ⟨Same.mut s2 (s2.free nD2), ?_, upd_same⟩ (fun i H' _ p => SqL.of p.2.1) ?_ ?_⟩
        · rw [upd_ne (ne_of_none hp1 nD2)]; exact hp1
        · rintro i x H2 H3 hi ⟨sm, h1, h2⟩ ⟨Tt, y, z, rfl, nT, rfl, hy, hz⟩
          have hi' : i < (fst1 [] ks).length := by simpa using hi
          have hk : (fst1 [] ks)[i]? = some (fst1 [] ks)[i] := List.getElem?_eq_getElem hi'
          have et : (fst1 [] ks).take (i + 1) = (fst1 [] ks).take i ++ [(fst1 [] ks)[i]] := by rw [List.take_add_one, hk]; rfl
          obtain rfl : y = .int (i : Int) := (Option.some.inj hy).symm
          obtain rfl : z = kV (fst1 [] ks)[i] := by
            have hz' : ((fst1 [] ks).map kV)[i]? = some z := hz
            rw [List.getElem?_map, hk] at hz'
            exact (Option.some.inj hz').symm
          have sT : Same H2 (upd H2 Tt (.tup [.int (i : Int), kV (fst1 [] ks)[i]])) := same_upd nT
          have h2' := sT _ _ h2
          have nD2' : H D2 = none := s2.free nD2
          refine ⟨Tt, _, rfl, SqT.of upd_same, rfl, _, _, rfl, _, _, rfl, rfl, rfl, _, rfl, _, rfl, _, (fst1 [] ks)[i], rfl, h2', ?_, Same.mut (sm.trans sT) nD2', ?_, ?_⟩
          · rw [numbL_len, List.length_take]
            exact small1000 (Nat.le_trans (Nat.min_le_right _ _) (by omega))
          · rw [upd_ne (fun e => by rw [← e, h1] at h2; cases h2)]
            exact sT _ _ h1
          · rw [upd_same, putK_new, et, numbL_snoc]
            · congr 6
              rw [List.length_take]
              omega
            · rw [numbL_keys]
              intro hmem
              have hnd : ((fst1 [] ks).take i ++ [(fst1 [] ks)[i]]).Nodup := by rw [← et]; exact fn.sublist (List.take_sublist _ _)
              rw [List.nodup_append] at hnd
              exact hnd.2.2 _ hmem _ (by simp) rfl
        · rintro H2 ⟨sm, h1, h2⟩
          have el : ((fst1 [] ks).map kV).length = (fst1 [] ks).length := List.length_map _
          rw [el, List.take_length] at h2
          refine .inl ⟨_, rfl, a0, rfl, ⟨_, sm.seq hS⟩, fun D3 nD3 => lc_it (walk_list (xs := ks.map kV)) (fun i H' => Same H H' ∧ H' D2 = some (.dK (numbL 0 (fst1 [] ks))) ∧ H' D3 = some (.lst (nvals ((ks.take i).map (pos (fst1 [] ks)))))) ⟨Same.mut sm (sm.free nD3), ?_, upd_same⟩ (fun i H' _ p => p.1.seq hS) ?_ ?_⟩
          · rw [upd_ne (ne_of_none h2 nD3)]; exact h2
          · rintro i x H3 H' hi ⟨sm3, h2, h3⟩ ⟨rfl, hx⟩
            obtain ⟨k, hk, rfl, et⟩ := item hi hx
            have hv := numbL_val 0 (fst1 [] ks) k (fst1_mem [] ks k (List.mem_of_getElem? hk))
            rw [Nat.zero_add] at hv
            have hg : DGet H' D2 (kV k) (some (.int ((pos (fst1 [] ks) k : Nat) : Int))) := by
              rw [← hv]; exact DGet.k h2
            refine ⟨rfl, _, rfl, _, rfl, D2, _, rfl, hg, _, h3, ?_, Same.mut sm3 (sm.free nD3), ?_, ?_⟩
            · unfold nvals
              rw [List.length_map, List.length_map, List.length_take]
              exact small1000 (by omega)
            · rw [upd_ne (fun e => by rw [e, h3] at h2; cases h2)]
              exact h2
            · rw [upd_same, et, List.map_append]
              unfold nvals
              rw [List.map_append]
              rfl
          · rintro H3 ⟨sm3, _, h3⟩
            rw [hln, List.take_length] at h3
            exact ⟨D3, _, rfl, .inl ⟨SqL.of h3, fun p np => q p _ (sm3.free np) (sm3.trans (same_upd np)) upd_same⟩⟩
    · refine .inl (.inr ⟨_, rfl, a0, rfl, ⟨_, hS⟩, fun D nD => R1.dK_it (walk_tup (xs := ks.map kV)) (fun i H' => Same H H' ∧ H' D = some (.dK ((fst1 [] (ks.take i)).map fun j => (j, V.bl true)))) ⟨Same.mut (Same.refl _) nD, upd_same⟩ (fun i H' _ p => SameT p.1 hS) ?_ ?_⟩)
      · rintro i x H1 H' hi ⟨sm, hD⟩ ⟨rfl, hx⟩
        obtain ⟨k, hk, rfl, et⟩ := item hi hx
        refine ⟨rfl, _, rfl, _, k, rfl, hD, ?_, Same.mut sm nD, ?_⟩
        · rw [List.length_map]
          have := fst1_len [] (ks.take i)
          rw [List.length_take] at this
          exact small1000 (by simp at this; omega)
        · rw [upd_same, putK_same, et, fst1_snoc]
      · rintro H1 ⟨s1, hD⟩
        rw [hln, List.take_length] at hD
        have nD' : H D = none := nD
        refine .inr (.inl ⟨D, _, rfl, hD, fun p1 n1 => ?_⟩)
        have hp1 : (upd H1 p1 (.lst (((fst1 [] ks).map fun j => (j, V.bl true)).map fun kv => kV kv.1))) p1 = some (.lst ((fst1 [] ks).map kV)) := by
          rw [upd_same, List.map_map]; rfl
        have s2 : Same H (upd H1 p1 (.lst (((fst1 [] ks).map fun j => (j, V.bl true)).map fun kv => kV kv.1))) := Same.mut s1 (s1.free n1)
        refine .inl ⟨_, rfl, p1, _, rfl, SqL.of hp1, fun D2 nD2 => R1.dK_it (walk_enum (xs := (fst1 [] ks).map kV)) (fun i H' => Same H H' ∧ H' p1 = some (.lst ((fst1 [] ks).map kV)) ∧ H' D2 = some (.dK (numbL 0 ((fst1 [] ks).take i)))) ⟨Same.mut s2 (s2.free nD2), ?_, upd_same⟩ (fun i H' _ p => SqL.of p.2.1) ?_ ?_⟩
        · rw [upd_ne (ne_of_none hp1 nD2)]; exact hp1
        · rintro i x H2 H3 hi ⟨sm, h1, h2⟩ ⟨Tt, y, z, rfl, nT, rfl, hy, hz⟩
          have hi' : i < (fst1 [] ks).length := by simpa using hi
          have hk : (fst1 [] ks)[i]? = some (fst1 [] ks)[i] := List.getElem?_eq_getElem hi'
          have et : (fst1 [] ks).take (i + 1) = (fst1 [] ks).take i ++ [(fst1 [] ks)[i]] := by rw [List.take_add_one, hk]; rfl
          obtain rfl : y = .int (i : Int) := (Option.some.inj hy).symm
          obtain rfl : z = kV (fst1 [] ks)[i] := by
            have hz' : ((fst1 [] ks).map kV)[i]? = some z := hz
            rw [List.getElem?_map, hk] at hz'
            exact (Option.some.inj hz').symm
          have sT : Same H2 (upd H2 Tt (.tup [.int (i : Int), kV (fst1 [] ks)[i]])) := same_upd nT
          have h2' := sT _ _ h2
          have nD2' : H D2 = none := s2.free nD2
          refine ⟨Tt, _, rfl, SqT.of upd_same, rfl, _, _, rfl, _, _, rfl, rfl, rfl, _, rfl, _, rfl, _, (fst1 [] ks)[i], rfl, h2', ?_, Same.mut (sm.trans sT) nD2', ?_, ?_⟩
          · rw [numbL_len, List.length_take]
            exact small1000 (Nat.le_trans (Nat.min_le_right _ _) (by omega))
          · rw [upd_ne (fun e => by rw [← e, h1] at h2; cases h2)]
            exact sT _ _ h1
          · rw [upd_same, putK_new, et, numbL_snoc]
            · congr 6
              rw [List.length_take]
              omega
            · rw [numbL_keys]
              intro hmem
              have hnd : ((fst1 [] ks).take i ++ [(fst1 [] ks)[i]]).Nodup := by rw [← et]; exact fn.sublist (List.take_sublist _ _)
              rw [List.nodup_append] at hnd
              exact hnd.2.2 _ hmem _ (by simp) rfl
        · rintro H2 ⟨sm, h1, h2⟩
          have el : ((fst1 [] ks).map kV).length = (fst1 [] ks).length := List.length_map _
          rw [el, List.take_length] at h2
          refine .inr ⟨_, rfl, a0, rfl, ⟨_, SameT sm hS⟩, fun D3 nD3 => lc_it (walk_tup (xs := ks.map kV)) (fun i H' => Same H H' ∧ H' D2 = some (.dK (numbL 0 (fst1 [] ks))) ∧ H' D3 = some (.lst (nvals ((ks.take i).map (pos (fst1 [] ks)))))) ⟨Same.mut sm (sm.free nD3), ?_, upd_same⟩ (fun i H' _ p => SameT p.1 hS) ?_ ?_⟩
          · rw [upd_ne (ne_of_none h2 nD3)]; exact h2
          · rintro i x H3 H' hi ⟨sm3, h2, h3⟩ ⟨rfl, hx⟩
            obtain ⟨k, hk, rfl, et⟩ := item hi hx
            have hv := numbL_val 0 (fst1 [] ks) k (fst1_mem [] ks k (List.mem_of_getElem? hk))
            rw [Nat.zero_add] at hv
            have hg : DGet H' D2 (kV k) (some (.int ((pos (fst1 [] ks) k : Nat) : Int))) := by
              rw [← hv]; exact DGet.k h2
            refine ⟨rfl, _, rfl, _, rfl, D2, _, rfl, hg, _, h3, ?_, Same.mut sm3 (sm.free nD3), ?_, ?_⟩
            · unfold nvals
              rw [List.length_map, List.length_map, List.length_take]
              exact small1000 (by omega)
            · rw [upd_ne (fun e => by rw [e, h3] at h2; cases h2)]
              exact h2
            · rw [upd_same, et, List.map_append]
              unfold nvals
              rw [List.map_append]
              rfl
          · rintro H3 ⟨sm3, _, h3⟩
            rw [hln, List.take_length] at h3
            exact ⟨D3, _, rfl, .inl ⟨SqL.of h3, fun p np => q p _ (sm3.free np) (sm3.trans (same_upd np)) upd_same⟩⟩
theorem keys_at {H : Hp} : ∀ {kvs : List (List Key × V)} {cs : List Addr}, IsKeys H kvs cs → ∀ (i : Nat) (c : Addr) (kv : List Key × V), cs[i]? = some c → kvs[i]? = some kv → H c = some (.tup (kv.1.map kV))
  | _, _, .nil, i, c, kv, h, _ => by simp at h
  | _, _, .cons h t, 0, c, kv, h1, h2 => by
    cases h1; cases h2; exact h
  | _, _, .cons h t, i + 1, c, kv, h1, h2 => keys_at t i c kv (by simpa using h1) (by simpa using h2)
def spMarkT (K : PySem.W.Frag) : Sp := fun vs H Q _ => ∃ (a0 : Addr) (bs : List Addr) (ks : List (List Key)), vs = [.ref a0] ∧ (SqL K H a0 (bs.map V.ref) ∨ SqT K H a0 (bs.map V.ref)) ∧ bs.length = ks.length ∧ (∀ (i : Nat) (b : Addr) (k : List Key), bs[i]? = some b → ks[i]? = some k → H b = some (.tup (k.map kV))) ∧ ks.length ≤ 1000 ∧
  ∀ p H', H p = none → Same H H' → H' p = some (.tup (nvals (marksOf ks))) → Q (.ref p) H'
theorem ok_markT (T : Top K mg a) : FnOk P w K mg base CX0 1 a.f_marked a.d_marked ["keys"] (spMarkT K) := by
  refine T.F_marked.ok sc_marked (fun vs H Q E h => ?_) (fun cdv A outer s H vs Q E hr h => ?_)
  · obtain ⟨a0, bs, ks, rfl, _⟩ := h
    rfl
  · obtain ⟨a0, bs, ks, rfl, hS, hlb, hB, hl, q⟩ := h
    refine ⟨_, (pss_cons (ps_set (i := 1) sc_marked.nd rfl (.inl rfl) (pe_callTy (CallR.or call_list_of (CallR.or (call_list_dK rfl) (call_list_dT rfl))) (by rfl) T.z_list (by decide +kernel) (pa_cons (R1.PE.or (pe_dc (own := [("key", 4)]) rfl sc_marked.nd (R1.PI.or (pi_list (pv 0)) (pi_tup (pv 0))) (blkOk_by (own := [("key", 4)]) (N := ["keys", "different", "numbers", "number", "key"]) (sc := defScope s_marked) (by decide +kernel)) (fun _ _ _ _ _ => (pg_name (i := 4) sc_marked.nd rfl (.inl rfl))) (fun _ _ _ _ _ => pts_nil) (fun _ _ _ _ _ => (pv 4)) (fun _ _ _ _ _ => pe_bl)) (R1.pe_dcT (own := [("key", 4)]) hr.units rfl sc_marked.nd (R1.PI.or (pi_list (pv 0)) (pi_tup (pv 0))) (blkOk_by (own := [("key", 4)]) (N := ["keys", "different", "numbers", "number", "key"]) (sc := defScope s_marked) (by decide +kernel)) (fun _ _ _ _ _ => (pg_name (i := 4) sc_marked.nd rfl (.inl rfl))) (fun _ _ _ _ _ => pts_nil) (fun _ _ _ _ _ => (pv 4)) (fun _ _ _ _ _ => pe_bl))) pa_nil)))
    (pss_cons (ps_set (i := 2) sc_marked.nd rfl (.inr rfl) (R1.PE.or (pe_dc (own := [("number", 3), ("key", 4)]) rfl sc_marked.nd (pi_enum (by rfl) T.z_enumerate (pa_cons (pv 1) pa_nil)) (blkOk_by (own := [("number", 3), ("key", 4)]) (N := ["keys", "different", "numbers", "number", "key"]) (sc := defScope s_marked) (by decide +kernel)) (fun _ _ _ _ _ => (R1.pg_tupK (K := K) (n := 2) rfl rfl (pgs_cons (pg_name (i := 3) sc_marked.nd rfl (.inl rfl)) (pgs_cons (pg_name (i := 4) sc_marked.nd rfl (.inl rfl)) pgs_nil)))) (fun _ _ _ _ _ => pts_nil) (fun _ _ _ _ _ => (pv 4)) (fun _ _ _ _ _ => (pv 3))) (R1.pe_dcT (own := [("number", 3), ("key", 4)]) hr.units rfl sc_marked.nd (pi_enum (by rfl) T.z_enumerate (pa_cons (pv 1) pa_nil)) (blkOk_by (own := [("number", 3), ("key", 4)]) (N := ["keys", "different", "numbers", "number", "key"]) (sc := defScope s_marked) (by decide +kernel)) (fun _ _ _ _ _ => (R1.pg_tupK (K := K) (n := 2) rfl rfl (pgs_cons (pg_name (i := 3) sc_marked.nd rfl (.inl rfl)) (pgs_cons (pg_name (i := 4) sc_marked.nd rfl (.inl rfl)) pgs_nil)))) (fun _ _ _ _ _ => pts_nil) (fun _ _ _ _ _ => (pv 4)) (fun _ _ _ _ _ => (pv 3)))))
    (pss_one (ps_ret (pe_callTy call_tuple_of (by rfl) T.z_tuple (by decide +kernel) (pa_cons (pe_lc (own := [("key", 4)]) rfl sc_marked.nd (R1.PI.or (pi_list (pv 0)) (pi_tup (pv 0))) (blkOk_by (own := [("key", 4)]) (N := ["keys", "different", "numbers", "number", "key"]) (sc := defScope s_marked) (by decide +kernel)) (fun _ _ _ _ _ => (pg_name (i := 4) sc_marked.nd rfl (.inl rfl))) (fun _ _ _ _ _ => pts_nil) (fun _ _ _ _ _ => (pe_dget (hu_of hr) (pv 2) (pv 4) (fun _ _ => rfl)))) pa_nil)))))), ?_⟩
    have hln : (bs.map V.ref).length = ks.length := by rw [List.length_map]; exact hlb
    have item : ∀ {i : Nat} {x : V}, i < (bs.map V.ref).length → (bs.map V.ref)[i]? = some x → ∃ b k, ks[i]? = some k ∧ x = V.ref b ∧ H b = some (.tup (k.map kV)) ∧ ks.take (i + 1) = ks.take i ++ [k] := fun {i x} hi hx => by
      have hi' : i < ks.length := by omega
      have hk : ks[i]? = some ks[i] := List.getElem?_eq_getElem hi'
      rw [List.getElem?_map] at hx
      cases e : bs[i]? with
      | none => rw [e] at hx; cases hx
      | some b =>
        rw [e] at hx
        exact ⟨b, _, hk, (Option.some.inj hx).symm, hB i b _ e hk, by rw [List.take_add_one, hk]; rfl⟩
    have fl : (fst1 [] ks).length ≤ ks.length := by simpa using fst1_len [] ks
    have fn := fst1_nodup [] ks List.nodup_nil
    rcases hS with hS | hS
    · refine .inr (.inl ⟨_, rfl, a0, rfl, ⟨_, hS⟩, fun D nD => R1.dT_it (walk_list (xs := bs.map V.ref)) (fun i H' => Same H H' ∧ H' D = some (.dT ((fst1 [] (ks.take i)).map fun j => (j, V.bl true)))) ⟨Same.mut (Same.refl _) nD, upd_same⟩ (fun i H' _ p => p.1.seq hS) ?_ ?_⟩)
      · rintro i x H1 H' hi ⟨sm, hD⟩ ⟨rfl, hx⟩
        obtain ⟨b, k, hk, rfl, hb, et⟩ := item hi hx
        refine ⟨rfl, _, rfl, _, k, b, rfl, sm _ _ hb, hD, ?_, Same.mut sm nD, ?_⟩
        · rw [List.length_map]
          have := fst1_len [] (ks.take i)
          rw [List.length_take] at this
          exact small1000 (by simp at this; omega)
        · rw [upd_same, putK_same, et, fst1_snoc]
      · rintro H1 ⟨s1, hD⟩
        rw [hln, List.take_length] at hD
        have nD' : H D = none := nD
        refine .inr (.inr ⟨D, _, rfl, .inl hD, fun p1 cs n1 hK => ?_⟩)
        have hcl : cs.length = (fst1 [] ks).length := by
          have := Paired.length hK
          rw [List.length_map] at this
          exact this.symm
        have hp1 : (upd H1 p1 (.lst (cs.map V.ref))) p1 = some (.lst (cs.map V.ref)) := upd_same
        have s2 : Same H (upd H1 p1 (.lst (cs.map V.ref))) := Same.mut s1 (s1.free n1)
        have hcs : ∀ (i : Nat) (c : Addr) (k : List Key), cs[i]? = some c → (fst1 [] ks)[i]? = some k → (upd H1 p1 (.lst (cs.map V.ref))) c = some (.tup (k.map kV)) := fun i c k h1 h2 => by
          have h3 := keys_at hK i c (k, V.bl true) h1 (by rw [List.getElem?_map, h2]; rfl)
          rw [upd_ne (ne_of_none h3 n1)]
          exact h3
        have sx : Same (upd H1 p1 (.lst (cs.map V.ref))) (upd H1 p1 (.lst (cs.map V.ref))) := Same.refl _
        refine .inr ⟨_, rfl, p1, _, rfl, SqL.of hp1, fun D2 nD2 => R1.dT_it (walk_enum (xs := cs.map V.ref)) (fun i H' => Same (upd H1 p1 (.lst (cs.map V.ref))) H' ∧ H' p1 = some (.lst (cs.map V.ref)) ∧ H' D2 = some (.dT (numbL 0 ((fst1 [] ks).take i)))) ⟨Same.mut sx nD2, ?_, upd_same⟩ (fun i H' _ p => SqL.of p.2.1) ?_ ?_⟩
        · rw [upd_ne (ne_of_none hp1 nD2)]; exact hp1
        · rintro i x H2 H3 hi ⟨sm, h1, h2⟩ ⟨Tt, y, z, rfl, nT, rfl, hy, hz⟩
          have hi' : i < (fst1 [] ks).length := by rw [List.length_map] at hi; omega
          have hk : (fst1 [] ks)[i]? = some (fst1 [] ks)[i] := List.getElem?_eq_getElem hi'
          have et : (fst1 [] ks).take (i + 1) = (fst1 [] ks).take i ++ [(fst1 [] ks)[i]] := by rw [List.take_add_one, hk]; rfl
          obtain rfl : y = .int (i : Int) := (Option.some.inj hy).symm
          obtain ⟨c, hc, rfl⟩ : ∃ c, cs[i]? = some c ∧ z = V.ref c := by
            have hz' : (cs.map V.ref)[i]? = some z := hz
            rw [List.getElem?_map] at hz'
            cases e : cs[i]? with
            | none => rw [e] at hz'; cases hz'
            | some c => rw [e] at hz'; exact ⟨c, rfl, (Option.some.inj hz').symm⟩
          have hcc := sm _ _ (hcs i c _ hc hk)
          have sT : Same H2 (upd H2 Tt (.tup [.int (i : Int), V.ref c])) := same_upd nT
          have h2' := sT _ _ h2
          refine ⟨Tt, _, rfl, SqT.of upd_same, rfl, _, _, rfl, _, _, rfl, rfl, rfl, _, rfl, _, rfl, _, (fst1 [] ks)[i], c, rfl, sT _ _ hcc, h2', ?_, Same.mut (sm.trans sT) nD2, ?_, ?_⟩
          · rw [numbL_len, List.length_take]
            exact small1000 (Nat.le_trans (Nat.min_le_right _ _) (by omega))
          · rw [upd_ne (fun e => by rw [← e, h1] at h2; cases h2)]
            exact sT _ _ h1
          · rw [upd_same, putK_new, et, numbL_snoc]
            · congr 6
              rw [List.length_take]
              omega
            · rw [numbL_keys]
              intro hmem
              have hnd : ((fst1 [] ks).take i ++ [(fst1 [] ks)[i]]).Nodup := by rw [← et]; exact fn.sublist (List.take_sublist _ _)
              rw [List.nodup_append] at hnd
              exact hnd.2.2 _ hmem _ (by simp) rfl
        · rintro H2 ⟨sm', h1, h2⟩
          have sm : Same H H2 := s2.trans sm'
          have el : (cs.map V.ref).length = (fst1 [] ks).length := by rw [List.length_map]; exact hcl
          rw [el, List.take_length] at h2
          refine .inl ⟨_, rfl, a0, rfl, ⟨_, sm.seq hS⟩, fun D3 nD3 => lc_it (walk_list (xs := bs.map V.ref)) (fun i H' => Same H H' ∧ H' D2 = some (.dT (numbL 0 (fst1 [] ks))) ∧ H' D3 = some (.lst (nvals ((ks.take i).map (pos (fst1 [] ks)))))) ⟨Same.mut sm (sm.free nD3), ?_, upd_same⟩ (fun i H' _ p => p.1.seq hS) ?_ ?_⟩
          · rw [upd_ne (ne_of_none h2 nD3)]; exact h2
          · rintro i x H3 H' hi ⟨sm3, h2, h3⟩ ⟨rfl, hx⟩
            obtain ⟨b, k, hk, rfl, hb, et⟩ := item hi hx
            have hv := numbL_val 0 (fst1 [] ks) k (fst1_mem [] ks k (List.mem_of_getElem? hk))
            rw [Nat.zero_add] at hv
            have hg : DGet H' D2 (.ref b) (some (.int ((pos (fst1 [] ks) k : Nat) : Int))) := by
              rw [← hv]; exact DGet.t h2 (sm3 _ _ hb)
            refine ⟨rfl, _, rfl, _, rfl, D2, _, rfl, hg, _, h3, ?_, Same.mut sm3 (sm.free nD3), ?_, ?_⟩
            · unfold nvals
              rw [List.length_map, List.length_map, List.length_take]
              exact small1000 (by omega)
            · rw [upd_ne (fun e => by rw [e, h3] at h2; cases h2)]
              exact h2
            · rw [upd_same, et, List.map_append]
              unfold nvals
              rw [List.map_append]
              rfl
          · rintro H3 ⟨sm3, _, h3⟩
            rw [hln, List.take_length] at h3
            exact ⟨D3, _, rfl, .inl ⟨SqL.of h3, fun p np => q p _ (sm3.free np) (sm3.trans (same_upd np)) upd_same⟩⟩
    · refine .inr (.inr ⟨_, rfl, a0, rfl, ⟨_, hS⟩, fun D nD => R1.dT_it (walk_tup (xs := bs.map V.ref)) (fun i H' => Same H H' ∧ H' D = some (.dT ((fst1 [] (ks.take i)).map fun j => (j, V.bl true)))) ⟨Same.mut (Same.refl _) nD, upd_same⟩ (fun i H' _ p => SameT p.1 hS) ?_ ?_⟩)
      · rintro i x H1 H' hi ⟨sm, hD⟩ ⟨rfl, hx⟩
        obtain ⟨b, k, hk, rfl, hb, et⟩ := item hi hx
        refine ⟨rfl, _, rfl, _, k, b, rfl, sm _ _ hb, hD, ?_, Same.mut sm nD, ?_⟩
        · rw [List.length_map]
          have := fst1_len [] (ks.take i)
          rw [List.length_take] at this
          exact small1000 (by simp at this; omega)
        · rw [upd_same, putK_same, et, fst1_snoc]
      · rintro H1 ⟨s1, hD⟩
        rw [hln, List.take_length] at hD
        have nD' : H D = none := nD
        refine .inr (.inr ⟨D, _, rfl, .inl hD, fun p1 cs n1 hK => ?_⟩)
        have hcl : cs.length = (fst1 [] ks).length := by
          have := Paired.length hK
          rw [List.length_map] at this
          exact this.symm
        have hp1 : (upd H1 p1 (.lst (cs.map V.ref))) p1 = some (.lst (cs.map V.ref)) := upd_same
        have s2 : Same H (upd H1 p1 (.lst (cs.map V.ref))) := Same.mut s1 (s1.free n1)
        have hcs : ∀ (i : Nat) (c : Addr) (k : List Key), cs[i]? = some c → (fst1 [] ks)[i]? = some k → (upd H1 p1 (.lst (cs.map V.ref))) c = some (.tup (k.map kV)) := fun i c k h1 h2 => by
          have h3 := keys_at hK i c (k, V.bl true) h1 (by rw [List.getElem?_map, h2]; rfl)
          rw [upd_ne (ne_of_none h3 n1)]
          exact h3
        have sx : Same (upd H1 p1 (.lst (cs.map V.ref))) (upd H1 p1 (.lst (cs.map V.ref))) := Same.refl _
        refine .inr ⟨_, rfl, p1, _, rfl, SqL.of hp1, fun D2 nD2 => R1.dT_it (walk_enum (xs := cs.map V.ref)) (fun i H' => Same (upd H1 p1 (.lst (cs.map V.ref))) H' ∧ H' p1 = some (.lst (cs.map V.ref)) ∧ H' D2 = some (.dT (numbL 0 ((fst1 [] ks).take i)))) ⟨Same.mut sx nD2, ?_, upd_same⟩ (fun i H' _ p => SqL.of p.2.1) ?_ ?_⟩
        · rw [upd_ne (ne_of_none hp1 nD2)]; exact hp1
        · rintro i x H2 H3 hi ⟨sm, h1, h2⟩ ⟨Tt, y, z, rfl, nT, rfl, hy, hz⟩
          have hi' : i < (fst1 [] ks).length := by rw [List.length_map] at hi; omega
          have hk : (fst1 [] ks)[i]? = some (fst1 [] ks)[i] := List.getElem?_eq_getElem hi'
          have et : (fst1 [] ks).take (i + 1) = (fst1 [] ks).take i ++ [(fst1 [] ks)[i]] := by rw [List.take_add_one, hk]; rfl
          obtain rfl : y = .int (i : Int) := (Option.some.inj hy).symm
          obtain ⟨c, hc, rfl⟩ : ∃ c, cs[i]? = some c ∧ z = V.ref c := by
            have hz' : (cs.map V.ref)[i]? = some z := hz
            rw [List.getElem?_map] at hz'
            cases e : cs[i]? with
            | none => rw [e] at hz'; cases hz'
            | some c => rw [e] at hz'; exact ⟨c, rfl, (Option.some.inj hz').symm⟩
          have hcc := sm _ _ (hcs i c _ hc hk)
          have sT : Same H2 (upd H2 Tt (.tup [.int (i : Int), V.ref c])) := same_upd nT
          have h2' := sT _ _ h2
          refine ⟨Tt, _, rfl, SqT.of upd_same, rfl, _, _, rfl, _, _, rfl, rfl, rfl, _, rfl, _, rfl, _, (fst1 [] ks)[i], c, rfl, sT _ _ hcc, h2', ?_, Same.mut (sm.trans sT) nD2, ?_, ?_⟩
          · rw [numbL_len, List.length_take]
            exact small1000 (Nat.le_trans (Nat.min_le_right _ _) (by omega))
          · rw [upd_ne (fun e => by rw [← e, h1] at h2; cases h2)]
            exact sT _ _ h1
          · rw [upd_same, putK_new, et, numbL_snoc]
            · congr 6
              rw [List.length_take]
              omega
            · rw [numbL_keys]
              intro hmem
              have hnd : ((fst1 [] ks).take i ++ [(fst1 [] ks)[i]]).Nodup := by rw [← et]; exact fn.sublist (List.take_sublist _ _)
              rw [List.nodup_append] at hnd
              exact hnd.2.2 _ hmem _ (by simp) rfl
        · rintro H2 ⟨sm', h1, h2⟩
          have sm : Same H H2 := s2.trans sm'
          have el : (cs.map V.ref).length = (fst1 [] ks).length := by rw [List.length_map]; exact hcl
          rw [el, List.take_length] at h2
          refine .inr ⟨_, rfl, a0, rfl, ⟨_, SameT sm hS⟩, fun D3 nD3 => lc_it (walk_tup (xs := bs.map V.ref)) (fun i H' => Same H H' ∧ H' D2 = some (.dT (numbL 0 (fst1 [] ks))) ∧ H' D3 = some (.lst (nvals ((ks.take i).map (pos (fst1 [] ks)))))) ⟨Same.mut sm (sm.free nD3), ?_, upd_same⟩ (fun i H' _ p => SameT p.1 hS) ?_ ?_⟩
          · rw [upd_ne (ne_of_none h2 nD3)]; exact h2
          · rintro i x H3 H' hi ⟨sm3, h2, h3⟩ ⟨rfl, hx⟩
            obtain ⟨b, k, hk, rfl, hb, et⟩ := item hi hx
            have hv := numbL_val 0 (fst1 [] ks) k (fst1_mem [] ks k (List.mem_of_getElem? hk))
            rw [Nat.zero_add] at hv
            have hg : DGet H' D2 (.ref b) (some (.int ((pos (fst1 [] ks) k : Nat) : Int))) := by
              rw [← hv]; exact DGet.t h2 (sm3 _ _ hb)
            refine ⟨rfl, _, rfl, _, rfl, D2, _, rfl, hg, _, h3, ?_, Same.mut sm3 (sm.free nD3), ?_, ?_⟩
            · unfold nvals
              rw [List.length_map, List.length_map, List.length_take]
              exact small1000 (by omega)
            · rw [upd_ne (fun e => by rw [e, h3] at h2; cases h2)]
              exact h2
            · rw [upd_same, et, List.map_append]
              unfold nvals
              rw [List.map_append]
              rfl
          · rintro H3 ⟨sm3, _, h3⟩
            rw [hln, List.take_length] at h3
            exact ⟨D3, _, rfl, .inl ⟨SqL.of h3, fun p np => q p _ (sm3.free np) (sm3.trans (same_upd np)) upd_same⟩⟩
end
end K0


namespace K0
open PySem PySem.Spec PyProof.Rows L2
section
variable {P : Program} {w : World} {K : PySem.W.Frag} {mg : Str → Option Value} {base : Heap} {a : Ad}
def spBlk (K : PySem.W.Frag) : Sp := fun vs H Q _ => ∃ (a0 : Addr) (ns : List Int), vs = [.ref a0] ∧ (SqT K H a0 (ns.map V.int) ∨ SqL K H a0 (ns.map V.int)) ∧ Q (.int (R0.maxL (-1) ns + 1)) H
theorem ok_blk (T : Top K mg a) : FnOk P w K mg base CX0 1 a.f_block_count a.d_block_count ["marks"] (spBlk K) := by
  refine T.F_block_count.ok sc_block_count (fun vs H Q E h => ?_) (fun cdv A outer s H vs Q E hr h => ?_)
  · obtain ⟨a0, ns, rfl, _⟩ := h
    rfl
  · obtain ⟨a0, ns, rfl, hS, q⟩ := h
    refine ⟨_, (pss_one (ps_ret (pe_op (OpR.or op_add (OpR.or op_add_str (OpR.or op_cat op_catT))) (pe_callBK (R0.ck_maxD rfl hr.units) (by rfl) T.z_max (by decide +kernel) (pa_cons (pv 0) pa_nil) (pk_cons (pe_un un_neg pe_int) pk_nil)) pe_int))), ?_⟩
    exact ⟨_, rfl, 1, rfl, a0, ns, -1, rfl, rfl, hS, .inl ⟨_, 1, rfl, rfl, q⟩⟩
/-- the rows of all partitions of n, in order -/
def ivals (ms : List Nat) : List Int := ms.map fun (n : Nat) => (n : Int)
def blk (ms : List Nat) : Nat := (R0.maxL (-1) (ivals ms) + 1).toNat
def nextP (ms : List Nat) : List (List Nat) := (List.range (blk ms + 1)).map fun m => ms ++ [m]
def parts : Nat → List (List Nat)
  | 0 => [[]]
  | n + 1 => (parts n).flatMap nextP
theorem nvals_i (ms : List Nat) : nvals ms = (ivals ms).map V.int := by
  unfold nvals ivals; rw [List.map_map]; rfl
def IsTup (K : PySem.W.Frag) (H : Hp) (x : V) (ms : List Nat) : Prop := ∃ b, x = V.ref b ∧ SqT K H b (nvals ms)
theorem parts_small : ∀ k, k < 7 → ((parts k).length ≤ 1000 ∧ ∀ r ∈ parts k, r.length = k ∧ blk r ≤ 7) := by
  have : (List.range 7).all (fun k => decide ((parts k).length ≤ 1000) && (parts k).all fun r => decide (r.length = k) && decide (blk r ≤ 7)) = true := by decide +kernel
  intro k hk
  have h := List.all_eq_true.mp this k (List.mem_range.mpr hk)
  rw [Bool.and_eq_true] at h
  refine ⟨of_decide_eq_true h.1, fun r hr => ?_⟩
  have h2 := List.all_eq_true.mp h.2 r hr
  rw [Bool.and_eq_true] at h2
  exact ⟨of_decide_eq_true h2.1, of_decide_eq_true h2.2⟩
theorem maxL_ge (d : Int) : ∀ (ns : List Int) (b : Int), b ≤ d → (∀ n ∈ ns, b ≤ n) → b ≤ R0.maxL d ns
  | [], b, h, _ => h
  | x :: r, b, _, h => by
    have go : ∀ (l : List Int) (y : Int), (∀ z ∈ l, b ≤ z) → b ≤ y → b ≤ l.foldl (fun a y => if a < y then y else a) y := by
      intro l
      induction l with
      | nil => intro y _ hy; exact hy
      | cons z l ih =>
        intro y hl hy
        refine ih _ (fun u hu => hl u (List.mem_cons_of_mem _ hu)) ?_
        show b ≤ if y < z then z else y
        have := hl z (by simp)
        split <;> omega
    exact go r x (fun z hz => h z (List.mem_cons_of_mem _ hz)) (h x (by simp))
theorem blk_eq (ms : List Nat) : R0.maxL (-1) (ivals ms) + 1 = (blk ms : Int) := by
  have := maxL_ge (-1) (ivals ms) (-1) (Int.le_refl _) (fun n hn => by
    unfold ivals at hn
    obtain ⟨k, _, rfl⟩ := List.mem_map.mp hn
    omega)
  unfold blk
  omega
theorem flat_take {α β : Type} (f : α → List β) (l : List α) (i : Nat) : ((l.take i).flatMap f).length ≤ (l.flatMap f).length := by
  have e : (l.take i).flatMap f ++ (l.drop i).flatMap f = l.flatMap f := by rw [← List.flatMap_append, List.take_append_drop]
  rw [← e, List.length_append]
  omega
theorem flat_snoc {α β : Type} (f : α → List β) {l : List α} {i : Nat} {x : α} (h : l[i]? = some x) : (l.take (i + 1)).flatMap f = (l.take i).flatMap f ++ f x := by
  rw [List.take_add_one, h, List.flatMap_append]
  simp
theorem SqT.kp {D a : Addr} {H H' : Hp} {l xs : List V} (k : Kp D H H') (hD : H D = some (.lst l)) (h : SqT K H a xs) : SqT K H' a xs := by
  rcases h with (h | ⟨o, h⟩) | h
  · refine .inl (.inl (k _ _ (fun e => ?_) h))
    rw [e, hD] at h; cases h
  · refine .inl (.inr ⟨o, k _ _ (fun e => ?_) h⟩)
    rw [e, hD] at h; cases h
  · exact .inr h
theorem IsTup.same {H H' : Hp} {x : V} {ms : List Nat} (k : Same H H') (h : IsTup K H x ms) : IsTup K H' x ms := by
  obtain ⟨b, e, h⟩ := h
  exact ⟨b, e, SameT k h⟩
theorem IsTup.kp {D : Addr} {H H' : Hp} {l : List V} {x : V} {ms : List Nat} (k : Kp D H H') (hD : H D = some (.lst l)) (h : IsTup K H x ms) : IsTup K H' x ms := by
  obtain ⟨b, e, h⟩ := h
  exact ⟨b, e, SqT.kp k hD h⟩
def spParts (K : PySem.W.Frag) : Sp := fun vs H Q _ => ∃ n : Nat, vs = [.int (n : Int)] ∧ n ≤ 6 ∧ ∀ p xs H', Same H H' → H p = none → H' p = some (.lst xs) → R1.Al (IsTup K H') xs (parts n) → Q (.ref p) H'
theorem ok_parts (T : Top K mg a) (G_block_count : FnOk P w K mg base CX0 1 a.f_block_count a.d_block_count ["marks"] (spBlk K)) : FnOk P w K mg base CX0 2 a.f_partitions a.d_partitions ["count"] (spParts K) := by
  refine T.F_partitions.ok sc_partitions (fun vs H Q E h => ?_) (fun cdv A outer s H vs Q E hr h => ?_)
  · obtain ⟨n, rfl, _⟩ := h
    rfl
  · obtain ⟨n, rfl, hn, q⟩ := h
    refine ⟨_, (pss_cons (ps_set (i := 1) sc_partitions.nd rfl (.inl rfl) (pe_lst (pa_cons (pe_tup pa_nil) pa_nil)))
    (pss_cons (ps_for PassesOwn.never rfl (pi_range1 (by rfl) T.z_range (pa_cons (pv 0) pa_nil)) (pg_name (i := 2) sc_partitions.nd rfl (.inl rfl))
      (pss_one (ps_setLc2 (own := [("marks", 3), ("mark", 4)]) (vs1 := [4]) (i := 1) rfl sc_partitions.nd rfl rfl (sw_true rfl rfl rfl (by decide +kernel)) (R1.PI.or (pi_list (pv 1)) (pi_tup (pv 1))) (blkOk_by (own := [("marks", 3), ("mark", 4)]) (N := ["count", "rows", "_", "marks", "mark"]) (sc := defScope s_partitions) (by decide +kernel)) (by decide) (fun _ _ _ _ _ => (pg_name (i := 3) sc_partitions.nd rfl (.inl rfl))) (fun _ _ _ _ _ => pts_nil) (fun _ _ _ _ _ => (pi_range1 (by rfl) T.z_range (pa_cons (pe_op op_add (pe_call G_block_count (hr.mono (by decide)) (by rfl) T.m_block_count T.F_block_count.kp T.b_block_count .nil pass0 (pa_cons (pv 3) pa_nil)) pe_int) pa_nil))) (fun _ _ _ _ _ => (pg_name (i := 4) sc_partitions.nd rfl (.inl rfl))) (fun _ _ _ _ _ => pts_nil) (fun _ _ _ _ _ => (pe_tup (R1.pa_starK (K := K) rfl (pv 3) (pa_cons (pv 4) pa_nil)))))))
    (pss_one (ps_ret (pv 1))))), ?_⟩
    refine ⟨Nat.zero_le _, fun p0 n0 => ⟨Nat.le_of_lt (small1000 (by simp)), fun p1 n1 => ?_⟩⟩
    have h1n : H p1 = none := by
      by_cases e : p1 = p0
      · rw [e]; exact n0
      · rw [upd_ne e] at n1; exact n1
    have s0 : Same H (upd (upd H p0 (.tup [])) p1 (.lst [V.ref p0])) := Same.mut (Same.mut (Same.refl _) n0) h1n
    have hp0 : (upd (upd H p0 (.tup [])) p1 (.lst [V.ref p0])) p0 = some (.tup []) := by
      rw [upd_ne (fun e => by rw [← e, upd_same] at n1; cases n1), upd_same]
    refine ⟨.int (n : Int), rfl, (n : Int), rfl, by omega, by omega, for_it walk_range (fun i σ' H' => ∃ p xs y2, σ' = [some (.int (n : Int)), some (.ref p), y2, none, none] ∧ Same H H' ∧ H p = none ∧ H' p = some (.lst xs) ∧ R1.Al (IsTup K H') xs (parts i)) ⟨p1, [V.ref p0], none, rfl, s0, h1n, upd_same, R1.Al.one ⟨p0, rfl, .inl (.inl hp0)⟩⟩ (fun _ _ _ _ _ => trivial) ?_ ?_⟩
    · rintro i x σ' _ H1 hi ⟨p, xs, y2, rfl, sm, np, hp, hA⟩ ⟨rfl, rfl⟩
      have hi7 : i < 7 := by omega
      have hi8 : i + 1 < 7 := by omega
      have b1 := (parts_small i hi7).2
      have b2 := (parts_small (i + 1) hi8).1
      refine .inl ⟨.ref p, rfl, p, rfl, ⟨_, SqL.of hp⟩, fun D nD => R1.walk_it (walk_list (xs := xs)) (fun u H2 => Same H1 H2 ∧ ∃ acc, H2 D = some (.lst acc) ∧ R1.Al (IsTup K H2) acc (((parts i).take u).flatMap nextP)) ⟨Same.mut (Same.refl _) nD, [], upd_same, R1.Al.nil⟩ (fun u H2 _ h => h.1.seq (SqL.of hp)) ?_ ?_⟩
      · rintro u x _ H2 hu ⟨sm2, acc, hD, hB⟩ ⟨rfl, hx⟩
        obtain ⟨ms, hms, b, rfl, hb⟩ := hA.at hx
        obtain ⟨lm, km⟩ := b1 ms (List.mem_of_getElem? hms)
        have hb2 := SameT sm2 hb
        have hk := blk_eq ms
        have hj : (R0.maxL (-1) (ivals ms) + 1 + 1).toNat = blk ms + 1 := by omega
        have ln : ((parts i).take (u + 1)).flatMap nextP = ((parts i).take u).flatMap nextP ++ nextP ms := flat_snoc nextP hms
        have l2 : (((parts i).take (u + 1)).flatMap nextP).length ≤ 1000 := Nat.le_trans (flat_take nextP (parts i) (u + 1)) b2
        have l3 : (((parts i).take u).flatMap nextP).length + (blk ms + 1) ≤ 1000 := by
          rw [ln, List.length_append] at l2
          have : (nextP ms).length = blk ms + 1 := by unfold nextP; simp
          omega
        refine ⟨rfl, .ref b, rfl, b, ivals ms, rfl, .inl (by rw [← nvals_i]; exact hb2), _, 1, rfl, rfl, _, rfl, by omega, by omega, ?_⟩
        refine R1.walk_it walk_range (fun v H3 => Same H1 H3 ∧ ∃ acc, H3 D = some (.lst acc) ∧ R1.Al (IsTup K H3) acc (((parts i).take u).flatMap nextP ++ ((List.range (blk ms + 1)).take v).map fun m => ms ++ [m])) ⟨sm2, acc, hD, by simpa using hB⟩ (fun _ _ _ _ => trivial) ?_ ?_
        · rintro v x _ H3 hv ⟨sm3, acc3, hD3, hA3⟩ ⟨rfl, rfl⟩
          have hv' : v < blk ms + 1 := by omega
          have rv : (List.range (blk ms + 1)).take (v + 1) = (List.range (blk ms + 1)).take v ++ [v] := by
            rw [List.take_add_one, List.getElem?_range hv']; rfl
          have la : acc3.length ≤ 1000 := by
            have := hA3.1
            rw [List.length_append, List.length_map, List.length_take, List.length_range] at this
            omega
          refine ⟨rfl, .ref b, rfl, b, _, rfl, .inl (SameT sm3 hb), _, rfl, ?_⟩
          refine ⟨Nat.le_of_lt (small1000 (by unfold nvals; simp; omega)), fun pt nt => ?_⟩
          have sT : Same H3 (upd H3 pt (.tup (nvals ms ++ [.int (0 + (v : Int))]))) := same_upd nt
          have hD4 := sT _ _ hD3
          refine ⟨acc3, hD4, small1000 la, ?_, _, upd_same, ?_⟩
          · exact Same.mut (sm3.trans sT) nD
          · rw [rv, List.map_append, ← List.append_assoc]
            refine R1.Al.snoc (hA3.mono fun x r h => ?_) ?_
            · exact IsTup.kp (D := D) ((Kp.refl _ _).put) hD4 (h.same sT)
            · refine ⟨pt, rfl, .inl (.inl ?_)⟩
              rw [upd_ne (fun e => by rw [e, hD3] at nt; cases nt), upd_same]
              unfold nvals
              simp
        · rintro H3 ⟨sm3, acc3, hD3, hA3⟩
          refine ⟨sm3, acc3, hD3, ?_⟩
          rw [hj, show (List.range (blk ms + 1)).take (blk ms + 1) = List.range (blk ms + 1) from List.take_of_length_le (by simp)] at hA3
          rw [ln]
          exact hA3
      · rintro H2 ⟨sm2, acc, hD, hB⟩
        refine ⟨D, acc, _, rfl, sm.trans sm2, sm.free nD, hD, ?_⟩
        rw [hA.1, List.take_length] at hB
        exact hB
    · rintro σ' H1 ⟨p, xs, y2, rfl, sm, np, hp, hA⟩
      exact ⟨.ref p, rfl, q p xs H1 sm np hp (by simpa using hA)⟩
end
end K0


namespace K0
open PySem PySem.Spec PyProof.Rows L2
section
variable {P : Program} {w : World} {K : PySem.W.Frag} {mg : Str → Option Value} {base : Heap} {a : Ad}
def cellsS (l : List (List Nat)) (s : Nat) : List (Nat × List Nat) := (l.filter fun ms => decide (blk ms ≤ s)).map fun ms => (s, ms)
def cellsN (n : Nat) : List (Nat × List Nat) := [1, 2, 3].flatMap (cellsS (parts n))
def IsCell (K : PySem.W.Frag) (H : Hp) (x : V) (c : Nat × List Nat) : Prop := ∃ p b, x = V.ref p ∧ SqT K H p [.int (c.1 : Int), .ref b] ∧ SqT K H b (nvals c.2)
theorem IsCell.same {H H' : Hp} {x : V} {c : Nat × List Nat} (k : Same H H') (h : IsCell K H x c) : IsCell K H' x c := by
  obtain ⟨p, b, e, h1, h2⟩ := h
  exact ⟨p, b, e, SameT k h1, SameT k h2⟩
theorem IsCell.kp {D : Addr} {H H' : Hp} {l : List V} {x : V} {c : Nat × List Nat} (k : Kp D H H') (hD : H D = some (.lst l)) (h : IsCell K H x c) : IsCell K H' x c := by
  obtain ⟨p, b, e, h1, h2⟩ := h
  exact ⟨p, b, e, SqT.kp k hD h1, SqT.kp k hD h2⟩
theorem cellsS_len (l : List (List Nat)) (s : Nat) : (cellsS l s).length ≤ l.length := by
  unfold cellsS
  rw [List.length_map]
  exact List.length_filter_le _ _
theorem parts5 : ∀ n, n ≤ 5 → (parts n).length ≤ 60 := by
  have : (List.range 6).all (fun k => decide ((parts k).length ≤ 60)) = true := by decide +kernel
  intro n hn
  exact of_decide_eq_true (List.all_eq_true.mp this n (List.mem_range.mpr (by omega)))
def spCells (K : PySem.W.Frag) : Sp := fun vs H Q _ => ∃ n : Nat, vs = [.int (n : Int)] ∧ n ≤ 5 ∧ ∀ p xs H', Same H H' → H p = none → H' p = some (.lst xs) → R1.Al (IsCell K H') xs (cellsN n) → Q (.ref p) H'
theorem ok_cells (T : Top K mg a) (G_block_count : FnOk P w K mg base CX0 1 a.f_block_count a.d_block_count ["marks"] (spBlk K)) (G_partitions : FnOk P w K mg base CX0 2 a.f_partitions a.d_partitions ["count"] (spParts K)) : FnOk P w K mg base CX0 3 a.f_cells_over a.d_cells_over ["count"] (spCells K) := by
  refine T.F_cells_over.ok sc_cells_over (fun vs H Q E h => ?_) (fun cdv A outer s H vs Q E hr h => ?_)
  · obtain ⟨n, rfl, _⟩ := h
    rfl
  · obtain ⟨n, rfl, hn, q⟩ := h
    obtain ⟨tE, hE⟩ := T.m_ENDLESS
    refine ⟨_, (pss_cons (ps_set (i := 1) sc_cells_over.nd rfl (.inr rfl) (pe_call G_partitions (hr.mono (by decide)) (by rfl) T.m_partitions T.F_partitions.kp T.b_partitions .nil pass0 (pa_cons (pv 0) pa_nil)))
    (pss_one (ps_ret (pe_lc2 (own := [("size", 2), ("marks", 3)]) (vs1 := [3]) rfl sc_cells_over.nd (pi_range2 (by rfl) T.z_range (pa_cons pe_int (pa_cons (pe_op op_add (pe_glob (by rfl) hE (show RelV (.int 3) _ from ⟨_, rfl⟩)) pe_int) pa_nil))) (blkOk_by (own := [("size", 2), ("marks", 3)]) (N := ["count", "every", "size", "marks"]) (sc := defScope s_cells_over) (by decide +kernel)) (by decide) (fun _ _ _ _ _ => (pg_name (i := 2) sc_cells_over.nd rfl (.inl rfl))) (fun _ _ _ _ _ => pts_nil) (fun _ _ _ _ _ => (R1.PI.or (R1.pi_listK (K := K) rfl (pv 1)) (R1.pi_tupK (K := K) rfl (pv 1)))) (fun _ _ _ _ _ => (pg_name (i := 3) sc_cells_over.nd rfl (.inl rfl))) (fun _ _ _ _ _ => pts_one (pt_cmpR (OpR.or op_le op_le_str) (pe_call G_block_count (hr.mono (by decide)) (by rfl) T.m_block_count T.F_block_count.kp T.b_block_count .nil pass0 (pa_cons (pv 3) pa_nil)) (pv 2) (nomark _))) (fun _ _ _ _ _ => (pe_tup (pa_cons (pv 2) (pa_cons (pv 3) pa_nil)))))))), ?_⟩
    have b1 := (parts_small n (by omega)).2
    have b2 := parts5 n hn
    refine ⟨.int (n : Int), rfl, n, rfl, by omega, fun p0 xs H1 s1 n0 hp hA => ?_⟩
    have lx : xs.length = (parts n).length := hA.1
    refine ⟨3, 1, rfl, rfl, 1, 4, rfl, ⟨by omega, by omega, by omega, by omega⟩, fun D nD => R1.walk_it walk_range (fun u H2 => Same H1 H2 ∧ ∃ acc, H2 D = some (.lst acc) ∧ R1.Al (IsCell K H2) acc (([1, 2, 3].take u).flatMap (cellsS (parts n)))) ⟨Same.mut (Same.refl _) nD, [], upd_same, R1.Al.nil⟩ (fun _ _ _ _ => trivial) ?_ ?_⟩
    · rintro i x _ H2 hi ⟨sm2, acc, hD, hB⟩ ⟨rfl, rfl⟩
      have hi3 : i < 3 := by omega
      have h3 : ([1, 2, 3] : List Nat)[i]? = some (i + 1) := by
        rcases (by omega : i = 0 ∨ i = 1 ∨ i = 2) with rfl | rfl | rfl <;> rfl
      have ln : (([1, 2, 3] : List Nat).take (i + 1)).flatMap (cellsS (parts n)) = (([1, 2, 3] : List Nat).take i).flatMap (cellsS (parts n)) ++ cellsS (parts n) (i + 1) := flat_snoc _ h3
      have l3 : ((([1, 2, 3] : List Nat).take i).flatMap (cellsS (parts n))).length ≤ 180 := by
        refine Nat.le_trans (flat_take _ _ i) ?_
        have e1 := cellsS_len (parts n) 1
        have e2 := cellsS_len (parts n) 2
        have e3 := cellsS_len (parts n) 3
        simp only [List.flatMap_cons, List.flatMap_nil, List.length_append, List.append_nil]
        omega
      refine ⟨rfl, .inl ⟨.ref p0, rfl, p0, rfl, ⟨_, sm2.seq (SqL.of hp)⟩, ?_⟩⟩
      refine R1.walk_it (walk_list (xs := xs)) (fun v H3 => Same H1 H3 ∧ ∃ acc, H3 D = some (.lst acc) ∧ R1.Al (IsCell K H3) acc ((([1, 2, 3] : List Nat).take i).flatMap (cellsS (parts n)) ++ cellsS ((parts n).take v) (i + 1))) ⟨sm2, acc, hD, by simpa [cellsS] using hB⟩ (fun v H3 _ h => h.1.seq (SqL.of hp)) ?_ ?_
      · rintro v x _ H3 hv ⟨sm3, acc3, hD3, hA3⟩ ⟨rfl, hx⟩
        obtain ⟨ms, hms, b, rfl, hb⟩ := hA.at hx
        have hb3 := SameT sm3 hb
        have et : (parts n).take (v + 1) = (parts n).take v ++ [ms] := by rw [List.take_add_one, hms]; rfl
        have la : acc3.length ≤ 1000 := by
          have := hA3.1
          have e1 := cellsS_len ((parts n).take v) (i + 1)
          rw [List.length_append] at this
          rw [List.length_take] at e1
          omega
        refine ⟨rfl, .ref b, rfl, b, ivals ms, rfl, .inl (by rw [← nvals_i]; exact hb3), .int (1 + (i : Int)), rfl, .inl ⟨_, _, rfl, rfl, _, rfl, ?_⟩⟩
        have hk := blk_eq ms
        have hd : decide (R0.maxL (-1) (ivals ms) + 1 ≤ 1 + (i : Int)) = decide (blk ms ≤ i + 1) := by
          rw [Bool.eq_iff_iff, decide_eq_true_eq, decide_eq_true_eq]; omega
        rw [hd]
        by_cases hle : blk ms ≤ i + 1
        · rw [decide_eq_true hle]
          refine ⟨.int (1 + (i : Int)), rfl, .ref b, rfl, Nat.le_of_lt (small1000 (by simp)), fun pt nt => ?_⟩
          have sT : Same H3 (upd H3 pt (.tup [.int (1 + (i : Int)), .ref b])) := same_upd nt
          have hD4 := sT _ _ hD3
          refine ⟨acc3, hD4, small1000 la, Same.mut (sm3.trans sT) nD, _, upd_same, ?_⟩
          have ec : cellsS ((parts n).take (v + 1)) (i + 1) = cellsS ((parts n).take v) (i + 1) ++ [(i + 1, ms)] := by
            unfold cellsS
            rw [et, List.filter_append, List.map_append]
            congr 1
            simp [hle]
          rw [ec, ← List.append_assoc]
          refine R1.Al.snoc (hA3.mono fun x r h => ?_) ?_
          · exact IsCell.kp (D := D) ((Kp.refl _ _).put) hD4 (h.same sT)
          · refine ⟨pt, b, rfl, .inl (.inl ?_), ?_⟩
            · rw [upd_ne (fun e => by rw [e, hD3] at nt; cases nt), upd_same]
              congr 4
              show (1 : Int) + (i : Int) = ((i + 1 : Nat) : Int)
              omega
            · exact SqT.kp (D := D) ((Kp.refl _ _).put) hD4 (SameT sT hb3)
        · rw [decide_eq_false hle]
          refine ⟨sm3, acc3, hD3, ?_⟩
          have ec : cellsS ((parts n).take (v + 1)) (i + 1) = cellsS ((parts n).take v) (i + 1) := by
            unfold cellsS
            rw [et, List.filter_append, List.map_append]
            simp [hle]
          rw [ec]
          exact hA3
      · rintro H3 ⟨sm3, acc3, hD3, hA3⟩
        refine ⟨sm3, acc3, hD3, ?_⟩
        rw [lx, List.take_length] at hA3
        rw [ln]
        exact hA3
    · rintro H2 ⟨sm2, acc, hD, hB⟩
      exact q D acc H2 (s1.trans sm2) (s1.free nD) hD hB
end
end K0


namespace K0
open PySem PySem.Spec PyProof.Rows L2
section
variable {P : Program} {w : World} {K : PySem.W.Frag} {mg : Str → Option Value} {base : Heap} {a : Ad}
theorem blk_dist : ∀ n, n < 7 → ∀ r ∈ parts n, blk r = (R1.dist (ivals r)).length := by
  have : (List.range 7).all (fun k => (parts k).all fun r => decide (blk r = (R1.dist (ivals r)).length)) = true := by decide +kernel
  intro n hn r hr
  exact of_decide_eq_true (List.all_eq_true.mp (List.all_eq_true.mp this n (List.mem_range.mpr hn)) r hr)
def IsLst (H : Hp) (x : V) (ms : List Nat) : Prop := ∃ b, x = V.ref b ∧ H b = some (.lst (nvals ms))
def IsLstX (D : Addr) (H : Hp) (x : V) (ms : List Nat) : Prop := ∃ b, x = V.ref b ∧ b ≠ D ∧ H b = some (.lst (nvals ms))
theorem IsLst.same {H H' : Hp} {x : V} {ms : List Nat} (k : Same H H') (h : IsLst H x ms) : IsLst H' x ms := by
  obtain ⟨b, e, h⟩ := h
  exact ⟨b, e, k _ _ h⟩
theorem IsLstX.kp {D : Addr} {H H' : Hp} {x : V} {ms : List Nat} (k : Kp D H H') (h : IsLstX D H x ms) : IsLstX D H' x ms := by
  obtain ⟨b, e, n, h⟩ := h
  exact ⟨b, e, n, k _ _ n h⟩
theorem IsLstX.is {D : Addr} {H : Hp} {x : V} {ms : List Nat} (h : IsLstX D H x ms) : IsLst H x ms := by
  obtain ⟨b, e, n, h⟩ := h
  exact ⟨b, e, h⟩
def spPartsL (K : PySem.W.Frag) : Sp := fun vs H Q _ => ∃ n : Nat, vs = [.int (n : Int)] ∧ n ≤ 6 ∧ ∀ p xs H', Same H H' → H p = none → H' p = some (.lst xs) → R1.Al (IsTup K H') xs (parts n) → Q (.ref p) H'
theorem ok_partsL (T : Top K mg a) : FnOk P w K mg base CX0 1 a.f_l_partitions a.d_l_partitions ["_law_count"] (spPartsL K) := by
  refine T.F_l_partitions.ok sc_l_partitions (fun vs H Q E h => ?_) (fun cdv A outer s H vs Q E hr h => ?_)
  · obtain ⟨n, rfl, _⟩ := h
    rfl
  · obtain ⟨n, rfl, hn, q⟩ := h
    refine ⟨_, (pss_cons (ps_set (i := 1) sc_l_partitions.nd rfl (.inl rfl) (pe_lst (pa_cons (pe_lst pa_nil) pa_nil)))
    (pss_cons (ps_for PassesOwn.never rfl (pi_range1 (by rfl) T.z_range (pa_cons (pv 0) pa_nil)) (pg_name (i := 2) sc_l_partitions.nd rfl (.inl rfl))
      (pss_cons (ps_set (i := 3) sc_l_partitions.nd rfl (.inl rfl) (pe_lst pa_nil))
      (pss_cons (ps_for PassesOwn.never rfl (R1.PI.or (pi_list (pv 1)) (pi_tup (pv 1))) (pg_name (i := 4) sc_l_partitions.nd rfl (.inl rfl))
        (pss_one (ps_for PassesOwn.never rfl (pi_range1 (by rfl) T.z_range (pa_cons (pe_op op_add (R1.pe_lenSetX rfl (by rfl) T.z_len (by rfl) T.z_set (pv 4)) pe_int) pa_nil)) (pg_name (i := 5) sc_l_partitions.nd rfl (.inl rfl))
          (pss_one (ps_expr (pe_bm PySem.F.plainAttrs_list PySem.F.slot_list_append PySem.F.type_list_append mt_append (pv 3) (pa_cons (pe_op op_cat (pv 4) (pe_lst (pa_cons (pv 5) pa_nil))) pa_nil)))))))
      (pss_one (ps_set (i := 1) sc_l_partitions.nd rfl (.inl rfl) (pe_callTy call_list_of (by rfl) T.z_list (by decide +kernel) (pa_cons (pv 3) pa_nil)))))))
    (pss_one (ps_ret (pe_lc (own := [("_law_row", 4)]) rfl sc_l_partitions.nd (R1.PI.or (pi_list (pv 1)) (pi_tup (pv 1))) (blkOk_by (own := [("_law_row", 4)]) (N := ["_law_count", "_law_rows", "_law_step", "_law_longer", "_law_row", "_law_mark"]) (sc := defScope s_l_partitions) (by decide +kernel)) (fun _ _ _ _ _ => (pg_name (i := 4) sc_l_partitions.nd rfl (.inl rfl))) (fun _ _ _ _ _ => pts_nil) (fun _ _ _ _ _ => (pe_callTy (R1.tuple_ofK (K := K) rfl) (by rfl) T.z_tuple (by decide +kernel) (pa_cons (pv 4) pa_nil)))))))), ?_⟩
    refine ⟨Nat.zero_le _, fun p0 n0 => ⟨Nat.le_of_lt (small1000 (by simp)), fun p1 n1 => ?_⟩⟩
    have h1n : H p1 = none := by
      by_cases e : p1 = p0
      · rw [e]; exact n0
      · rw [upd_ne e] at n1; exact n1
    have s0 : Same H (upd (upd H p0 (.lst [])) p1 (.lst [V.ref p0])) := Same.mut (Same.mut (Same.refl _) n0) h1n
    have hp0 : (upd (upd H p0 (.lst [])) p1 (.lst [V.ref p0])) p0 = some (.lst []) := by
      rw [upd_ne (fun e => by rw [← e, upd_same] at n1; cases n1), upd_same]
    refine ⟨.int (n : Int), rfl, (n : Int), rfl, by omega, by omega, for_it walk_range (fun i σ' H' => ∃ p xs y2 y3 y4 y5, σ' = [some (.int (n : Int)), some (.ref p), y2, y3, y4, y5] ∧ Same H H' ∧ H p = none ∧ H' p = some (.lst xs) ∧ R1.Al (IsLst H') xs (parts i)) ⟨p1, [V.ref p0], none, none, none, none, rfl, s0, h1n, upd_same, R1.Al.one ⟨p0, rfl, hp0⟩⟩ (fun _ _ _ _ _ => trivial) ?_ ?_⟩
    · rintro i x σ' _ H1 hi ⟨p, xs, y2, y3, y4, y5, rfl, sm, np, hp, hA⟩ ⟨rfl, rfl⟩
      have hi7 : i < 7 := by omega
      have b1 := (parts_small i hi7).2
      have b2 := (parts_small (i + 1) (by omega)).1
      have b3 := blk_dist i hi7
      have lx : xs.length = (parts i).length := hA.1
      refine ⟨Nat.zero_le _, fun D nD => ?_⟩
      refine .inl ⟨.ref p, rfl, p, rfl, ⟨xs, SqL.of ((same_upd nD) _ _ hp)⟩, for_it (walk_list (xs := xs)) (fun u σ' H2 => ∃ y4 y5 acc, σ' = [some (.int (n : Int)), some (.ref p), some (.int (0 + (i : Int))), some (.ref D), y4, y5] ∧ Same H1 H2 ∧ H2 D = some (.lst acc) ∧ R1.Al (IsLstX D H2) acc (((parts i).take u).flatMap nextP)) ⟨y4, y5, [], rfl, Same.mut (Same.refl _) nD, upd_same, R1.Al.nil⟩ ?_ ?_ ?_⟩
      · rintro u σ' H2 _ ⟨_, _, _, _, sm2, _⟩
        exact sm2.seq (SqL.of hp)
      · rintro u x σ' _ H2 hu ⟨z4, z5, acc, rfl, sm2, hD, hB⟩ ⟨rfl, hx⟩
        obtain ⟨ms, hms, b, rfl, hb⟩ := hA.at hx
        have hmem := List.mem_of_getElem? hms
        obtain ⟨lm, km⟩ := b1 ms hmem
        have hk := b3 ms hmem
        have bD : b ≠ D := fun e => by rw [e, nD] at hb; cases hb
        have hb2 := sm2 _ _ hb
        have ln : ((parts i).take (u + 1)).flatMap nextP = ((parts i).take u).flatMap nextP ++ nextP ms := flat_snoc nextP hms
        have l2 : (((parts i).take (u + 1)).flatMap nextP).length ≤ 1000 := Nat.le_trans (flat_take nextP (parts i) (u + 1)) b2
        have l3 : (((parts i).take u).flatMap nextP).length + (blk ms + 1) ≤ 1000 := by
          rw [ln, List.length_append] at l2
          have : (nextP ms).length = blk ms + 1 := by unfold nextP; simp
          omega
        refine ⟨.ref b, rfl, b, ivals ms, rfl, .inl (SqL.of (by rw [← nvals_i]; exact hb2)), by unfold ivals; simp; omega, _, 1, rfl, rfl, _, rfl, by omega, by omega, ?_⟩
        refine for_it walk_range (fun v σ' H3 => ∃ y5 acc, σ' = [some (.int (n : Int)), some (.ref p), some (.int (0 + (i : Int))), some (.ref D), some (.ref b), y5] ∧ Same H1 H3 ∧ H3 D = some (.lst acc) ∧ R1.Al (IsLstX D H3) acc (((parts i).take u).flatMap nextP ++ ((List.range (blk ms + 1)).take v).map fun m => ms ++ [m])) ⟨z5, acc, rfl, sm2, hD, by simpa using hB⟩ (fun _ _ _ _ _ => trivial) ?_ ?_
        · rintro v x σ' _ H3 hv ⟨w5, acc3, rfl, sm3, hD3, hA3⟩ ⟨rfl, rfl⟩
          have hv' : v < blk ms + 1 := by omega
          have rv : (List.range (blk ms + 1)).take (v + 1) = (List.range (blk ms + 1)).take v ++ [v] := by
            rw [List.take_add_one, List.getElem?_range hv']; rfl
          have la : acc3.length ≤ 1000 := by
            have := hA3.1
            rw [List.length_append, List.length_map, List.length_take, List.length_range] at this
            omega
          have hb3 := sm3 _ _ hb
          refine ⟨.ref D, rfl, .inl ⟨rfl, acc3, SqL.of hD3⟩, .ref b, rfl, .int (0 + (v : Int)), rfl, Nat.le_of_lt (small1000 (by simp)), fun pt nt => ?_⟩
          have sT : Same H3 (upd H3 pt (.lst [.int (0 + (v : Int))])) := same_upd nt
          refine ⟨b, pt, _, _, rfl, rfl, sT _ _ hb3, upd_same, Nat.le_of_lt (small1000 (by unfold nvals; simp; omega)), fun p2 n2 => ?_⟩
          have sT2 : Same H3 (upd (upd H3 pt (.lst [.int (0 + (v : Int))])) p2 (.lst (nvals ms ++ [.int (0 + (v : Int))]))) := sT.trans (same_upd n2)
          have hD4 := sT2 _ _ hD3
          refine ⟨D, acc3, .ref p2, rfl, rfl, hD4, small1000 la, _, _, rfl, ?_, upd_same, ?_⟩
          · exact Same.mut (sm3.trans sT2) nD
          · rw [rv, List.map_append, ← List.append_assoc]
            have k4 : Kp D H3 (upd (upd (upd H3 pt (.lst [.int (0 + (v : Int))])) p2 (.lst (nvals ms ++ [.int (0 + (v : Int))]))) D (.lst (acc3 ++ [V.ref p2]))) := (Same.kp sT2).put
            refine R1.Al.snoc (hA3.mono fun x r h => h.kp k4) ?_
            have pD : p2 ≠ D := fun e => by rw [e, sT _ _ hD3] at n2; cases n2
            refine ⟨p2, rfl, pD, ?_⟩
            rw [upd_ne pD, upd_same]
            unfold nvals
            simp
        · rintro σ' H3 ⟨w5, acc3, rfl, sm3, hD3, hA3⟩
          refine ⟨_, _, acc3, rfl, sm3, hD3, ?_⟩
          rw [show (((R1.dist (ivals ms)).length : Int) + 1).toNat = blk ms + 1 by omega, show (List.range (blk ms + 1)).take (blk ms + 1) = List.range (blk ms + 1) from List.take_of_length_le (by simp)] at hA3
          rw [ln]
          exact hA3
      · rintro σ' H2 ⟨z4, z5, acc, rfl, sm2, hD, hB⟩
        rw [lx, List.take_length] at hB
        refine ⟨.ref D, rfl, D, acc, rfl, .inl (SqL.of hD), fun l nl => ?_⟩
        have sl : Same H1 (upd H2 l (.lst acc)) := Same.mut sm2 (sm2.free nl)
        have sl2 : Same H2 (upd H2 l (.lst acc)) := same_upd nl
        exact ⟨l, acc, _, _, _, _, rfl, sm.trans sl, sm.free (sm2.free nl), upd_same, hB.mono fun x r h => h.is.same sl2⟩
    · rintro σ' H1 ⟨p, xs, y2, y3, y4, y5, rfl, sm, np, hp, hA⟩
      have hA : R1.Al (IsLst H1) xs (parts n) := by simpa using hA
      have b1 := (parts_small n (by omega)).2
      have b2 := (parts_small n (by omega)).1
      have lx : xs.length = (parts n).length := hA.1
      refine .inl ⟨.ref p, rfl, p, rfl, ⟨xs, SqL.of hp⟩, fun D nD => lc_it (walk_list (xs := xs)) (fun u H2 => Same H1 H2 ∧ ∃ acc, H2 D = some (.lst acc) ∧ R1.Al (IsTup K H2) acc ((parts n).take u)) ⟨Same.mut (Same.refl _) nD, [], upd_same, R1.Al.nil⟩ (fun u H2 _ h => h.1.seq (SqL.of hp)) ?_ ?_⟩
      · rintro u x _ H2 hu ⟨sm2, acc, hD, hB⟩ ⟨rfl, hx⟩
        obtain ⟨ms, hms, b, rfl, hb⟩ := hA.at hx
        have et : (parts n).take (u + 1) = (parts n).take u ++ [ms] := by rw [List.take_add_one, hms]; rfl
        have la : acc.length ≤ 1000 := by
          have := hB.1
          rw [List.length_take] at this
          omega
        refine ⟨rfl, .ref b, rfl, b, _, rfl, .inl ⟨SqL.of (sm2 _ _ hb), fun pt nt => ?_⟩⟩
        have sT : Same H2 (upd H2 pt (.tup (nvals ms))) := same_upd nt
        have hD4 := sT _ _ hD
        refine ⟨acc, hD4, small1000 la, Same.mut (sm2.trans sT) nD, _, upd_same, ?_⟩
        rw [et]
        refine R1.Al.snoc (hB.mono fun x r h => IsTup.kp (D := D) ((Kp.refl _ _).put) hD4 (h.same sT)) ⟨pt, rfl, .inl (.inl ?_)⟩
        rw [upd_ne (fun e => by rw [e, hD] at nt; cases nt), upd_same]
      · rintro H2 ⟨sm2, acc, hD, hB⟩
        rw [lx, List.take_length] at hB
        exact q D acc H2 (sm.trans sm2) (sm.free nD) hD hB
end
end K0


namespace K0
open PySem PySem.Spec PyProof.Rows L2
section
variable {P : Program} {w : World} {K : PySem.W.Frag} {mg : Str → Option Value} {base : Heap} {a : Ad}
theorem if_ans {c : TT} {t u : TS} {D : Ends} {σ : L2.St} {H : Hp} {b : Bool} (h : Ans c σ H b) (h1 : b = true → t D σ H) (h2 : b = false → u D σ H) : tIfS c t u D σ H := by
  refine h _ ?_
  show if b = true then t D σ H else u D σ H
  exact ite2 h1 (fun e => h2 (Bool.eq_false_iff.mpr e))
theorem ans_or2 {t u : TT} {σ : L2.St} {H : Hp} {b1 b2 : Bool} (h1 : Ans t σ H b1) (h2 : Ans u σ H b2) : Ans (tOr t u) σ H (b1 || b2) := by
  cases b1 with
  | true => exact ans_or1 h1
  | false => exact ans_or h1 h2
theorem parts3 : ∀ n, n ≤ 3 → ((parts n).length ≤ 10 ∧ ∀ r ∈ parts n, r.length = n ∧ blk r ≤ 3) := by
  have : (List.range 4).all (fun k => decide ((parts k).length ≤ 10) && (parts k).all fun r => decide (r.length = k) && decide (blk r ≤ 3)) = true := by decide +kernel
  intro k hk
  have h := List.all_eq_true.mp this k (List.mem_range.mpr (by omega))
  rw [Bool.and_eq_true] at h
  refine ⟨of_decide_eq_true h.1, fun r hr => ?_⟩
  have h2 := List.all_eq_true.mp h.2 r hr
  rw [Bool.and_eq_true] at h2
  exact ⟨of_decide_eq_true h2.1, of_decide_eq_true h2.2⟩
def spCellsL (K : PySem.W.Frag) : Sp := fun vs H Q _ => ∃ n : Nat, vs = [.int (n : Int)] ∧ n ≤ 3 ∧ ∀ p xs H', Same H H' → H p = none → H' p = some (.lst xs) → R1.Al (IsCell K H') xs (cellsN n) → Q (.ref p) H'
theorem ok_cellsL (T : Top K mg a) (G_l_partitions : FnOk P w K mg base CX0 1 a.f_l_partitions a.d_l_partitions ["_law_count"] (spPartsL K)) : FnOk P w K mg base CX0 2 a.f_l_cells a.d_l_cells ["_law_count"] (spCellsL K) := by
  refine T.F_l_cells.ok sc_l_cells (fun vs H Q E h => ?_) (fun cdv A outer s H vs Q E hr h => ?_)
  · obtain ⟨n, rfl, _⟩ := h
    rfl
  · obtain ⟨n, rfl, hn, q⟩ := h
    refine ⟨_, (pss_cons (ps_set (i := 1) sc_l_cells.nd rfl (.inl rfl) (pe_lst pa_nil))
    (pss_cons (ps_for PassesOwn.never rfl (pi_tup (pe_tup (pa_cons pe_int (pa_cons pe_int (pa_cons pe_int pa_nil))))) (pg_name (i := 2) sc_l_cells.nd rfl (.inl rfl))
      (pss_one (ps_for PassesOwn.never rfl (R1.PI.or (pi_list (pe_call G_l_partitions (hr.mono (by decide)) (by rfl) T.m_l_partitions T.F_l_partitions.kp T.b_l_partitions .nil pass0 (pa_cons (pv 0) pa_nil))) (pi_tup (pe_call G_l_partitions (hr.mono (by decide)) (by rfl) T.m_l_partitions T.F_l_partitions.kp T.b_l_partitions .nil pass0 (pa_cons (pv 0) pa_nil)))) (pg_name (i := 3) sc_l_cells.nd rfl (.inl rfl))
        (pss_one (ps_if (PW.pt (pw_or (pt_cmpR (OpR.or op_eq (op_eqD hr.units)) (pv 2) pe_int (nomark _)) (pw_or1 (pt_cmpR (OpR.or op_le op_le_str) (R1.pe_lenSetX rfl (by rfl) T.z_len (by rfl) T.z_set (pv 3)) (pv 2) (nomark _)))))
          (pss_one (ps_expr (pe_bm PySem.F.plainAttrs_list PySem.F.slot_list_append PySem.F.type_list_append mt_append (pv 1) (pa_cons (pe_tup (pa_cons (pv 2) (pa_cons (pv 3) pa_nil))) pa_nil))))
          pss_nil)))))
    (pss_one (ps_ret (pv 1))))), ?_⟩
    obtain ⟨b2, b1⟩ := parts3 n hn
    have b3 := blk_dist n (by omega)
    refine ⟨Nat.zero_le _, fun D nD => ?_⟩
    refine ⟨Nat.le_of_lt (small1000 (by simp)), fun pt nt => ?_⟩
    have h1n : H pt = none := by
      by_cases e : pt = D
      · rw [e]; exact nD
      · rw [upd_ne e] at nt; exact nt
    have s0 : Same H (upd (upd H D (.lst [])) pt (.tup [.int 1, .int 2, .int 3])) := Same.mut (Same.mut (Same.refl _) nD) h1n
    have hD0 : (upd (upd H D (.lst [])) pt (.tup [.int 1, .int 2, .int 3])) D = some (.lst []) := by
      rw [upd_ne (fun e => by rw [← e, upd_same] at nt; cases nt), upd_same]
    refine ⟨pt, rfl, ⟨_, SqT.of upd_same⟩, for_it (walk_tup (xs := [.int 1, .int 2, .int 3])) (fun i σ' H2 => ∃ y2 y3 acc, σ' = [some (.int (n : Int)), some (.ref D), y2, y3] ∧ Same H H2 ∧ H2 pt = some (.tup [.int 1, .int 2, .int 3]) ∧ H2 D = some (.lst acc) ∧ R1.Al (IsCell K H2) acc (([1, 2, 3].take i).flatMap (cellsS (parts n)))) ⟨none, none, [], rfl, s0, upd_same, hD0, R1.Al.nil⟩ ?_ ?_ ?_⟩
    · rintro u σ' H2 _ ⟨_, _, _, _, _, h, _⟩
      exact SqT.of h
    · rintro i x σ' _ H2 hi ⟨y2, y3, acc, rfl, sm, ht, hD, hB⟩ ⟨rfl, hx⟩
      have hi3 : i < 3 := hi
      have h3 : ([1, 2, 3] : List Nat)[i]? = some (i + 1) := by
        rcases (by omega : i = 0 ∨ i = 1 ∨ i = 2) with rfl | rfl | rfl <;> rfl
      obtain rfl : x = .int ((i + 1 : Nat) : Int) := by
        rcases (by omega : i = 0 ∨ i = 1 ∨ i = 2) with rfl | rfl | rfl <;> exact (Option.some.inj hx).symm
      have ln : (([1, 2, 3] : List Nat).take (i + 1)).flatMap (cellsS (parts n)) = (([1, 2, 3] : List Nat).take i).flatMap (cellsS (parts n)) ++ cellsS (parts n) (i + 1) := flat_snoc _ h3
      have l3 : ((([1, 2, 3] : List Nat).take i).flatMap (cellsS (parts n))).length ≤ 180 := by
        refine Nat.le_trans (flat_take _ _ i) ?_
        have e1 := cellsS_len (parts n) 1
        have e2 := cellsS_len (parts n) 2
        have e3 := cellsS_len (parts n) 3
        simp only [List.flatMap_cons, List.flatMap_nil, List.length_append, List.append_nil]
        omega
      refine .inl ⟨.int (n : Int), rfl, n, rfl, by omega, fun p xs H3 s3 np hp hA => ?_⟩
      have lx : xs.length = (parts n).length := hA.1
      have pD : p ≠ D := fun e => by rw [e, hD] at np; cases np
      refine ⟨p, rfl, ⟨xs, SqL.of hp⟩, for_it (walk_list (xs := xs)) (fun v σ' H4 => ∃ y3 acc, σ' = [some (.int (n : Int)), some (.ref D), some (.int ((i + 1 : Nat) : Int)), y3] ∧ Kp D H3 H4 ∧ H4 D = some (.lst acc) ∧ R1.Al (IsCell K H4) acc ((([1, 2, 3] : List Nat).take i).flatMap (cellsS (parts n)) ++ cellsS ((parts n).take v) (i + 1))) ⟨y3, acc, rfl, Kp.refl _ _, s3 _ _ hD, by simpa [cellsS] using hB.mono fun x r h => h.same s3⟩ ?_ ?_ ?_⟩
      · rintro v σ' H4 _ ⟨_, _, _, k4, _⟩
        exact SqL.of (k4 _ _ pD hp)
      · rintro v x σ' _ H4 hv ⟨z3, acc3, rfl, k4, hD3, hA3⟩ ⟨rfl, hx⟩
        obtain ⟨ms, hms, b, rfl, hb⟩ := hA.at hx
        have hmem := List.mem_of_getElem? hms
        obtain ⟨lm, km⟩ := b1 ms hmem
        have hk := b3 ms hmem
        have hb4 : SqT K H4 b (nvals ms) := SqT.kp k4 (s3 _ _ hD) hb
        have et : (parts n).take (v + 1) = (parts n).take v ++ [ms] := by rw [List.take_add_one, hms]; rfl
        have la : acc3.length ≤ 1000 := by
          have := hA3.1
          have e1 := cellsS_len ((parts n).take v) (i + 1)
          rw [List.length_append] at this
          rw [List.length_take] at e1
          omega
        have hd : (decide ((((i + 1 : Nat) : Int)) = 3) || decide (((R1.dist (ivals ms)).length : Int) ≤ ((i + 1 : Nat) : Int))) = decide (blk ms ≤ i + 1) := by
          rw [Bool.eq_iff_iff, Bool.or_eq_true, decide_eq_true_eq, decide_eq_true_eq, decide_eq_true_eq]
          omega
        have ptD : H4 D ≠ none := by rw [hD3]; exact fun h => nomatch h
        refine if_ans (b := decide (blk ms ≤ i + 1)) (by
          rw [← hd]
          exact ans_or2 (fun Q q => ⟨_, rfl, eqi q⟩) (fun Q q => ⟨_, rfl, b, ivals ms, rfl, .inr (by rw [← nvals_i]; exact hb4), by unfold ivals; simp; omega, _, rfl, .inl ⟨_, _, rfl, rfl, _, rfl, q⟩⟩)) (fun he => ?_) (fun he => ?_)
        · have hle := of_decide_eq_true he
          refine ⟨.ref D, rfl, .inl ⟨rfl, acc3, SqL.of hD3⟩, .int ((i + 1 : Nat) : Int), rfl, .ref b, rfl, Nat.le_of_lt (small1000 (by simp)), fun pu nu => ?_⟩
          have sT : Same H4 (upd H4 pu (.tup [.int ((i + 1 : Nat) : Int), .ref b])) := same_upd nu
          have hD4 := sT _ _ hD3
          refine ⟨D, acc3, .ref pu, rfl, rfl, hD4, small1000 la, _, _, rfl, k4.trans (Same.kp sT).put, upd_same, ?_⟩
          have ec : cellsS ((parts n).take (v + 1)) (i + 1) = cellsS ((parts n).take v) (i + 1) ++ [(i + 1, ms)] := by
            unfold cellsS
            rw [et, List.filter_append, List.map_append]
            congr 1
            simp [hle]
          rw [ec, ← List.append_assoc]
          refine R1.Al.snoc (hA3.mono fun x r h => ?_) ?_
          · exact IsCell.kp (D := D) ((Kp.refl _ _).put) hD4 (h.same sT)
          · refine ⟨pu, b, rfl, .inl (.inl ?_), ?_⟩
            · rw [upd_ne (fun e => by rw [e, hD3] at nu; cases nu), upd_same]
            · exact SqT.kp (D := D) ((Kp.refl _ _).put) hD4 (SameT sT hb4)
        · have hle := of_decide_eq_false he
          refine ⟨_, acc3, rfl, k4, hD3, ?_⟩
          have ec : cellsS ((parts n).take (v + 1)) (i + 1) = cellsS ((parts n).take v) (i + 1) := by
            unfold cellsS
            rw [et, List.filter_append, List.map_append]
            simp [hle]
          rw [ec]
          exact hA3
      · rintro σ' H4 ⟨z3, acc3, rfl, k4, hD3, hA3⟩
        have ptD : pt ≠ D := fun e => by rw [e, hD] at ht; cases ht
        refine ⟨_, _, acc3, rfl, fun b u hb => ?_, k4 _ _ ptD (s3 _ _ ht), hD3, ?_⟩
        · exact k4 _ _ (fun e => by rw [e, nD] at hb; cases hb) (s3 _ _ (sm _ _ hb))
        · rw [lx, List.take_length] at hA3
          rw [ln]
          exact hA3
    · rintro σ' H2 ⟨y2, y3, acc, rfl, sm, ht, hD, hB⟩
      exact ⟨.ref D, rfl, q D acc H2 sm nD hD hB⟩
end
end K0

namespace K0
open PySem PySem.Spec PyProof.Rows L2
theorem eqv_ints : ∀ ns ms : List Int, PyData.eqvAll (ns.map PyData.int) (ms.map PyData.int) = decide (ns = ms)
  | [], [] => by simp [PyData.eqvAll]
  | [], _ :: _ => by simp [PyData.eqvAll]
  | _ :: _, [] => by simp [PyData.eqvAll]
  | a :: r, b :: t => by
    show PyData.eqvAll (PyData.int a :: r.map PyData.int) (PyData.int b :: t.map PyData.int) = _
    rw [PyData.eqvAll, eqv_ints r t]
    simp only [PyData.eqv]
    rw [Bool.eq_iff_iff, Bool.and_eq_true, beq_iff_eq, decide_eq_true_eq, decide_eq_true_eq, List.cons.injEq]
theorem shaped_tints (ns : List Int) : SeqAt.shaped (.tuple (ns.map PyData.int)) = true := by
  simp [SeqAt.shaped, PyData.canLay0, PyData.depth, PySem.W.ke_canLayAll0, PySem.W.ke_depthAll]
theorem dp_ints {K : PySem.W.Frag} {H : Hp} : ∀ ns : List Int, DpAll K H (ns.map V.int) (ns.map PyData.int)
  | [] => .nil
  | n :: r => .cons (.int n) (dp_ints r)
def isI : V → Bool
  | .int _ => true
  | _ => false
def Prim : V → Prop
  | .int _ => True
  | .bl _ => True
  | .str _ => True
  | .non => True
  | _ => False
theorem prim_int {K : PySem.W.Frag} {H : Hp} {x : V} (h : Prim x) : ∃ t b c, TyX K H x (.type t) ∧ kitB t "int" = some b ∧ kitB t "bool" = some c ∧ (b && !c) = isI x := by
  cases x with
  | int i => exact ⟨"int", true, false, .base (.int i), by decide +kernel, by decide +kernel, rfl⟩
  | bl b => exact ⟨"bool", true, true, .base (.bl b), by decide +kernel, by decide +kernel, rfl⟩
  | str s => exact ⟨"str", false, false, .base (.str s), by decide +kernel, by decide +kernel, rfl⟩
  | non => exact ⟨"NoneType", false, false, .base .non, by decide +kernel, by decide +kernel, rfl⟩
  | _ => exact h.elim
def vInt : V → Int
  | .int i => i
  | _ => 0
theorem all_ints : ∀ {xs : List V}, xs.all isI = true → xs = (xs.map vInt).map V.int
  | [], _ => rfl
  | x :: r, h => by
    rw [List.all_cons, Bool.and_eq_true] at h
    rw [List.map_cons, List.map_cons, ← all_ints h.2]
    cases x with
    | int i => rfl
    | _ => exact absurd h.1 (by simp [isI])
/-- the marks are numbered as they come -/
def mOk (ns : List Int) : Bool := decide (ivals (marksOf (ns.map (Sum.inl : Int → Key))) = ns)
def isPart (xs : List V) (n : Nat) : Bool := decide (xs.length = n) && (xs.all isI && mOk (xs.map vInt))
theorem nei {K : PySem.W.Frag} {x y : Int} {H : Hp} {Q : Bool → Hp → Prop} (q : Q (!decide (x = y)) H) : (fun x y H Q => rNe x y H Q ∨ rNeD K x y H Q) (.int x) (.int y) H (fun z H' => ∃ k, z = .bl k ∧ Q k H') := .inl ⟨rfl, _, rfl, by
  have e : decide (V.int x = V.int y) = decide (x = y) := by
    by_cases h : x = y
    · rw [decide_eq_true h, decide_eq_true (by rw [h])]
    · rw [decide_eq_false h, decide_eq_false (fun z => h (V.int.inj z))]
  rw [e]; exact q⟩
section
variable {P : Program} {w : World} {K : PySem.W.Frag} {mg : Str → Option Value} {base : Heap} {a : Ad}
def spIsPart (K : PySem.W.Frag) : Sp := fun vs H Q _ => ∃ (x : V) (n : Nat), vs = [x, .int (n : Int)] ∧ ((∃ t, TyX K H x (.type t) ∧ kitB t "tuple" = some false ∧ Q (.bl false) H) ∨
  ∃ a0 xs, x = .ref a0 ∧ SqT K H a0 xs ∧ (∀ y ∈ xs, Prim y) ∧ xs.length ≤ 1000 ∧ ∀ H', Same H H' → Q (.bl (isPart xs n)) H')
theorem ok_isPart (T : Top K mg a) (G_is_int : FnOk P w K mg base CX0 1 a.f_is_int a.d_is_int ["value"] (spIsInt K)) (G_marked : FnOk P w K mg base CX0 1 a.f_marked a.d_marked ["keys"] (spMarkK K)) : FnOk P w K mg base CX0 2 a.f_is_partition a.d_is_partition ["value", "count"] (spIsPart K) := by
  refine T.F_is_partition.ok sc_is_partition (fun vs H Q E h => ?_) (fun cdv A outer s H vs Q E hr h => ?_)
  · obtain ⟨x, n, rfl, _⟩ := h
    rfl
  · obtain ⟨x, n, rfl, h⟩ := h
    refine ⟨_, (pss_cons (ps_if (PW.pt (pw_or (pt_not (pt_val (pe_callB call_isi (by rfl) T.z_isinstance (by decide +kernel) (pa_cons (pv 0) (pa_cons (pe_bltn (v := .ty "tuple") (by rfl) T.z_tuple (by decide +kernel) rfl) pa_nil))))) (pw_or1 (pt_cmpR (OpR.or op_ne (op_neD hr.units)) (pe_callB (CallR.or call_len_str call_len_seq) (by rfl) T.z_len (by decide +kernel) (pa_cons (pv 0) pa_nil)) (pv 1) (nomark _)))))
      (pss_one (ps_ret pe_bl))
      pss_nil)
    (pss_one (ps_ret (pe_and (pe_callB (cr_all rfl) (by rfl) T.z_all (by decide +kernel) (pa_cons (pe_lc (own := [("mark", 2)]) rfl sc_is_partition.nd (R1.PI.or (pi_list (pv 0)) (pi_tup (pv 0))) (blkOk_by (own := [("mark", 2)]) (N := ["value", "count", "mark"]) (sc := defScope s_is_partition) (by decide +kernel)) (fun _ _ _ _ _ => (pg_name (i := 2) sc_is_partition.nd rfl (.inl rfl))) (fun _ _ _ _ _ => pts_nil) (fun _ _ _ _ _ => (pe_call G_is_int (hr.mono (by decide)) (by rfl) T.m_is_int T.F_is_int.kp T.b_is_int .nil pass0 (pa_cons (pv 2) pa_nil)))) pa_nil)) (pe_one (pe_cmpR (OpR.or op_eq (op_eqD hr.units)) (pe_call G_marked (hr.mono (by decide)) (by rfl) T.m_marked T.F_marked.kp T.b_marked .nil pass0 (pa_cons (pv 0) pa_nil)) (pv 0) (nomark _))))))), ?_⟩
    rcases h with ⟨t, ht, hk, q⟩ | ⟨a0, xs, rfl, hS, hP, hl, q⟩
    · refine if_ans (b := true) (ans_or1 fun Q q => isit rfl ht hk q) (fun _ => q) (fun e => nomatch e)
    · have hb : Ans (tNot (tB (tCB (rIsi K) (tCons (tVar 0) (tCons (tC (V.ty "tuple")) tNil))))) (L2.start [Str.ofString "value", Str.ofString "count", Str.ofString "mark"] [.ref a0, .int (n : Int)]) H false := fun Q q => isit rfl (tyx_t hS) (b := true) (by decide +kernel) q
      refine if_ans (b := (false || !decide (xs.length = n))) (ans_or2 hb (fun Q q => ⟨_, rfl, .inr ⟨a0, xs, rfl, .inr hS, _, rfl, nei ?_⟩⟩)) (fun e => ?_) (fun e => ?_)
      · have : decide ((xs.length : Int) = (n : Int)) = decide (xs.length = n) := by rw [Bool.eq_iff_iff, decide_eq_true_eq, decide_eq_true_eq]; omega
        rw [this]
        exact q
      · have := q H (Same.refl _)
        have e2 : isPart xs n = false := by
          unfold isPart
          have : decide (xs.length = n) = false := by simpa using e
          rw [this]; rfl
        rw [e2] at this
        exact this
      · have hn : xs.length = n := by simpa using e
        refine .inr ⟨.ref a0, rfl, a0, rfl, ⟨xs, hS⟩, fun D nD => lc_it (walk_tup (xs := xs)) (fun u H2 => Same H H2 ∧ H2 D = some (.lst ((xs.take u).map fun x => V.bl (isI x)))) ⟨Same.mut (Same.refl _) nD, upd_same⟩ (fun u H2 _ h => SameT h.1 hS) ?_ ?_⟩
        · rintro u x _ H2 hu ⟨sm2, hD⟩ ⟨rfl, hx⟩
          have et : xs.take (u + 1) = xs.take u ++ [x] := by rw [List.take_add_one, hx]; rfl
          obtain ⟨t, b, c, h1, h2, h3, h4⟩ := prim_int (K := K) (H := H2) (hP x (List.mem_of_getElem? hx))
          refine ⟨rfl, x, rfl, x, t, b, c, rfl, h1, h2, h3, _, hD, ?_, Same.mut sm2 nD, ?_⟩
          · rw [List.length_map, List.length_take]
            exact small1000 (by omega)
          · rw [upd_same, et, List.map_append, h4]; rfl
        · rintro H2 ⟨sm2, hD⟩
          rw [List.take_length] at hD
          refine ⟨D, xs.map isI, rfl, SqL.of (by rw [hD, List.map_map]; rfl), ?_⟩
          have ea : (xs.map isI).all id = xs.all isI := by rw [List.all_map]; rfl
          rw [ea]
          refine ⟨_, rfl, ite2 (fun ha => ?_) (fun ha => ?_)⟩
          · have ex := all_ints ha
            obtain ⟨ns, hns⟩ : ∃ ns, ns = xs.map vInt := ⟨_, rfl⟩
            rw [← hns] at ex
            have ek : (ns.map (Sum.inl : Int → Key)).map kV = ns.map V.int := by rw [List.map_map]; rfl
            have hS2 := SameT sm2 hS
            refine ⟨.ref a0, rfl, a0, ns.map Sum.inl, rfl, .inr (by rw [ek, ← ex]; exact hS2), by rw [hns]; simp; omega, fun p H3 np s3 hp => ?_⟩
            refine ⟨.ref a0, rfl, .inr ⟨_, _, .tup (SqT.of (by rw [hp, nvals_i])) (dp_ints _), .tup (SameT s3 (by rw [← ex]; exact hS2)) (dp_ints ns), shaped_tints _, shaped_tints _, ?_⟩⟩
            have e1 : PyData.eqv (.tuple ((ivals (marksOf (ns.map (Sum.inl : Int → Key)))).map PyData.int)) (.tuple (ns.map PyData.int)) = isPart xs n := by
              rw [PyData.eqv, eqv_ints]
              unfold isPart mOk
              rw [ha, decide_eq_true hn, ← hns]
              rfl
            rw [e1]
            exact q H3 (sm2.trans s3)
          · have := q H2 sm2
            have e2 : isPart xs n = false := by
              unfold isPart
              rw [Bool.eq_false_iff.mpr ha]
              simp
            rw [e2] at this
            exact this
end
end K0


namespace K0
open PySem PySem.Spec PyProof.Rows L2
section
variable {P : Program} {w : World} {K : PySem.W.Frag} {mg : Str → Option Value} {base : Heap} {a : Ad}
def NotT (K : PySem.W.Frag) (H : Hp) (x : V) : Prop := ∃ t, TyX K H x (.type t) ∧ kitB t "tuple" = some false
def MK (K : PySem.W.Frag) (H : Hp) (m : V) (r : Option (List V)) : Prop := (r = none ∧ NotT K H m) ∨ ∃ a0 ys, r = some ys ∧ m = .ref a0 ∧ SqT K H a0 ys ∧ (∀ y ∈ ys, Prim y) ∧ ys.length ≤ 1000
def cellTail (i : Int) (r : Option (List V)) (n : Nat) : Bool := match r with
  | none => false
  | some ys => isPart ys n && decide (R0.maxL (-1) (ys.map vInt) + 1 ≤ i)
def isCell (s : V) (r : Option (List V)) (n : Nat) : Bool := (isI s && (decide (1 ≤ vInt s) && decide (vInt s ≤ 3))) && cellTail (vInt s) r n
def CellIs (K : PySem.W.Frag) (H : Hp) (x : V) (n : Nat) (b : Bool) : Prop := (NotT K H x ∧ b = false) ∨ (∃ a0 xs, x = .ref a0 ∧ SqT K H a0 xs ∧ xs.length ≠ 2 ∧ b = false) ∨ ∃ a0 s m r, x = .ref a0 ∧ SqT K H a0 [s, m] ∧ Prim s ∧ MK K H m r ∧ b = isCell s r n
def spIsCell (K : PySem.W.Frag) : Sp := fun vs H Q _ => ∃ (x : V) (n : Nat) (b : Bool), vs = [x, .int (n : Int)] ∧ CellIs K H x n b ∧ ∀ H', Same H H' → Q (.bl b) H'
theorem ok_isCell (T : Top K mg a) (G_is_int : FnOk P w K mg base CX0 1 a.f_is_int a.d_is_int ["value"] (spIsInt K)) (G_block_count : FnOk P w K mg base CX0 1 a.f_block_count a.d_block_count ["marks"] (spBlk K)) (G_is_partition : FnOk P w K mg base CX0 2 a.f_is_partition a.d_is_partition ["value", "count"] (spIsPart K)) : FnOk P w K mg base CX0 3 a.f_is_cell a.d_is_cell ["value", "count"] (spIsCell K) := by
  refine T.F_is_cell.ok sc_is_cell (fun vs H Q E h => ?_) (fun cdv A outer s H vs Q E hr h => ?_)
  · obtain ⟨x, n, b, rfl, _⟩ := h
    rfl
  · obtain ⟨x, n, b, rfl, h, q⟩ := h
    have h : ((NotT K H x ∧ Q (.bl false) H) ∨ (∃ a0 xs, x = .ref a0 ∧ SqT K H a0 xs ∧ xs.length ≠ 2 ∧ Q (.bl false) H) ∨
      ∃ a0 s m r, x = .ref a0 ∧ SqT K H a0 [s, m] ∧ Prim s ∧ MK K H m r ∧ ∀ H', Same H H' → Q (.bl (isCell s r n)) H') := by
      rcases h with ⟨h, rfl⟩ | ⟨a0, xs, e, h, hl, rfl⟩ | ⟨a0, s, m, r, e, h, hp, hm, rfl⟩
      · exact .inl ⟨h, q H (Same.refl _)⟩
      · exact .inr (.inl ⟨a0, xs, e, h, hl, q H (Same.refl _)⟩)
      · exact .inr (.inr ⟨a0, s, m, r, e, h, hp, hm, q⟩)
    clear q
    obtain ⟨tE, hE⟩ := T.m_ENDLESS
    refine ⟨_, (pss_cons (ps_if (PW.pt (pw_or (pt_not (pt_val (pe_callB call_isi (by rfl) T.z_isinstance (by decide +kernel) (pa_cons (pv 0) (pa_cons (pe_bltn (v := .ty "tuple") (by rfl) T.z_tuple (by decide +kernel) rfl) pa_nil))))) (pw_or1 (pt_cmpR (OpR.or op_ne (op_neD hr.units)) (pe_callB (CallR.or call_len_str call_len_seq) (by rfl) T.z_len (by decide +kernel) (pa_cons (pv 0) pa_nil)) pe_int (nomark _)))))
      (pss_one (ps_ret pe_bl))
      pss_nil)
    (pss_cons (ps_asg (pv 0) (pg_tup rfl (pgs_cons (pg_name (i := 2) sc_is_cell.nd rfl (.inl rfl)) (pgs_cons (pg_name (i := 3) sc_is_cell.nd rfl (.inl rfl)) pgs_nil))))
    (pss_cons (ps_if (PW.pt (pw_or (pt_not (pt_val (pe_call G_is_int (hr.mono (by decide)) (by rfl) T.m_is_int T.F_is_int.kp T.b_is_int .nil pass0 (pa_cons (pv 2) pa_nil)))) (pw_or1 (pt_not (pt_chain (OpR.or op_le op_le_str) (OpR.or op_le op_le_str) pe_int (pv 2) (pe_glob (by rfl) hE (show RelV (.int 3) _ from ⟨_, rfl⟩)))))))
      (pss_one (ps_ret pe_bl))
      pss_nil)
    (pss_one (ps_ret (pe_and (pe_call G_is_partition (hr.mono (by decide)) (by rfl) T.m_is_partition T.F_is_partition.kp T.b_is_partition .nil pass0 (pa_cons (pv 3) (pa_cons (pv 1) pa_nil))) (pe_one (pe_cmpR (OpR.or op_le op_le_str) (pe_call G_block_count (hr.mono (by decide)) (by rfl) T.m_block_count T.F_block_count.kp T.b_block_count .nil pass0 (pa_cons (pv 3) pa_nil)) (pv 2) (nomark _))))))))), ?_⟩
    have len : ∀ {a0 : Addr} {xs : List V}, SqT K H a0 xs → Ans (tOr (tNot (tB (tCB (rIsi K) (tCons (tVar 0) (tCons (tC (V.ty "tuple")) tNil))))) (tTest (tOp (fun x y H_1 Q => rNe x y H_1 Q ∨ rNeD K x y H_1 Q) (tCB (fun xs H_1 Q => (∃ z, xs = [V.str z] ∧ z.length ≤ sizeLine ∧ Q (V.int ↑z.length) H_1) ∨ ∃ p ys, xs = [V.ref p] ∧ (SqL K H_1 p ys ∨ SqT K H_1 p ys) ∧ Q (V.int ↑ys.length) H_1) (tCons (tVar 0) tNil)) (tC (.int 2))))) [some (.ref a0), some (.int (n : Int)), none, none] H (false || !decide (xs.length = 2)) := fun {a0 xs} hS => ans_or2 (fun Q q => isit rfl (tyx_t hS) (b := true) (by decide +kernel) q) (fun Q q => ⟨_, rfl, .inr ⟨a0, xs, rfl, .inr hS, nei (by
        have : decide ((xs.length : Int) = 2) = decide (xs.length = 2) := by rw [Bool.eq_iff_iff, decide_eq_true_eq, decide_eq_true_eq]; omega
        rw [this]
        exact q)⟩⟩)
    rcases h with ⟨⟨t, ht, hk⟩, q⟩ | ⟨a0, xs, rfl, hS, hl, q⟩ | ⟨a0, sz, m, r, rfl, hS, hP, hM, q⟩
    · refine if_ans (b := true) (ans_or1 fun Q q => isit rfl ht hk q) (fun _ => q) (fun e => nomatch e)
    · refine if_ans (len hS) (fun _ => q) (fun e => ?_)
      exact absurd (by simpa using e) hl
    · refine if_ans (len hS) (fun e => nomatch e) (fun e => ?_)
      refine ⟨.ref a0, rfl, a0, _, rfl, hS, rfl, sz, _, rfl, m, _, rfl, rfl, ?_⟩
      obtain ⟨t, b, c, h1, h2, h3, h4⟩ := prim_int (K := K) (H := H) hP
      have hI : Ans (tNot (tB (tCall (spIsInt K) [] E0 (tCons (tVar 2) tNil)))) [some (.ref a0), some (.int (n : Int)), some sz, some m] H (!isI sz) := fun Q q => ⟨sz, rfl, sz, t, b, c, rfl, h1, h2, h3, _, rfl, by rw [h4]; exact q⟩
      have hI1 : isI sz = false → Ans (tNot (tB (tCall (spIsInt K) [] E0 (tCons (tVar 2) tNil)))) [some (.ref a0), some (.int (n : Int)), some sz, some m] H true := fun hz => by rw [hz] at hI; exact hI
      have hI2 : isI sz = true → Ans (tNot (tB (tCall (spIsInt K) [] E0 (tCons (tVar 2) tNil)))) [some (.ref a0), some (.int (n : Int)), some sz, some m] H false := fun hz => by rw [hz] at hI; exact hI
      cases hz : isI sz with
      | false =>
        refine if_ans (b := true) (ans_or1 (hI1 hz)) (fun _ => ?_) (fun e => nomatch e)
        have := q H (Same.refl _)
        have e2 : isCell sz r n = false := by unfold isCell; rw [hz]; rfl
        rw [e2] at this
        exact this
      | true =>
        obtain ⟨i, rfl⟩ : ∃ i, sz = .int i := by
          cases sz with
          | int i => exact ⟨i, rfl⟩
          | _ => exact absurd hz (by simp [isI])
        refine if_ans (b := (false || !(decide (1 ≤ i) && decide (i ≤ 3)))) (ans_or2 (hI2 hz) (fun Q q => ?_)) (fun e => ?_) (fun e => ?_)
        · refine ⟨.int i, rfl, .inl ⟨1, i, rfl, rfl, _, rfl, ite2 (fun h => ?_) (fun h => ?_)⟩⟩
          · refine .inl ⟨i, 3, rfl, rfl, _, rfl, ?_⟩
            rw [h] at q
            exact q
          · refine ⟨false, rfl, ?_⟩
            rw [Bool.eq_false_iff.mpr h] at q
            exact q
        · have := q H (Same.refl _)
          have e2 : isCell (.int i) r n = false := by
            unfold isCell vInt
            have e3 : (decide (1 ≤ i) && decide (i ≤ 3)) = false := by
              cases hX : (decide (1 ≤ i) && decide (i ≤ 3)) with
              | false => rfl
              | true => rw [hX] at e; exact nomatch e
            rw [e3]; simp
          rw [e2] at this
          exact this
        · have e3 : (decide (1 ≤ i) && decide (i ≤ 3)) = true := by
            cases hX : (decide (1 ≤ i) && decide (i ≤ 3)) with
            | true => rfl
            | false => rw [hX] at e; exact nomatch e
          have ec : isCell (.int i) r n = cellTail i r n := by
            show ((true && (decide (1 ≤ i) && decide (i ≤ 3))) && cellTail i r n) = _
            rw [e3]; rfl
          rw [ec] at q
          rcases hM with ⟨rfl, hm⟩ | ⟨b0, ys, rfl, rfl, hY, hp, hl⟩
          · exact ⟨m, rfl, .int (n : Int), rfl, m, n, rfl, .inl (by
              obtain ⟨t, ht, hk⟩ := hm
              exact ⟨t, ht, hk, _, rfl, iteF (q H (Same.refl _))⟩)⟩
          · refine ⟨.ref b0, rfl, .int (n : Int), rfl, .ref b0, n, rfl, .inr ⟨b0, ys, rfl, hY, hp, hl, fun H' sm => ⟨_, rfl, ite2 (fun hq => ?_) (fun hq => ?_)⟩⟩⟩
            · have hall : ys.all isI = true := by
                unfold isPart at hq
                simp only [Bool.and_eq_true] at hq
                exact hq.2.1
              have ex := all_ints hall
              refine ⟨.ref b0, rfl, b0, ys.map vInt, rfl, .inl (by rw [← ex]; exact SameT sm hY), .int i, rfl, .inl ⟨_, _, rfl, rfl, ?_⟩⟩
              have := q H' sm
              unfold cellTail at this
              simp only [hq] at this
              exact this
            · have hf : isPart ys n = false := Bool.eq_false_iff.mpr hq
              have := q H' sm
              unfold cellTail at this
              simp only [hf] at this
              exact this
end
end K0


namespace K0
open PySem PySem.Spec PyProof.Rows L2
/-! ### the errors -/
def initN : Stmt := inClass (topS 2) 0
def initC : Stmt := inClass (topS 3) 0
theorem sc_initN : FnScope ["self", "value"] ["self", "value"] (defScope initN) := ⟨rfl, rfl, rfl, by decide +kernel, rfl, by decide +kernel, by decide +kernel⟩
theorem sc_initC : FnScope ["self", "value"] ["self", "value"] (defScope initC) := ⟨rfl, rfl, rfl, by decide +kernel, rfl, by decide +kernel, by decide +kernel⟩
structure ErX (K : PySem.W.Frag) (C L O fI : Addr) (dI : FuncData) (qual : Str) (st : Stmt) : Prop where
  ox : OexC K C
  iC : PySem.W.findIn K (.ref C) "__init__" = some (some (.ref fI))
  tI : PySem.W.typeIn K (.ref fI) = some (.type "function")
  noV : PySem.W.findIn K (.ref C) "value" = some none
  F_init : Fun K "__init__" qual st fI dI
  b_init : Binds K dI ["self", "value"] []
  xf : XfC K C
  xc : ExcC K C
  te : PySem.W.exmOne K (.ref C) (.ref C) = some true
  su : PySem.W.kitOne K (.ref C) (.ref L) = some true
  no : PySem.W.kitOne K (.ref C) (.ref O) = some false
section
variable {P : Program} {w : World} {K : PySem.W.Frag} {mg : Str → Option Value} {base : Heap} {a : Ad} {fI : Addr} {dI : FuncData}
theorem pass0F {X : Cx} : Passes CX0 X (fun _ _ _ => False) := fun _ _ _ _ _ _ _ h => h.elim
def spInit (K : PySem.W.Frag) (C : Addr) : Sp := fun vs H Q _ => ∃ (e : Addr) (v : V), vs = [.ref e, v] ∧ H e = some (exo e C none) ∧ ∀ dx, H dx = none → dx ≠ e → Q .non (upd (upd H dx (exd dx [("value", v)])) e (exo e C (some dx)))
theorem ok_initN {C L O : Addr} (EX : ErX K C L O fI dI "BadName.__init__" initN) : FnOk P w K mg base CX0 1 fI dI ["self", "value"] (spInit K C) := by
  refine EX.F_init.ok sc_initN (fun vs H Q E h => ?_) (fun cdv A outer s H vs Q E hr h => ?_)
  · obtain ⟨e, v, rfl, _⟩ := h
    rfl
  · obtain ⟨e, v, rfl, he, q⟩ := h
    refine ⟨_, pss_one (ps_ost (pv 0) (pv 1)), ?_⟩
    exact ⟨v, rfl, .ref e, rfl, e, _, rfl, EX.ox, EX.noV, .inl ⟨he, fun dx hd ne => q dx hd ne⟩⟩
theorem ok_initC {C L O : Addr} (EX : ErX K C L O fI dI "BadCell.__init__" initC) : FnOk P w K mg base CX0 1 fI dI ["self", "value"] (spInit K C) := by
  refine EX.F_init.ok sc_initC (fun vs H Q E h => ?_) (fun cdv A outer s H vs Q E hr h => ?_)
  · obtain ⟨e, v, rfl, _⟩ := h
    rfl
  · obtain ⟨e, v, rfl, he, q⟩ := h
    refine ⟨_, pss_one (ps_ost (pv 0) (pv 1)), ?_⟩
    exact ⟨v, rfl, .ref e, rfl, e, _, rfl, EX.ox, EX.noV, .inl ⟨he, fun dx hd ne => q dx hd ne⟩⟩
/-- what is raised -/
def RaisesV (C : Addr) (H : Hp) (v : V) (E : XK) : Prop := ∀ d H', H d = none → Same H H' → H' d = some (.xd [("value", v)]) → E (.ref C) (some d) H'
theorem raise_v {C : Addr} {H : Hp} {v : V} {E : XK} {ta : TA} {σ : L2.St} (ha : ∀ Q : List V → Hp → Prop, Q [v] H → ta σ H Q) (h : RaisesV C H v E) : tMkO C (spInit K C) [] ta σ H E := by
  refine ha _ ⟨by show 1 ≤ 1000; decide, fun e ne => ⟨e, v, rfl, upd_same, fun dx hd hne => ⟨rfl, dx, [("value", v)], upd_same, ?_, ?_, ?_⟩⟩⟩
  · rw [upd_ne hne, upd_same]
  · rw [upd_ne hne] at hd; exact hd
  · rw [upd_ne hne] at hd
    refine h dx _ hd (fun b o hb => ?_) upd_same
    rw [upd_ne (ne_of_none hb hd), del_ne (ne_of_none hb ne), upd_ne (ne_of_none hb ne), upd_ne (ne_of_none hb hd), upd_ne (ne_of_none hb ne)]
    exact hb
/-! ### check_cell -/
def spCheckCell (K : PySem.W.Frag) (C : Addr) : Sp := fun vs H Q E => ∃ (x : V) (n : Nat) (b : Bool), vs = [x, .int (n : Int)] ∧ CellIs K H x n b ∧ (b = true → ∀ H', Same H H' → Q .non H') ∧ (b = false → RaisesV C H x E)
theorem ok_checkCell {L O : Addr} (T : Top K mg a) (EC : ErX K a.c_BadCell L O fI dI "BadCell.__init__" initC) (G_is_cell : FnOk P w K mg base CX0 3 a.f_is_cell a.d_is_cell ["value", "count"] (spIsCell K)) : FnOk P w K mg base (CX P w) 4 a.f_check_cell a.d_check_cell ["cell", "count"] (spCheckCell K a.c_BadCell) := by
  have G_init := ok_initC (P := P) (w := w) (mg := mg) (base := base) EC
  refine T.F_check_cell.okX sc_check_cell (fun vs H Q E h => ?_) (fun cdv A outer s H vs Q E hr h => ?_)
  · obtain ⟨x, n, b, rfl, _⟩ := h
    rfl
  · obtain ⟨x, n, b, rfl, hC, q1, q2⟩ := h
    refine ⟨_, (pss_one (ps_if (pt_not (pt_val (pe_call G_is_cell (hr.mono (by decide)) (by rfl) T.m_is_cell T.F_is_cell.kp T.b_is_cell .nil pass0 (pa_cons (pv 0) (pa_cons (pv 1) pa_nil)))))
      (pss_one (ps_raise rfl (takes_of rfl rfl rfl rfl) (pmk_oex EC.ox EC.iC EC.tI G_init (hr.mono (by decide)) EC.b_init .nil pass0F (by rfl) T.m_BadCell (pa_cons (pv 0) pa_nil))))
      pss_nil)), ?_⟩
    refine ⟨x, rfl, .int (n : Int), rfl, x, n, b, rfl, hC, fun H' sm => ⟨b, rfl, ?_⟩⟩
    cases b with
    | true => exact q1 rfl H' sm
    | false => exact iteT (raise_v (fun Q q => ⟨_, rfl, q⟩) (fun d H2 hd s2 hx => q2 rfl d H2 (sm.free hd) (sm.trans s2) hx))
end
end K0

namespace K0
open PySem PySem.Spec PyProof.Rows L2
section
variable {P : Program} {w : World} {K : PySem.W.Frag} {mg : Str → Option Value} {base : Heap} {a : Ad} {fI : Addr} {dI : FuncData}
def spCellErr (K : PySem.W.Frag) : Sp := fun vs H Q _ => ∃ (x : V) (n : Nat) (b : Bool), vs = [x, .int (n : Int)] ∧ CellIs K H x n b ∧ (∀ p H', H p = none → Same H H' → H' p = some (.lst (if b = true then [] else [x])) → Q (.ref p) H')
theorem ok_cellErr (T : Top K mg a) (EC : ErX K a.c_BadCell a.c_LookerError a.c_BadName fI dI "BadCell.__init__" initC) (G : FnOk P w K mg base (CX P w) 4 a.f_check_cell a.d_check_cell ["cell", "count"] (spCheckCell K a.c_BadCell)) : FnOk P w K mg base CX0 5 a.f_l_cell_error a.d_l_cell_error ["_law_cell", "_law_count"] (spCellErr K) := by
  refine T.F_l_cell_error.ok sc_l_cell_error (fun vs H Q E h => ?_) (fun cdv A outer s H vs Q E hr h => ?_)
  · obtain ⟨x, n, b, rfl, _⟩ := h
    rfl
  · obtain ⟨x, n, b, rfl, hC, q⟩ := h
    refine ⟨_, pss_cons (ps_try_as (i := 3) (Wout := fun _ _ _ _ => False) rfl rfl sc_l_cell_error.nd rfl rfl ⟨rfl, by decide, .inl T.m_BadCell⟩ takes0
        (fun W pn xe tk _ => pss_one (ps_set (i := 2) sc_l_cell_error.nd rfl (.inl rfl) (pe_callS G (hr.mono (by decide)) (by rfl) T.m_check_cell T.F_check_cell.kp T.b_check_cell (fun σ => passAt tk σ) (pa_cons (pv 0) (pa_cons (pv 1) pa_nil)))))
        (fun ea oe cls d pn hz hf => pss_cons (ps_if (PW.pt (pw_and (pt_val (pe_callB (R1.call_isX (K := K) rfl EC.xc hz hf) (by rfl) T.z_isinstance (by decide +kernel) (pa_cons (pv 3) (pa_cons (pe_glob (v := .ref _) (by rfl) T.m_LookerError rfl) pa_nil)))) (pw_and1 (pt_not (pt_val (pe_callB (R1.call_isX (K := K) rfl EC.xc hz hf) (by rfl) T.z_isinstance (by decide +kernel) (pa_cons (pv 3) (pa_cons (pe_glob (v := .ref _) (by rfl) T.m_BadName rfl) pa_nil))))))))
          (pss_one (ps_ret (pe_lst (pa_cons (pe_xf EC.xf EC.noV hz hf (pv 3)) pa_nil)))) pss_nil) (pss_one (ps_ret pe_non))))
      (pss_cons (ps_if (pt_cmpR op_isN (pv 2) pe_non (nomark _)) (pss_one (ps_ret (pe_lst pa_nil))) pss_nil) (pss_one (ps_ret pe_non))), ?_⟩
    refine ⟨x, rfl, .int (n : Int), rfl, x, n, b, rfl, hC, fun e H' sm => ?_, fun e d H' hd sm hx => ⟨true, EC.te, fun _ ea hea => ?_, fun z => by cases z⟩⟩
    · subst e
      exact ⟨_, rfl, rfl, _, rfl, iteT ⟨Nat.zero_le _, fun p np => q p _ (sm.free np) (sm.trans (same_upd np)) upd_same⟩⟩
    · subst e
      refine if_ans (b := true && !false) (ans_and2 (fun Q q => ⟨_, rfl, a.c_LookerError, true, d, _, rfl, rfl, hx, rfl, EC.su, true, rfl, q⟩) (fun Q q => ⟨_, rfl, a.c_BadName, false, d, _, rfl, rfl, hx, rfl, EC.no, false, rfl, q⟩)) (fun _ => ?_) (fun e => nomatch e)
      exact ⟨.ref ea, rfl, rfl, rfl, d, _, x, rfl, hx, rfl, Nat.le_of_lt (small1000 (by simp)), fun p np => q p _ (sm.free np) (sm.trans (same_upd np)) upd_same⟩
end
end K0

/-! texts (as in k05's pieces) -/
namespace K0
open PySem PySem.Spec PyProof.Rows L2
abbrev sg (c : Nat) : V := .str ⟨#[c]⟩
abbrev tx (cs : List Nat) : V := .str ⟨cs.toArray⟩
def Dg (c : Nat) : Bool := decide (48 ≤ c) && decide (c ≤ 57)
def Lw (c : Nat) : Bool := decide (97 ≤ c) && decide (c ≤ 122)
theorem lt1 (c d : Nat) : decide (([c] : List Nat) < [d]) = decide (c < d) := by
  by_cases h : c < d
  · rw [decide_eq_true h]
    exact decide_eq_true (List.Lex.rel h)
  · rw [decide_eq_false h]
    refine decide_eq_false fun z => ?_
    cases z with
    | rel q => exact h q
    | cons q => cases q
theorem le1 (c d : Nat) : (!decide (([d] : List Nat) < [c])) = decide (c ≤ d) := by
  rw [lt1]
  by_cases h : c ≤ d
  · rw [decide_eq_true h, decide_eq_false (by omega)]
    rfl
  · rw [decide_eq_false h, decide_eq_true (by omega)]
    rfl
theorem cut_nat (cs : List Nat) (i j : Nat) (hi : i ≤ cs.length) : cutS ⟨cs.toArray⟩ (some (i : Int)) (some (j : Int)) = ⟨((cs.drop i).take (j - i)).toArray⟩ := by
  unfold cutS
  have hl : (⟨cs.toArray⟩ : Str).length = cs.length := by show cs.toArray.size = _; simp
  rw [hl, HT.sIx_nat, HT.sIx_nat]
  have e : min i cs.length = i := Nat.min_eq_left hi
  rw [e]
  show (⟨(((cs.toArray).toList.drop i).take (min j cs.length - i)).toArray⟩ : Str) = _
  congr 2
  rw [List.toList_toArray]
  by_cases h : j ≤ cs.length
  · rw [Nat.min_eq_left h]
  · rw [Nat.min_eq_right (by omega)]
    rw [List.take_of_length_le (by simp), List.take_of_length_le (by simp; omega)]
theorem tx_eq (l : List Nat) (z : Str) : decide (tx l = V.str z) = decide (l = z.cps.toList) := by
  by_cases h : l = z.cps.toList
  · rw [decide_eq_true h]
    refine decide_eq_true ?_
    rw [h]
  · rw [decide_eq_false h]
    refine decide_eq_false fun q => h ?_
    have := V.str.inj q
    rw [← this]
theorem small_le {n : Nat} (h : n ≤ 1000) : n ≤ sizeLine := Nat.le_of_lt (small1000 h)
theorem cps_tx (cs : List Nat) : (⟨cs.toArray⟩ : Str).cps.toList = cs := by simp
theorem get_tx (cs : List Nat) (i : Nat) : (⟨cs.toArray⟩ : Str).cps[i]? = cs[i]? := by simp
theorem len_tx (cs : List Nat) : (⟨cs.toArray⟩ : Str).length = cs.length := by show cs.toArray.size = _; simp
theorem cat_tx (l m : List Nat) : ((⟨l.toArray⟩ : Str) ++ (⟨m.toArray⟩ : Str)) = ⟨(l ++ m).toArray⟩ := by
  show (⟨l.toArray ++ m.toArray⟩ : Str) = _
  simp
theorem sg_eq (c : Nat) (z : Str) (d : Nat) (h : z.cps.toList = [d]) : decide (sg c = V.str z) = decide (c = d) := by
  have := tx_eq [c] z
  rw [h] at this
  have e6 : decide ([c] = [d]) = decide (c = d) := by simp
  rw [e6] at this
  exact this
theorem cut_pre (cs : List Nat) (j : Nat) : cutS ⟨cs.toArray⟩ none (some (j : Int)) = ⟨(cs.take j).toArray⟩ := by
  have := cut_nat cs 0 j (Nat.zero_le _)
  unfold cutS at *
  rw [HT.sIx_none]
  rw [show (((0 : Nat) : Int)) = 0 from rfl] at this
  rw [show HT.sIx (⟨cs.toArray⟩ : Str).length 0 (some (0 : Int)) = 0 from by rw [show (0 : Int) = ((0 : Nat) : Int) from rfl, HT.sIx_nat, Nat.zero_min]] at this
  rw [this]
  simp
theorem cut_suf (cs : List Nat) (j : Nat) (h : j ≤ cs.length) : cutS ⟨cs.toArray⟩ (some (j : Int)) none = ⟨(cs.drop j).toArray⟩ := by
  have := cut_nat cs j cs.length h
  unfold cutS at *
  rw [HT.sIx_none]
  rw [HT.sIx_nat (⟨cs.toArray⟩ : Str).length _ cs.length, len_tx, Nat.min_self] at this
  rw [len_tx, this]
  rw [List.take_of_length_le (by simp)]
end K0


namespace K0
open PySem PySem.Spec PyProof.Rows L2
def isNameL (cs : List Nat) : Bool := (decide (1 ≤ cs.length) && decide (cs.length ≤ 4)) && (Lw (cs.headD 0) && (cs.drop 1).all Dg)
def leR : R2 := fun x y H Q => rI0 (fun i j => V.bl (decide (i ≤ j))) x y H Q ∨ ∃ i j, x = V.str i ∧ y = V.str j ∧ Q (V.bl !decide (j.cps.toList < i.cps.toList)) H
theorem chainS {lo hi : Str} {l h c : Nat} {te : TE} {σ : L2.St} {H : Hp} {Q : VK} (el : lo.cps.toList = [l]) (eh : hi.cps.toList = [h]) (hte : ∀ R : VK, R (sg c) H → te σ H R) (q : Q (.bl (decide (l ≤ c) && decide (c ≤ h))) H) : tChain leR leR (tC (.str lo)) te (tC (.str hi)) σ H Q := by
  refine hte _ (.inr ⟨lo, ⟨#[c]⟩, rfl, rfl, decide (l ≤ c), by rw [← le1 l c, el], ite2 (fun h1 => .inr ⟨⟨#[c]⟩, hi, rfl, rfl, ?_⟩) (fun h1 => ?_)⟩)
  · rw [eh]
    have := le1 c h
    show Q (.bl (!decide (([h] : List Nat) < [c]))) H
    rw [this]
    rw [h1] at q
    exact q
  · rw [Bool.eq_false_iff.mpr h1] at q
    exact q
section
variable {P : Program} {w : World} {K : PySem.W.Frag} {mg : Str → Option Value} {base : Heap} {a : Ad} {fI : Addr} {dI : FuncData}
def NameIs (K : PySem.W.Frag) (H : Hp) (x : V) (b : Bool) : Prop := (∃ t, TyX K H x (.type t) ∧ kitB t "str" = some false ∧ b = false) ∨ ∃ cs, x = tx cs ∧ cs.length ≤ 1000 ∧ b = isNameL cs
def spIsName (K : PySem.W.Frag) : Sp := fun vs H Q _ => ∃ (x : V) (b : Bool), vs = [x] ∧ NameIs K H x b ∧ ∀ H', Same H H' → Q (.bl b) H'
theorem ok_isName (T : Top K mg a) : FnOk P w K mg base CX0 1 a.f_is_name a.d_is_name ["value"] (spIsName K) := by
  refine T.F_is_name.ok sc_is_name (fun vs H Q E h => ?_) (fun cdv A outer s H vs Q E hr h => ?_)
  · obtain ⟨x, b, rfl, _⟩ := h
    rfl
  · obtain ⟨x, b, rfl, h, q⟩ := h
    refine ⟨_, (pss_cons (ps_if (PW.pt (pw_or (pt_not (pt_val (pe_callB call_isi (by rfl) T.z_isinstance (by decide +kernel) (pa_cons (pv 0) (pa_cons (pe_bltn (v := .ty "str") (by rfl) T.z_str (by decide +kernel) rfl) pa_nil))))) (pw_or1 (pt_not (pt_chain (OpR.or op_le op_le_str) (OpR.or op_le op_le_str) pe_int (pe_callB (CallR.or call_len_str call_len_seq) (by rfl) T.z_len (by decide +kernel) (pa_cons (pv 0) pa_nil)) pe_int)))))
      (pss_one (ps_ret pe_bl))
      pss_nil)
    (pss_one (ps_ret (pe_and (pe_chain (OpR.or op_le op_le_str) (OpR.or op_le op_le_str) pe_str (pe_ix ix_seq (pv 0) pe_int (fun _ _ => rfl)) pe_str) (pe_one (pe_callB (cr_all rfl) (by rfl) T.z_all (by decide +kernel) (pa_cons (pe_lc (own := [("sign", 1)]) rfl sc_is_name.nd (pi_str (pe_slice sl_str (pv 0) (po_some pe_int) po_none)) (blkOk_by (own := [("sign", 1)]) (N := ["value", "sign"]) (sc := defScope s_is_name) (by decide +kernel)) (fun _ _ _ _ _ => (pg_name (i := 1) sc_is_name.nd rfl (.inl rfl))) (fun _ _ _ _ _ => pts_nil) (fun _ _ _ _ _ => (pe_chain (OpR.or op_le op_le_str) (OpR.or op_le op_le_str) pe_str (pv 1) pe_str))) pa_nil))))))), ?_⟩
    rcases h with ⟨t, ht, hk, rfl⟩ | ⟨cs, rfl, hl, rfl⟩
    · refine if_ans (b := true) (ans_or1 fun Q q => isit rfl ht hk q) (fun _ => q H (Same.refl _)) (fun e => nomatch e)
    · refine if_ans (b := (false || !(decide (1 ≤ cs.length) && decide (cs.length ≤ 4)))) (ans_or2 (fun Q q => isit rfl (.base (.str _)) (b := true) (by decide +kernel) q) (fun Q q => ?_)) (fun e => ?_) (fun e => ?_)
      · refine ⟨tx cs, rfl, .inl ⟨_, rfl, by rw [len_tx]; exact small_le hl, .inl ⟨1, _, rfl, rfl, _, rfl, ite2 (fun h => ?_) (fun h => ?_)⟩⟩⟩
        · refine .inl ⟨_, 4, rfl, rfl, _, rfl, ?_⟩
          rw [len_tx] at h ⊢
          have h1 : decide (1 ≤ cs.length) = true := decide_eq_true (by have := of_decide_eq_true h; omega)
          have h2 : decide ((cs.length : Int) ≤ 4) = decide (cs.length ≤ 4) := by rw [Bool.eq_iff_iff, decide_eq_true_eq, decide_eq_true_eq]; omega
          rw [h2]
          rw [h1] at q
          exact q
        · refine ⟨false, rfl, ?_⟩
          rw [len_tx] at h
          have h1 : decide (1 ≤ cs.length) = false := decide_eq_false fun z => h (decide_eq_true (by omega))
          rw [h1] at q
          exact q
      · have hX : (decide (1 ≤ cs.length) && decide (cs.length ≤ 4)) = false := by
          cases hX : (decide (1 ≤ cs.length) && decide (cs.length ≤ 4)) with
          | false => rfl
          | true => rw [hX] at e; exact nomatch e
        have := q H (Same.refl _)
        have e2 : isNameL cs = false := by unfold isNameL; rw [hX]; rfl
        rw [e2] at this
        exact this
      · have hX : (decide (1 ≤ cs.length) && decide (cs.length ≤ 4)) = true := by
          cases hX : (decide (1 ≤ cs.length) && decide (cs.length ≤ 4)) with
          | true => rfl
          | false => rw [hX] at e; exact nomatch e
        have hN : isNameL cs = (Lw (cs.headD 0) && (cs.drop 1).all Dg) := by unfold isNameL; rw [hX]; rfl
        rw [hN] at q
        simp only [Bool.and_eq_true, decide_eq_true_eq] at hX
        obtain ⟨c, cr, rfl⟩ : ∃ c cr, cs = c :: cr := by
          cases cs with
          | nil => exact absurd hX.1 (by simp)
          | cons c cr => exact ⟨c, cr, rfl⟩
        have q : ∀ H', Same H H' → Q (.bl (Lw c && cr.all Dg)) H' := q
        refine chainS (lo := Str.ofString "a") (hi := Str.ofString "z") (te := tOp (rIx K) (tVar 0) (tC (.int 0))) (σ := [some (tx (c :: cr)), none]) (l := 97) (h := 122) (c := c) (by decide +kernel) (by decide +kernel) (fun R r => ⟨_, rfl, .inr (.inr ⟨_, 0, c, rfl, rfl, by rw [len_tx]; exact small_le hl, by show atI _ ((0 : Nat) : Int) = _; exact atI_nat (by simp), r⟩)⟩) ?_
        refine ⟨Lw c, rfl, ite2 (fun h => ?_) (fun h => ?_)⟩
        · rw [h] at q
          have hc1 : cutS (⟨(c :: cr).toArray⟩ : Str) (some 1) none = ⟨cr.toArray⟩ := cut_suf (c :: cr) 1 (by simp)
          have hlr : cr.length ≤ 1000 := by simp at hl; omega
          refine ⟨_, rfl, 1, rfl, _, rfl, by rw [len_tx]; exact small_le hl, _, rfl, fun D nD => lc_it walk_str (fun u H2 => Same H H2 ∧ H2 D = some (.lst ((cr.take u).map fun c => V.bl (Dg c)))) ⟨Same.mut (Same.refl _) nD, upd_same⟩ (fun _ _ _ _ => trivial) ?_ ?_⟩
          · rintro u x _ H2 hu ⟨sm2, hD⟩ ⟨rfl, d, hd, rfl⟩
            rw [hc1, get_tx] at hd
            have et : cr.take (u + 1) = cr.take u ++ [d] := by rw [List.take_add_one, hd]; rfl
            refine ⟨rfl, chainS (lo := Str.ofString "0") (hi := Str.ofString "9") (te := tVar 1) (σ := [some (tx (c :: cr)), some (sg d)]) (l := 48) (h := 57) (c := d) (by decide +kernel) (by decide +kernel) (fun R r => ⟨_, rfl, r⟩) ⟨_, hD, ?_, Same.mut sm2 nD, ?_⟩⟩
            · rw [List.length_map, List.length_take]
              exact small1000 (by omega)
            · rw [upd_same, et, List.map_append]; rfl
          · rintro H2 ⟨sm2, hD⟩
            have hsz : (cutS (⟨(c :: cr).toArray⟩ : Str) (some 1) none).cps.size = cr.length := by rw [hc1]; simp
            rw [hsz, List.take_length] at hD
            refine ⟨D, cr.map Dg, rfl, SqL.of (by rw [hD, List.map_map]; rfl), ?_⟩
            have ea : (cr.map Dg).all id = cr.all Dg := by rw [List.all_map]; rfl
            rw [ea]
            exact q H2 sm2
        · rw [Bool.eq_false_iff.mpr h] at q
          exact q H (Same.refl _)
end
end K0


namespace K0
open PySem PySem.Spec PyProof.Rows L2
def ascL : List (List Nat) → Bool
  | [] => true
  | [_] => true
  | c :: d :: r => decide (c < d) && ascL (d :: r)
def ascZ (css : List (List Nat)) : List Bool := (css.zip (css.drop 1)).map fun p => decide (p.1 < p.2)
theorem ascZ_all : ∀ css : List (List Nat), (ascZ css).all id = ascL css
  | [] => rfl
  | [_] => rfl
  | c :: d :: r => by
    have := ascZ_all (d :: r)
    show (decide (c < d) && ((ascZ (d :: r)).all id)) = (decide (c < d) && ascL (d :: r))
    rw [this]
section
variable {P : Program} {w : World} {K : PySem.W.Frag} {mg : Str → Option Value} {base : Heap} {a : Ad} {fI : Addr} {dI : FuncData}
theorem slice1 {H : Hp} {p : Addr} {css : List (List Nat)} {R : VK} (hS : SqT K H p (css.map tx)) (f : ∀ (H1 : Hp) (p2 : Addr), Same H H1 → SqT K H1 p2 ((css.drop 1).map tx) → R (.ref p2) H1) : rSlA K (.ref p) (some 1) none H R := by
  have e1 : HT.sIx (css.map tx).length 0 (some 1) = min 1 css.length := by
    have := HT.sIx_nat (css.map tx).length 0 1
    rw [List.length_map] at this ⊢
    exact this
  refine ⟨p, _, rfl, hS, fun hw => ?_, fun hw p2 n2 => ?_⟩
  · rw [e1] at hw
    have h0 : css = [] := List.length_eq_zero_iff.mp (by have := hw.1; omega)
    subst h0
    exact f H p (Same.refl _) hS
  · refine f _ p2 (same_upd n2) (SqT.of ?_)
    rw [upd_same]
    unfold cutV
    rw [e1, HT.sIx_none, List.length_map, List.map_drop]
    congr 2
    by_cases h : css = []
    · subst h; rfl
    · have : 1 ≤ css.length := List.length_pos_iff.mpr h
      rw [Nat.min_eq_left this, List.take_of_length_le (by simp)]
def spAsc (K : PySem.W.Frag) : Sp := fun vs H Q _ => ∃ (p : Addr) (css : List (List Nat)), vs = [.ref p] ∧ SqT K H p (css.map tx) ∧ css.length ≤ 1000 ∧ ∀ H', Same H H' → Q (.bl (ascL css)) H'
theorem ok_asc (T : Top K mg a) : FnOk P w K mg base CX0 1 a.f_is_ascending a.d_is_ascending ["items"] (spAsc K) := by
  refine T.F_is_ascending.ok sc_is_ascending (fun vs H Q E h => ?_) (fun cdv A outer s H vs Q E hr h => ?_)
  · obtain ⟨x, b, rfl, _⟩ := h
    rfl
  · obtain ⟨p, css, rfl, hS, hl, q⟩ := h
    refine ⟨_, (pss_one (ps_ret (pe_callB (cr_all rfl) (by rfl) T.z_all (by decide +kernel) (pa_cons (pe_lc (own := [("low", 1), ("high", 2)]) rfl sc_is_ascending.nd (RZ.pi_zipA (by rfl) T.z_zip (pa_cons (pv 0) (pa_cons (pe_slice sl_tupA (pv 0) (po_some pe_int) po_none) pa_nil))) (blkOk_by (own := [("low", 1), ("high", 2)]) (N := ["items", "low", "high"]) (sc := defScope s_is_ascending) (by decide +kernel)) (fun _ _ _ _ _ => (R1.pg_tupK (K := K) (n := 2) rfl rfl (pgs_cons (pg_name (i := 1) sc_is_ascending.nd rfl (.inl rfl)) (pgs_cons (pg_name (i := 2) sc_is_ascending.nd rfl (.inl rfl)) pgs_nil)))) (fun _ _ _ _ _ => pts_nil) (fun _ _ _ _ _ => (pe_cmpR op_lt_str (pv 1) (pv 2) (nomark _)))) pa_nil)))), ?_⟩
    refine ⟨.ref p, rfl, .ref p, rfl, 1, rfl, ?_⟩
    dsimp only [tNoPart]
    refine slice1 hS (fun H1 p2 s1 h2 => ?_)
    refine ⟨p, p2, _, _, rfl, .inr ⟨SameT s1 hS, h2, fun D nD => R1.walk_it (R1.walk_zipT (K := K) (a := p) (b := p2) (xs := css.map tx) (ys := (css.drop 1).map tx) rfl) (fun u H2 => Same H1 H2 ∧ H2 D = some (.lst (((ascZ css).take u).map V.bl))) ⟨Same.mut (Same.refl _) nD, upd_same⟩ (fun u H2 _ h => ⟨SameT (s1.trans h.1) hS, SameT h.1 h2⟩) ?_ ?_⟩⟩
    · rintro u x H2 H3 hu ⟨sm2, hD⟩ ⟨Tt, y, z, rfl, nT, rfl, hy, hz⟩
      have hu' : u < css.length ∧ u < css.length - 1 := by
        rw [List.length_map, List.length_map, List.length_drop] at hu
        omega
      have g1 : css[u]? = some css[u] := List.getElem?_eq_getElem hu'.1
      have g2 : (css.drop 1)[u]? = some ((css.drop 1)[u]'(by rw [List.length_drop]; omega)) := List.getElem?_eq_getElem _
      have hy' : (css.map tx)[u]? = some y := hy
      have hz' : ((css.drop 1).map tx)[u]? = some z := hz
      rw [List.getElem?_map, g1] at hy'
      rw [List.getElem?_map, g2] at hz'
      cases hy'
      cases hz'
      have gz : (ascZ css)[u]? = some (decide (css[u] < (css.drop 1)[u]'(by rw [List.length_drop]; omega))) := by
        unfold ascZ
        have gg : (css.zip (css.drop 1))[u]? = some (css[u], (css.drop 1)[u]'(by rw [List.length_drop]; omega)) := List.getElem?_zip_eq_some.mpr ⟨g1, g2⟩
        rw [List.getElem?_map, gg]
        rfl
      have et : (ascZ css).take (u + 1) = (ascZ css).take u ++ [decide (css[u] < (css.drop 1)[u]'(by rw [List.length_drop]; omega))] := by rw [List.take_add_one, gz]; rfl
      have sT : Same H2 (upd H2 Tt (.tup [tx css[u], tx ((css.drop 1)[u]'(by rw [List.length_drop]; omega))])) := same_upd nT
      refine ⟨Tt, _, rfl, SqT.of upd_same, rfl, _, _, rfl, _, _, rfl, rfl, rfl, _, rfl, _, rfl, _, _, rfl, rfl, _, sT _ _ hD, ?_, Same.mut (sm2.trans sT) nD, ?_⟩
      · rw [List.length_map, List.length_take]
        exact small1000 (by omega)
      · rw [upd_same, et, List.map_append]
        simp
    · rintro H2 ⟨sm2, hD⟩
      have hlz : (ascZ css).length = min (css.map tx).length ((css.drop 1).map tx).length := by
        unfold ascZ; simp
      rw [← hlz, List.take_length] at hD
      refine ⟨D, ascZ css, rfl, SqL.of hD, ?_⟩
      rw [ascZ_all]
      exact q H2 (s1.trans sm2)
end
end K0


namespace K0
open PySem PySem.Spec PyProof.Rows L2
section
variable {P : Program} {w : World} {K : PySem.W.Frag} {mg : Str → Option Value} {base : Heap} {a : Ad} {fI : Addr} {dI : FuncData}
def NameOk (K : PySem.W.Frag) (H : Hp) (x : V) (b : Bool) : Prop := (∃ t, (∀ H', Same H H' → TyX K H' x (.type t)) ∧ kitB t "str" = some false ∧ b = false) ∨ ∃ cs, x = tx cs ∧ cs.length ≤ 1000 ∧ b = isNameL cs
theorem NameOk.is {H H' : Hp} {x : V} {b : Bool} (h : NameOk K H x b) (s : Same H H') : NameIs K H' x b := by
  rcases h with ⟨t, h, k, e⟩ | h
  · exact .inl ⟨t, h _ s, k, e⟩
  · exact .inr h
def NamesIs (K : PySem.W.Frag) (H : Hp) (x : V) (r : Option V) : Prop := (NotT K H x ∧ r = some x) ∨ ∃ (a0 : Addr) (zs : List (V × Bool)), x = .ref a0 ∧ SqT K H a0 (zs.map Prod.fst) ∧ zs.length ≤ 1000 ∧ (∀ z ∈ zs, NameOk K H z.1 z.2) ∧
  (∀ (u : Nat) (z : V × Bool), zs[u]? = some z → z.2 = false → (∀ y ∈ zs.take u, y.2 = true) → r = some z.1) ∧
  ((∀ z ∈ zs, z.2 = true) → ∃ css : List (List Nat), zs.map Prod.fst = css.map tx ∧ r = if (decide (css.length ≤ 3) && ascL css) = true then none else some x)
theorem RaisesV.mono {C : Addr} {H H' : Hp} {v : V} {E : XK} (h : RaisesV C H v E) (s : Same H H') : RaisesV C H' v E := fun d H2 hd s2 hx => h d H2 (s.free hd) (s.trans s2) hx
def spCheckNames (K : PySem.W.Frag) (C : Addr) : Sp := fun vs H Q E => ∃ (x : V) (r : Option V), vs = [x] ∧ NamesIs K H x r ∧ (r = none → ∀ H', Same H H' → Q .non H') ∧ (∀ v, r = some v → RaisesV C H v E)
theorem ok_checkNames {L O : Addr} (T : Top K mg a) (EN : ErX K a.c_BadName L O fI dI "BadName.__init__" initN) (G_is_name : FnOk P w K mg base CX0 1 a.f_is_name a.d_is_name ["value"] (spIsName K)) (G_is_ascending : FnOk P w K mg base CX0 1 a.f_is_ascending a.d_is_ascending ["items"] (spAsc K)) : FnOk P w K mg base (CX P w) 3 a.f_check_names a.d_check_names ["names"] (spCheckNames K a.c_BadName) := by
  have G_init := ok_initN (P := P) (w := w) (mg := mg) (base := base) EN
  refine T.F_check_names.okX sc_check_names (fun vs H Q E h => ?_) (fun cdv A outer s H vs Q E hr h => ?_)
  · obtain ⟨x, r, rfl, _⟩ := h
    rfl
  · obtain ⟨x, r, rfl, hN, q1, q2⟩ := h
    obtain ⟨tE, hE⟩ := T.m_MOST_NAMES
    refine ⟨_, (pss_cons (ps_if (pt_not (pt_val (pe_callB call_isi (by rfl) T.z_isinstance (by decide +kernel) (pa_cons (pv 0) (pa_cons (pe_bltn (v := .ty "tuple") (by rfl) T.z_tuple (by decide +kernel) rfl) pa_nil)))))
      (pss_one (ps_raise rfl (takes_of rfl rfl rfl rfl) (pmk_oex EN.ox EN.iC EN.tI G_init (hr.mono (by decide)) EN.b_init .nil pass0F (by rfl) T.m_BadName (pa_cons (pv 0) pa_nil))))
      pss_nil)
    (pss_cons (ps_for (passes_of rfl) rfl (R1.PI.or (pi_list (pv 0)) (pi_tup (pv 0))) (pg_name (i := 1) sc_check_names.nd rfl (.inl rfl))
      (pss_one (ps_if (pt_not (pt_val (pe_call G_is_name (hr.mono (by decide)) (by rfl) T.m_is_name T.F_is_name.kp T.b_is_name .nil pass0 (pa_cons (pv 1) pa_nil))))
        (pss_one (ps_raise rfl (takes_of rfl rfl rfl rfl) (pmk_oex EN.ox EN.iC EN.tI G_init (hr.mono (by decide)) EN.b_init .nil pass0F (by rfl) T.m_BadName (pa_cons (pv 1) pa_nil))))
        pss_nil)))
    (pss_one (ps_if (PW.pt (pw_or (pt_cmpR op_gt (pe_callB (CallR.or call_len_str call_len_seq) (by rfl) T.z_len (by decide +kernel) (pa_cons (pv 0) pa_nil)) (pe_glob (by rfl) hE (show RelV (.int 3) _ from ⟨_, rfl⟩)) (nomark _)) (pw_or1 (pt_not (pt_val (pe_call G_is_ascending (hr.mono (by decide)) (by rfl) T.m_is_ascending T.F_is_ascending.kp T.b_is_ascending .nil pass0 (pa_cons (pv 0) pa_nil)))))))
      (pss_one (ps_raise rfl (takes_of rfl rfl rfl rfl) (pmk_oex EN.ox EN.iC EN.tI G_init (hr.mono (by decide)) EN.b_init .nil pass0F (by rfl) T.m_BadName (pa_cons (pv 0) pa_nil))))
      pss_nil)))), ?_⟩
    rcases hN with ⟨⟨t, ht, hk⟩, rfl⟩ | ⟨a0, zs, rfl, hS, hl, hz, hbad, hall⟩
    · exact isit rfl ht hk (iteT (raise_v (fun Q q => ⟨_, rfl, q⟩) (q2 x rfl)))
    · refine isit rfl (tyx_t hS) (b := true) (by decide +kernel) (iteF ?_)
      refine .inr ⟨.ref a0, rfl, a0, rfl, ⟨_, hS⟩, for_it (walk_tup (xs := zs.map Prod.fst)) (fun u σ' H' => ∃ y1, σ' = [some (.ref a0), y1] ∧ Same H H' ∧ ∀ y ∈ zs.take u, y.2 = true) ⟨none, rfl, Same.refl _, by simp⟩ ?_ ?_ ?_⟩
      · rintro u σ' H' _ ⟨_, _, sm, _⟩
        exact SameT sm hS
      · rintro u x σ' _ H' hu ⟨y1, rfl, sm, hA⟩ ⟨rfl, hx⟩
        rw [List.getElem?_map] at hx
        cases hzu : zs[u]? with
        | none => rw [hzu] at hx; cases hx
        | some z =>
          rw [hzu] at hx
          obtain rfl : x = z.1 := (Option.some.inj hx).symm
          have hmem := List.mem_of_getElem? hzu
          refine ⟨z.1, rfl, z.1, z.2, rfl, (hz z hmem).is sm, fun H2 s2 => ⟨z.2, rfl, ?_⟩⟩
          cases hb : z.2 with
          | false => exact iteT (raise_v (fun Q q => ⟨_, rfl, q⟩) ((q2 z.1 (hbad u z hzu hb hA)).mono (sm.trans s2)))
          | true =>
            refine iteF ⟨_, rfl, sm.trans s2, fun y hy => ?_⟩
            rw [List.take_add_one, hzu] at hy
            rcases List.mem_append.mp hy with h | h
            · exact hA y h
            · have : y = z := by simpa using h
              rw [this]; exact hb
      · rintro σ' H' ⟨y1, rfl, sm, hA⟩
        rw [List.length_map, List.take_length] at hA
        obtain ⟨css, ec, er⟩ := hall hA
        have hS2 : SqT K H' a0 (css.map tx) := by rw [← ec]; exact SameT sm hS
        have hcl : css.length = zs.length := by have := congrArg List.length ec; simpa using this.symm
        refine ⟨.ref a0, rfl, .inr ⟨a0, _, rfl, .inr hS2, _, 3, rfl, rfl, _, rfl, ?_⟩⟩
        rw [List.length_map]
        have hd : decide ((3 : Int) < (css.length : Int)) = !decide (css.length ≤ 3) := by
          rw [Bool.eq_iff_iff, Bool.not_eq_true', decide_eq_true_eq, decide_eq_false_iff_not]; omega
        rw [hd]
        by_cases h3 : css.length ≤ 3
        · rw [decide_eq_true h3]
          refine iteF ⟨.ref a0, rfl, a0, css, rfl, hS2, by omega, fun H2 s2 => ⟨_, rfl, ?_⟩⟩
          cases ha : ascL css with
          | true => exact iteF (q1 (by rw [er, decide_eq_true h3, ha]; rfl) H2 (sm.trans s2))
          | false => exact iteT (raise_v (fun Q q => ⟨_, rfl, q⟩) ((q2 _ (by rw [er, decide_eq_true h3, ha]; rfl)).mono (sm.trans s2)))
        · rw [decide_eq_false h3]
          exact iteT (iteT (raise_v (fun Q q => ⟨_, rfl, q⟩) ((q2 _ (by rw [er, decide_eq_false h3]; rfl)).mono sm)))
end
end K0

namespace K0
open PySem PySem.Spec PyProof.Rows L2
section
variable {P : Program} {w : World} {K : PySem.W.Frag} {mg : Str → Option Value} {base : Heap} {a : Ad} {fI : Addr} {dI : FuncData}
def errL (r : Option V) : List V := match r with
  | none => []
  | some v => [v]
def spNamesErr (K : PySem.W.Frag) : Sp := fun vs H Q _ => ∃ (x : V) (r : Option V), vs = [x] ∧ NamesIs K H x r ∧ (∀ p H', H p = none → Same H H' → H' p = some (.lst (errL r)) → Q (.ref p) H')
theorem ok_namesErr (T : Top K mg a) (EN : ErX K a.c_BadName a.c_LookerError a.c_BadCell fI dI "BadName.__init__" initN) (G : FnOk P w K mg base (CX P w) 3 a.f_check_names a.d_check_names ["names"] (spCheckNames K a.c_BadName)) : FnOk P w K mg base CX0 4 a.f_l_names_error a.d_l_names_error ["_law_names"] (spNamesErr K) := by
  refine T.F_l_names_error.ok sc_l_names_error (fun vs H Q E h => ?_) (fun cdv A outer s H vs Q E hr h => ?_)
  · obtain ⟨x, r, rfl, _⟩ := h
    rfl
  · obtain ⟨x, r, rfl, hC, q⟩ := h
    refine ⟨_, pss_cons (ps_try_as (i := 2) (Wout := fun _ _ _ _ => False) rfl rfl sc_l_names_error.nd rfl rfl ⟨rfl, by decide, .inl T.m_BadName⟩ takes0
        (fun W pn xe tk _ => pss_one (ps_set (i := 1) sc_l_names_error.nd rfl (.inl rfl) (pe_callS G (hr.mono (by decide)) (by rfl) T.m_check_names T.F_check_names.kp T.b_check_names (fun σ => passAt tk σ) (pa_cons (pv 0) pa_nil))))
        (fun ea oe cls d pn hz hf => pss_cons (ps_if (PW.pt (pw_and (pt_val (pe_callB (R1.call_isX (K := K) rfl EN.xc hz hf) (by rfl) T.z_isinstance (by decide +kernel) (pa_cons (pv 2) (pa_cons (pe_glob (v := .ref _) (by rfl) T.m_LookerError rfl) pa_nil)))) (pw_and1 (pt_not (pt_val (pe_callB (R1.call_isX (K := K) rfl EN.xc hz hf) (by rfl) T.z_isinstance (by decide +kernel) (pa_cons (pv 2) (pa_cons (pe_glob (v := .ref _) (by rfl) T.m_BadCell rfl) pa_nil))))))))
          (pss_one (ps_ret (pe_lst (pa_cons (pe_xf EN.xf EN.noV hz hf (pv 2)) pa_nil)))) pss_nil) (pss_one (ps_ret pe_non))))
      (pss_cons (ps_if (pt_cmpR op_isN (pv 1) pe_non (nomark _)) (pss_one (ps_ret (pe_lst pa_nil))) pss_nil) (pss_one (ps_ret pe_non))), ?_⟩
    refine ⟨x, rfl, x, r, rfl, hC, fun e H' sm => ?_, fun v e d H' hd sm hx => ⟨true, EN.te, fun _ ea hea => ?_, fun z => by cases z⟩⟩
    · subst e
      exact ⟨_, rfl, rfl, _, rfl, iteT ⟨Nat.zero_le _, fun p np => q p _ (sm.free np) (sm.trans (same_upd np)) upd_same⟩⟩
    · subst e
      refine if_ans (b := true && !false) (ans_and2 (fun Q q => ⟨_, rfl, a.c_LookerError, true, d, _, rfl, rfl, hx, rfl, EN.su, true, rfl, q⟩) (fun Q q => ⟨_, rfl, a.c_BadCell, false, d, _, rfl, rfl, hx, rfl, EN.no, false, rfl, q⟩)) (fun _ => ?_) (fun e => nomatch e)
      exact ⟨.ref ea, rfl, rfl, rfl, d, _, v, rfl, hx, rfl, Nat.le_of_lt (small1000 (by simp)), fun p np => q p _ (sm.free np) (sm.trans (same_upd np)) upd_same⟩
end
end K0


namespace K0
open PySem PySem.Spec PyProof.Rows L2
section
variable {P : Program} {w : World} {K : PySem.W.Frag} {mg : Str → Option Value} {base : Heap} {a : Ad} {fI : Addr} {dI : FuncData}
def chs : List Int := [-1, 0, 1, 2, 3]
def nextT (r : List Int) : List (List Int) := chs.map fun c => r ++ [c]
def tups : Nat → List (List Int)
  | 0 => [[]]
  | n + 1 => (tups n).flatMap nextT
theorem tups_small : ∀ n, n ≤ 3 → ((tups n).length ≤ 125 ∧ ∀ r ∈ tups n, r.length = n) := by
  have : (List.range 4).all (fun k => decide ((tups k).length ≤ 125) && (tups k).all fun r => decide (r.length = k)) = true := by decide +kernel
  intro n hn
  have h := List.all_eq_true.mp this n (List.mem_range.mpr (by omega))
  rw [Bool.and_eq_true] at h
  exact ⟨of_decide_eq_true h.1, fun r hr => of_decide_eq_true (List.all_eq_true.mp h.2 r hr)⟩
def IsTupI (K : PySem.W.Frag) (H : Hp) (x : V) (ns : List Int) : Prop := ∃ b, x = V.ref b ∧ SqT K H b (ns.map V.int)
theorem IsTupI.same {H H' : Hp} {x : V} {ms : List Int} (k : Same H H') (h : IsTupI K H x ms) : IsTupI K H' x ms := by
  obtain ⟨b, e, h⟩ := h
  exact ⟨b, e, SameT k h⟩
theorem IsTupI.kp {D : Addr} {H H' : Hp} {l : List V} {x : V} {ms : List Int} (k : Kp D H H') (hD : H D = some (.lst l)) (h : IsTupI K H x ms) : IsTupI K H' x ms := by
  obtain ⟨b, e, h⟩ := h
  exact ⟨b, e, SqT.kp k hD h⟩
def spTuples (K : PySem.W.Frag) : Sp := fun vs H Q _ => ∃ (c0 : Addr) (n : Nat), vs = [.ref c0, .int (n : Int)] ∧ SqT K H c0 (chs.map V.int) ∧ n ≤ 3 ∧ ∀ p xs H', Same H H' → H p = none → H' p = some (.lst xs) → R1.Al (IsTupI K H') xs (tups n) → Q (.ref p) H'
theorem ok_tuples (T : Top K mg a) : FnOk P w K mg base CX0 1 a.f_l_tuples a.d_l_tuples ["_law_choices", "_law_count"] (spTuples K) := by
  refine T.F_l_tuples.ok sc_l_tuples (fun vs H Q E h => ?_) (fun cdv A outer s H vs Q E hr h => ?_)
  · obtain ⟨c0, n, rfl, _⟩ := h
    rfl
  · obtain ⟨c0, n, rfl, hC, hn, q⟩ := h
    refine ⟨_, (pss_cons (ps_set (i := 2) sc_l_tuples.nd rfl (.inl rfl) (pe_lst (pa_cons (pe_tup pa_nil) pa_nil)))
    (pss_cons (ps_for PassesOwn.never rfl (pi_range1 (by rfl) T.z_range (pa_cons (pv 1) pa_nil)) (pg_name (i := 3) sc_l_tuples.nd rfl (.inl rfl))
      (pss_cons (ps_set (i := 4) sc_l_tuples.nd rfl (.inl rfl) (pe_lst pa_nil))
      (pss_cons (ps_for PassesOwn.never rfl (R1.PI.or (pi_list (pv 2)) (pi_tup (pv 2))) (pg_name (i := 5) sc_l_tuples.nd rfl (.inl rfl))
        (pss_one (ps_for PassesOwn.never rfl (R1.PI.or (pi_list (pv 0)) (pi_tup (pv 0))) (pg_name (i := 6) sc_l_tuples.nd rfl (.inl rfl))
          (pss_one (ps_expr (pe_bm PySem.F.plainAttrs_list PySem.F.slot_list_append PySem.F.type_list_append mt_append (pv 4) (pa_cons (pe_op op_catA (pv 5) (pe_tup (pa_cons (pv 6) pa_nil))) pa_nil)))))))
      (pss_one (ps_set (i := 2) sc_l_tuples.nd rfl (.inl rfl) (pe_callTy call_list_of (by rfl) T.z_list (by decide +kernel) (pa_cons (pv 4) pa_nil)))))))
    (pss_one (ps_ret (pv 2))))), ?_⟩
    refine ⟨Nat.zero_le _, fun p0 n0 => ⟨Nat.le_of_lt (small1000 (by simp)), fun p1 n1 => ?_⟩⟩
    have h1n : H p1 = none := by
      by_cases e : p1 = p0
      · rw [e]; exact n0
      · rw [upd_ne e] at n1; exact n1
    have s0 : Same H (upd (upd H p0 (.tup [])) p1 (.lst [V.ref p0])) := Same.mut (Same.mut (Same.refl _) n0) h1n
    have hp0 : (upd (upd H p0 (.tup [])) p1 (.lst [V.ref p0])) p0 = some (.tup []) := by
      rw [upd_ne (fun e => by rw [← e, upd_same] at n1; cases n1), upd_same]
    refine ⟨.int (n : Int), rfl, (n : Int), rfl, by omega, by omega, for_it walk_range (fun i σ' H' => ∃ p xs y3 y4 y5 y6, σ' = [some (.ref c0), some (.int (n : Int)), some (.ref p), y3, y4, y5, y6] ∧ Same H H' ∧ H p = none ∧ H' p = some (.lst xs) ∧ R1.Al (IsTupI K H') xs (tups i)) ⟨p1, [V.ref p0], none, none, none, none, rfl, s0, h1n, upd_same, R1.Al.one ⟨p0, rfl, .inl (.inl hp0)⟩⟩ (fun _ _ _ _ _ => trivial) ?_ ?_⟩
    · rintro i x σ' _ H1 hi ⟨p, xs, y3, y4, y5, y6, rfl, sm, np, hp, hA⟩ ⟨rfl, rfl⟩
      have b1 := (tups_small i (by omega)).2
      have b2 := (tups_small (i + 1) (by omega)).1
      have lx : xs.length = (tups i).length := hA.1
      refine ⟨Nat.zero_le _, fun D nD => ?_⟩
      refine .inl ⟨.ref p, rfl, p, rfl, ⟨xs, SqL.of ((same_upd nD) _ _ hp)⟩, for_it (walk_list (xs := xs)) (fun u σ' H2 => ∃ y5 y6 acc, σ' = [some (.ref c0), some (.int (n : Int)), some (.ref p), some (.int (0 + (i : Int))), some (.ref D), y5, y6] ∧ Same H1 H2 ∧ H2 D = some (.lst acc) ∧ R1.Al (IsTupI K H2) acc (((tups i).take u).flatMap nextT)) ⟨y5, y6, [], rfl, Same.mut (Same.refl _) nD, upd_same, R1.Al.nil⟩ ?_ ?_ ?_⟩
      · rintro u σ' H2 _ ⟨_, _, _, _, sm2, _⟩
        exact sm2.seq (SqL.of hp)
      · rintro u x σ' _ H2 hu ⟨z4, z5, acc, rfl, sm2, hD, hB⟩ ⟨rfl, hx⟩
        obtain ⟨ms, hms, b, rfl, hb⟩ := hA.at hx
        have lm := b1 ms (List.mem_of_getElem? hms)
        have ln : ((tups i).take (u + 1)).flatMap nextT = ((tups i).take u).flatMap nextT ++ nextT ms := flat_snoc nextT hms
        have l2 : (((tups i).take (u + 1)).flatMap nextT).length ≤ 125 := Nat.le_trans (flat_take nextT (tups i) (u + 1)) b2
        refine .inr ⟨.ref c0, rfl, c0, rfl, ⟨_, SameT (sm.trans sm2) hC⟩, for_it (walk_tup (xs := chs.map V.int)) (fun v σ' H3 => ∃ y6 acc, σ' = [some (.ref c0), some (.int (n : Int)), some (.ref p), some (.int (0 + (i : Int))), some (.ref D), some (.ref b), y6] ∧ Same H1 H3 ∧ H3 D = some (.lst acc) ∧ R1.Al (IsTupI K H3) acc (((tups i).take u).flatMap nextT ++ (chs.take v).map fun c => ms ++ [c])) ⟨z5, acc, rfl, sm2, hD, by simpa using hB⟩ ?_ ?_ ?_⟩
        · rintro v σ' H3 _ ⟨_, _, _, sm3, _⟩
          exact SameT (sm.trans sm3) hC
        · rintro v x σ' _ H3 hv ⟨w5, acc3, rfl, sm3, hD3, hA3⟩ ⟨rfl, hx⟩
          have hv' : v < chs.length := by simpa using hv
          have hc : chs[v]? = some chs[v] := List.getElem?_eq_getElem hv'
          rw [List.getElem?_map, hc] at hx
          obtain rfl : x = .int chs[v] := (Option.some.inj hx).symm
          have rv : chs.take (v + 1) = chs.take v ++ [chs[v]] := by rw [List.take_add_one, hc]; rfl
          have la : acc3.length ≤ 1000 := by
            have := hA3.1
            rw [List.length_append, List.length_map, List.length_take] at this
            have l1 : (((tups i).take u).flatMap nextT).length ≤ 125 := Nat.le_trans (flat_take nextT (tups i) u) b2
            have l5 : chs.length = 5 := rfl
            omega
          have hb3 := SameT sm3 hb
          refine ⟨.ref D, rfl, .inl ⟨rfl, acc3, SqL.of hD3⟩, .ref b, rfl, .int chs[v], rfl, Nat.le_of_lt (small1000 (by simp)), fun pt nt => ?_⟩
          have sT : Same H3 (upd H3 pt (.tup [.int chs[v]])) := same_upd nt
          have fin : ∀ (pr : Addr) (H4 : Hp), Same H3 H4 → SqT K H4 pr ((ms ++ [chs[v]]).map V.int) → Same H1 (upd H4 D (.lst (acc3 ++ [V.ref pr]))) ∧ upd H4 D (.lst (acc3 ++ [V.ref pr])) D = some (.lst (acc3 ++ [V.ref pr])) ∧ R1.Al (IsTupI K (upd H4 D (.lst (acc3 ++ [V.ref pr])))) (acc3 ++ [V.ref pr]) (((tups i).take u).flatMap nextT ++ (chs.take (v + 1)).map fun c => ms ++ [c]) := fun pr H4 s4 h4 => by
            refine ⟨Same.mut (sm3.trans s4) nD, upd_same, ?_⟩
            rw [rv, List.map_append, ← List.append_assoc]
            exact R1.Al.snoc (hA3.mono fun x r h => IsTupI.kp (D := D) ((Kp.refl _ _).put) (s4 _ _ hD3) (h.same s4)) ⟨pr, rfl, SqT.kp (D := D) ((Kp.refl _ _).put) (s4 _ _ hD3) h4⟩
          refine ⟨b, pt, _, _, rfl, rfl, SameT sT hb3, SqT.of upd_same, Nat.le_of_lt (small1000 (by simp; omega)), fun e => ?_, fun _ e => ?_, fun _ _ p2 n2 => ?_⟩
          rotate_left
          · exact absurd e (by simp)
          rotate_left
          · have e0 : ms = [] := by simpa using e
            exact ⟨D, acc3, .ref pt, rfl, rfl, sT _ _ hD3, small1000 la, _, _, rfl, fin pt _ sT (SqT.of (by rw [upd_same, e0]; rfl))⟩
          · have s4 : Same H3 (upd (upd H3 pt (.tup [.int chs[v]])) p2 (.tup (ms.map V.int ++ [.int chs[v]]))) := sT.trans (same_upd n2)
            exact ⟨D, acc3, .ref p2, rfl, rfl, s4 _ _ hD3, small1000 la, _, _, rfl, fin p2 _ s4 (SqT.of (by rw [upd_same, List.map_append]; rfl))⟩
        · rintro σ' H3 ⟨w5, acc3, rfl, sm3, hD3, hA3⟩
          refine ⟨_, _, acc3, rfl, sm3, hD3, ?_⟩
          rw [List.length_map, List.take_length] at hA3
          rw [ln]
          exact hA3
      · rintro σ' H2 ⟨z4, z5, acc, rfl, sm2, hD, hB⟩
        rw [lx, List.take_length] at hB
        refine ⟨.ref D, rfl, D, acc, rfl, .inl (SqL.of hD), fun l nl => ?_⟩
        have sl : Same H1 (upd H2 l (.lst acc)) := Same.mut sm2 (sm2.free nl)
        have sl2 : Same H2 (upd H2 l (.lst acc)) := same_upd nl
        exact ⟨l, acc, _, _, _, _, rfl, sm.trans sl, sm.free (sm2.free nl), upd_same, hB.mono fun x r h => h.same sl2⟩
    · rintro σ' H1 ⟨p, xs, y3, y4, y5, y6, rfl, sm, np, hp, hA⟩
      exact ⟨.ref p, rfl, q p xs H1 sm np hp (by simpa using hA)⟩
end
end K0


namespace K0
open PySem PySem.Spec PyProof.Rows L2
theorem abc_at : ∀ j, j < 26 → (Str.ofString "abcdefghijklmnopqrstuvwxyz").cps.toList[j]? = some (97 + j) := by
  have : (List.range 26).all (fun j => decide ((Str.ofString "abcdefghijklmnopqrstuvwxyz").cps.toList[j]? = some (97 + j))) = true := by decide +kernel
  intro j hj
  exact of_decide_eq_true (List.all_eq_true.mp this j (List.mem_range.mpr hj))
theorem dig_at : ∀ j, j < 10 → (Str.ofString "0123456789").cps.toList[j]? = some (48 + j) := by
  have : (List.range 10).all (fun j => decide ((Str.ofString "0123456789").cps.toList[j]? = some (48 + j))) = true := by decide +kernel
  intro j hj
  exact of_decide_eq_true (List.all_eq_true.mp this j (List.mem_range.mpr hj))
section
variable {P : Program} {w : World} {K : PySem.W.Frag} {mg : Str → Option Value} {base : Heap} {a : Ad} {fI : Addr} {dI : FuncData}
def spName : Sp := fun vs H Q _ => ∃ (st : Addr), vs = [.ref st] ∧ Sta H st ∧ ∀ H' c ds, Kp st H H' → Sta H' st → Lw c = true → ds.all Dg = true → ds.length ≤ 3 → Q (tx (c :: ds)) H'
theorem ok_name (T : Top K mg a) (G_l_draw : FnOk P w K mg base CX0 1 a.f_l_draw a.d_l_draw ["_law_state_here", "_law_many"] spDraw) : FnOk P w K mg base CX0 2 a.f_l_name a.d_l_name ["_law_state_here"] spName := by
  refine T.F_l_name.ok sc_l_name (fun vs H Q E h => ?_) (fun cdv A outer s H vs Q E hr h => ?_)
  · obtain ⟨st, rfl, _⟩ := h
    rfl
  · obtain ⟨st, rfl, S, q⟩ := h
    refine ⟨_, (pss_cons (ps_set (i := 1) sc_l_name.nd rfl (.inl rfl) (pe_ix ix_seq pe_str (pe_call G_l_draw (hr.mono (by decide)) (by rfl) T.m_l_draw T.F_l_draw.kp T.b_l_draw .nil pass0 (pa_cons (pv 0) (pa_cons pe_int pa_nil))) (fun _ _ => rfl)))
    (pss_cons (ps_for PassesOwn.never rfl (pi_range1 (by rfl) T.z_range (pa_cons (pe_call G_l_draw (hr.mono (by decide)) (by rfl) T.m_l_draw T.F_l_draw.kp T.b_l_draw .nil pass0 (pa_cons (pv 0) (pa_cons pe_int pa_nil))) pa_nil)) (pg_name (i := 2) sc_l_name.nd rfl (.inl rfl))
      (pss_one (ps_set (i := 1) sc_l_name.nd rfl (.inl rfl) (pe_op op_add_str (pv 1) (pe_ix ix_seq pe_str (pe_call G_l_draw (hr.mono (by decide)) (by rfl) T.m_l_draw T.F_l_draw.kp T.b_l_draw .nil pass0 (pa_cons (pv 0) (pa_cons pe_int pa_nil))) (fun _ _ => rfl))))))
    (pss_one (ps_ret (pv 1))))), ?_⟩
    refine ⟨.ref st, rfl, st, 26, rfl, S, by decide, by decide, fun H1 v k1 S1 a1 b1 => ?_⟩
    obtain ⟨j, rfl⟩ : ∃ j : Nat, v = j := ⟨v.toNat, by omega⟩
    refine .inr (.inr ⟨_, _, 97 + j, rfl, rfl, Nat.le_of_lt (small1000 (by decide +kernel)), atI_nat (abc_at j (by omega)), ?_⟩)
    refine ⟨.ref st, rfl, st, 4, rfl, S1, by decide, by decide, fun H2 m k2 S2 a2 b2 => ?_⟩
    refine ⟨m, rfl, by omega, by omega, for_it walk_range (fun i σ' H' => ∃ ds y2, σ' = [some (.ref st), some (tx ((97 + j) :: ds)), y2] ∧ Kp st H H' ∧ Sta H' st ∧ ds.all Dg = true ∧ ds.length = i) ⟨[], none, rfl, k1.trans k2, S2, rfl, rfl⟩ (fun _ _ _ _ _ => trivial) ?_ ?_⟩
    · rintro i x σ' _ H3 hi ⟨ds, y2, rfl, k3, S3, hd, hl⟩ ⟨rfl, rfl⟩
      refine ⟨_, rfl, .ref st, rfl, st, 10, rfl, S3, by decide, by decide, fun H4 u k4 S4 a4 b4 => ?_⟩
      obtain ⟨d, rfl⟩ : ∃ d : Nat, u = d := ⟨u.toNat, by omega⟩
      refine .inr (.inr ⟨_, _, 48 + d, rfl, rfl, Nat.le_of_lt (small1000 (by decide +kernel)), atI_nat (dig_at d (by omega)), ?_⟩)
      refine ⟨⟨((97 + j) :: ds).toArray⟩, ⟨#[48 + d]⟩, rfl, rfl, ?_, ⟨ds ++ [48 + d], some (.int (0 + (i : Int))), ?_, k3.trans k4, S4, ?_, ?_⟩⟩
      · rw [len_tx]
        exact small_le (by show ((97 + j) :: ds).length + 1 ≤ 1000; simp; omega)
      · have : (⟨((97 + j) :: ds).toArray⟩ : Str) ++ (⟨#[48 + d]⟩ : Str) = ⟨((97 + j) :: ds ++ [48 + d]).toArray⟩ := cat_tx _ [48 + d]
        rw [this]
        rfl
      · rw [List.all_append, hd]
        simp [Dg]
        omega
      · simp [hl]
    · rintro σ' H3 ⟨ds, y2, rfl, k3, S3, hd, hl⟩
      exact ⟨_, rfl, q H3 (97 + j) ds k3 S3 (by simp [Lw]; omega) hd (by omega)⟩
end
end K0


namespace R1
open PySem PySem.Spec PyProof.Rows L2
theorem sl_tupAK {X : Cx} {K : PySem.W.Frag} (hK : X.K = K) : SlR X (rSlA K) := by subst hK; exact sl_tupA
end R1
namespace K0
open PySem PySem.Spec PyProof.Rows L2
section
variable {P : Program} {w : World} {K : PySem.W.Frag} {mg : Str → Option Value} {base : Heap} {a : Ad} {fI : Addr} {dI : FuncData}
/-- all pairs, in order -/
def prsAt (css : List (List Nat)) (i : Nat) : List (List Nat × List Nat) := (css.drop (i + 1)).map fun d => (css.getD i [], d)
def prs (css : List (List Nat)) : List (List Nat × List Nat) := (List.range css.length).flatMap (prsAt css)
def IsPr (H : Hp) (x : V) (p : List Nat × List Nat) : Prop := ∃ b, x = V.ref b ∧ H b = some (.tup [tx p.1, tx p.2])
theorem IsPr.same {H H' : Hp} {x : V} {p : List Nat × List Nat} (k : Same H H') (h : IsPr H x p) : IsPr H' x p := by
  obtain ⟨b, e, h⟩ := h
  exact ⟨b, e, k _ _ h⟩
theorem IsPr.kp {D : Addr} {H H' : Hp} {l : List V} {x : V} {p : List Nat × List Nat} (k : Kp D H H') (hD : H D = some (.lst l)) (h : IsPr H x p) : IsPr H' x p := by
  obtain ⟨b, e, h⟩ := h
  exact ⟨b, e, k _ _ (fun e => by rw [e, hD] at h; cases h) h⟩
def spPairs (K : PySem.W.Frag) : Sp := fun vs H Q _ => ∃ (p : Addr) (css : List (List Nat)), vs = [.ref p] ∧ SqT K H p (css.map tx) ∧ css.length ≤ 10 ∧ ∀ r xs H', Same H H' → H r = none → H' r = some (.lst xs) → R1.Al (IsPr H') xs (prs css) → Q (.ref r) H'
theorem ok_pairs (T : Top K mg a) : FnOk P w K mg base CX0 1 a.f_pairs a.d_pairs ["names"] (spPairs K) := by
  refine T.F_pairs.ok sc_pairs (fun vs H Q E h => ?_) (fun cdv A outer s H vs Q E hr h => ?_)
  · obtain ⟨x, b, rfl, _⟩ := h
    rfl
  · obtain ⟨p, css, rfl, hS, hl, q⟩ := h
    refine ⟨_, (pss_one (ps_ret (pe_lc2 (own := [("at", 1), ("name", 2), ("later", 3)]) (vs1 := [3]) rfl sc_pairs.nd (R1.pi_enumT (by rfl) T.z_enumerate (pa_cons (pv 0) pa_nil)) (blkOk_by (own := [("at", 1), ("name", 2), ("later", 3)]) (N := ["names", "at", "name", "later"]) (sc := defScope s_pairs) (by decide +kernel)) (by decide) (fun _ _ _ _ _ => (R1.pg_tupK (K := K) (n := 2) rfl rfl (pgs_cons (pg_name (i := 1) sc_pairs.nd rfl (.inl rfl)) (pgs_cons (pg_name (i := 2) sc_pairs.nd rfl (.inl rfl)) pgs_nil)))) (fun _ _ _ _ _ => pts_nil) (fun _ _ _ _ _ => (R1.pi_tupK (K := K) rfl (pe_slice (R1.sl_tupAK (K := K) rfl) (pv 0) (po_some (pe_op op_add (pv 1) pe_int)) po_none))) (fun _ _ _ _ _ => (pg_name (i := 3) sc_pairs.nd rfl (.inl rfl))) (fun _ _ _ _ _ => pts_nil) (fun _ _ _ _ _ => (pe_tup (pa_cons (pv 2) (pa_cons (pv 3) pa_nil))))))), ?_⟩
    have lsz : (css.map tx).length = css.length := List.length_map _
    refine ⟨.ref p, rfl, p, css.map tx, rfl, hS, fun D nD => R1.walk_it (R1.walk_enumT (xs := css.map tx)) (fun u H2 => Same H H2 ∧ ∃ acc, H2 D = some (.lst acc) ∧ R1.Al (IsPr H2) acc ((List.range u).flatMap (prsAt css))) ⟨Same.mut (Same.refl _) nD, [], upd_same, R1.Al.nil⟩ (fun u H2 _ h => SameT h.1 hS) ?_ ?_⟩
    · rintro u x H2 H3 hu ⟨sm2, acc, hD, hB⟩ ⟨Tt, y, z, rfl, nT, rfl, hy, hz⟩
      have hu' : u < css.length := by omega
      obtain rfl : y = .int (u : Int) := (Option.some.inj hy).symm
      have g1 : css[u]? = some css[u] := List.getElem?_eq_getElem hu'
      have hz' : (css.map tx)[u]? = some z := hz
      rw [List.getElem?_map, g1] at hz'
      cases hz'
      have sT : Same H2 (upd H2 Tt (.tup [.int (u : Int), tx css[u]])) := same_upd nT
      refine ⟨Tt, _, rfl, SqT.of upd_same, rfl, _, _, rfl, _, _, rfl, rfl, rfl, ?_⟩
      refine ⟨.ref p, rfl, .int (u : Int), rfl, u, 1, rfl, rfl, (u : Int) + 1, rfl, ?_⟩
      dsimp only [tNoPart]
      have smT := sm2.trans sT
      have e1 : HT.sIx (css.map tx).length 0 (some ((u : Int) + 1)) = u + 1 := by
        have := HT.sIx_nat (css.map tx).length 0 (u + 1)
        rw [show (((u + 1 : Nat) : Int)) = (u : Int) + 1 from by omega] at this
        rw [this, lsz]
        omega
      refine ⟨p, _, rfl, SameT smT hS, fun hw => ?_, fun _ p2 n2 => ?_⟩
      · rw [e1] at hw
        exact absurd hw.1 (by omega)
      have hc2 : cutV (css.map tx) (some ((u : Int) + 1)) none = (css.drop (u + 1)).map tx := by
        unfold cutV
        rw [e1, HT.sIx_none, lsz, List.map_drop, List.take_of_length_le (by simp)]
      have s4 : Same H (upd (upd H2 Tt (.tup [.int (u : Int), tx css[u]])) p2 (.tup (cutV (css.map tx) (some ((u : Int) + 1)) none))) := smT.trans (same_upd n2)
      have s5 : Same H2 (upd (upd H2 Tt (.tup [.int (u : Int), tx css[u]])) p2 (.tup (cutV (css.map tx) (some ((u : Int) + 1)) none))) := sT.trans (same_upd n2)
      have hP2 : (upd (upd H2 Tt (.tup [.int (u : Int), tx css[u]])) p2 (.tup (cutV (css.map tx) (some ((u : Int) + 1)) none))) p2 = some (.tup ((css.drop (u + 1)).map tx)) := by rw [upd_same, hc2]
      have lp : (prsAt css u).length = css.length - (u + 1) := by unfold prsAt; simp
      have lr : ((List.range u).flatMap (prsAt css)).length ≤ 100 := by
        have : ∀ n, n ≤ 10 → ((List.range n).flatMap (prsAt css)).length ≤ n * 10 := by
          intro n
          induction n with
          | zero => intro _; simp
          | succ n ih =>
            intro hn
            rw [List.range_succ, List.flatMap_append, List.length_append]
            have h1 := ih (by omega)
            have h2 : ([n].flatMap (prsAt css)).length ≤ 10 := by
              have : (prsAt css n).length ≤ 10 := by unfold prsAt; simp; omega
              simpa using this
            omega
        have := this u (by omega)
        omega
      have pD : p2 ≠ D := fun e => by rw [e, sT _ _ hD] at n2; cases n2
      refine ⟨p2, rfl, ⟨_, SqT.of hP2⟩, R1.walk_it (walk_tup (xs := (css.drop (u + 1)).map tx)) (fun v H3 => Kp D (upd (upd H2 Tt (.tup [.int (u : Int), tx css[u]])) p2 (.tup (cutV (css.map tx) (some ((u : Int) + 1)) none))) H3 ∧ Same H H3 ∧ ∃ acc, H3 D = some (.lst acc) ∧ R1.Al (IsPr H3) acc ((List.range u).flatMap (prsAt css) ++ (prsAt css u).take v)) ⟨Kp.refl _ _, s4, acc, s5 _ _ hD, by simpa using hB.mono fun x r h => h.same s5⟩ (fun v H3 _ h => SqT.of (h.1 _ _ pD hP2)) ?_ ?_⟩
      · rintro v x _ H3 hv ⟨k3, sm3, acc3, hD3, hA3⟩ ⟨rfl, hx⟩
        have hv' : v < (css.drop (u + 1)).length := by simpa using hv
        have g2 : (css.drop (u + 1))[v]? = some (css.drop (u + 1))[v] := List.getElem?_eq_getElem hv'
        rw [List.getElem?_map, g2] at hx
        obtain rfl : x = tx (css.drop (u + 1))[v] := (Option.some.inj hx).symm
        have gp : (prsAt css u)[v]? = some (css[u], (css.drop (u + 1))[v]) := by
          unfold prsAt
          rw [List.getElem?_map, g2]
          simp [List.getD, g1]
        have et : (prsAt css u).take (v + 1) = (prsAt css u).take v ++ [(css[u], (css.drop (u + 1))[v])] := by rw [List.take_add_one, gp]; rfl
        have la : acc3.length ≤ 1000 := by
          have := hA3.1
          rw [List.length_append, List.length_take] at this
          omega
        refine ⟨rfl, _, rfl, _, rfl, Nat.le_of_lt (small1000 (by simp)), fun pt nt => ?_⟩
        have sP : Same H3 (upd H3 pt (.tup [tx css[u], tx (css.drop (u + 1))[v]])) := same_upd nt
        have hD4 := sP _ _ hD3
        refine ⟨acc3, hD4, small1000 la, k3.trans (Same.kp sP).put, Same.mut (sm3.trans sP) nD, _, upd_same, ?_⟩
        rw [et, ← List.append_assoc]
        refine R1.Al.snoc (hA3.mono fun x r h => IsPr.kp (D := D) ((Kp.refl _ _).put) hD4 (h.same sP)) ⟨pt, rfl, ?_⟩
        rw [upd_ne (fun e => by rw [e, hD3] at nt; cases nt), upd_same]
      · rintro H3 ⟨k3, sm3, acc3, hD3, hA3⟩
        refine ⟨sm3, acc3, hD3, ?_⟩
        rw [List.length_map, List.length_drop, ← lp, List.take_length] at hA3
        rw [List.range_succ, List.flatMap_append]
        simpa using hA3
    · rintro H2 ⟨sm2, acc, hD, hB⟩
      rw [lsz] at hB
      exact q D acc H2 sm2 nD hD hB
end
end K0

namespace K0
open PySem PySem.Spec PyProof.Rows L2
def inCells (n : Nat) (s : Int) (t : List Int) : Bool := (cellsN n).any fun c => decide ((c.1 : Int) = s) && decide (ivals c.2 = t)
def cellB (n : Nat) (s : Int) (t : List Int) : Bool := (decide (1 ≤ s) && decide (s ≤ 3)) && ((decide (t.length = n) && mOk t) && decide (R0.maxL (-1) t + 1 ≤ s))
theorem vInt_map (t : List Int) : (t.map V.int).map vInt = t := by
  rw [List.map_map]
  exact List.map_id' t
theorem isI_map : ∀ t : List Int, (t.map V.int).all isI = true
  | [] => rfl
  | _ :: r => isI_map r
theorem isCell_B (n : Nat) (s : Int) (t : List Int) : isCell (.int s) (some (t.map V.int)) n = cellB n s t := by
  show ((true && (decide (1 ≤ s) && decide (s ≤ 3))) && (isPart (t.map V.int) n && decide (R0.maxL (-1) ((t.map V.int).map vInt) + 1 ≤ s))) = _
  unfold cellB isPart
  rw [vInt_map, isI_map, List.length_map, Bool.true_and, Bool.true_and]
theorem cell_in : ∀ n, n ≤ 3 → ∀ m, (m = n ∨ m = (n + 1) % 4) → ∀ t ∈ tups m, ∀ s ∈ ([-1, 0, 1, 2, 3, 4] : List Int), cellB n s t = inCells n s t := by
  have : (List.range 4).all (fun n => [n, (n + 1) % 4].all fun m => (tups m).all fun t => ([-1, 0, 1, 2, 3, 4] : List Int).all fun s => decide (cellB n s t = inCells n s t)) = true := by decide +kernel
  intro n hn m hm t ht s hs
  have h1 := List.all_eq_true.mp this n (List.mem_range.mpr (by omega))
  have h2 := List.all_eq_true.mp h1 m (by rcases hm with rfl | rfl <;> simp)
  exact of_decide_eq_true (List.all_eq_true.mp (List.all_eq_true.mp h2 t ht) s hs)
end K0


namespace R1
open PySem PySem.Spec PyProof.Rows L2
theorem _root_.L2.Room.units65 {k : Nat} {A : Around} (r : Room k A) : A.units + 65 < cLine := by have := r.un; omega
theorem pe_bmK {X : Cx} {K : PySem.W.Frag} {T : String} {name : Str} {id : String} {r : V → List V → Hp → VK → Prop} {o e : Expr} {es : List Expr} {to : TE} {t : TA} {apos cpos : Pos} (hK : X.K = K) (pa : PlainAttrs T) (slot : Slot T name id) (hty : typeOf (.builtin id) = pure (.type "method_descriptor")) (hm : MtR X id r) (ho : PE X o to) (ha : PA X (e :: es) t)
    (hbase : attributeBase o name X.env (eval o X.env) = eval o X.env := by rfl)
    (hfew : ((backTo cpos (starEach (e :: es) X.env)).all (fun x => !x.1) && (backToKw cpos (keywordEach [] X.env)).all (fun x => x.1.isSome)
      && decide ((e :: es).length + ([] : List Keyword).length + (if ([] : List Keyword).isEmpty then 0 else 1) < 30)) = true := by rfl)
    (hline : (apos.endLine == cpos.line) = true := by rfl) (hs : starEach (e :: es) X.env = (false, eval e X.env) :: starEach es X.env := by rfl) (hplain : (backTo cpos (starEach es X.env)).any (·.1) = false := by rfl) :
    PE X (.Call (.Attribute o name apos) (e :: es) [] cpos) (tBM K T r to t) := by subst hK; exact pe_bm pa slot hty hm ho ha hbase hfew hline hs hplain
theorem mt_indexDK {X : Cx} {K : PySem.W.Frag} (hK : X.K = K) (hu : X.A.units + 65 < cLine) : MtR X "list.index" (rIndexD K) := by subst hK; exact mt_indexD hu
end R1
namespace K0
open PySem PySem.Spec PyProof.Rows L2
section
variable {P : Program} {w : World} {K : PySem.W.Frag} {mg : Str → Option Value} {base : Heap} {a : Ad} {fI : Addr} {dI : FuncData}
theorem pos_get {κ : Type} [DecidableEq κ] : ∀ (js : List κ) (k : κ), k ∈ js → js[pos js k]? = some k
  | j :: r, k, h => by
    by_cases e : j = k
    · subst e; simp [pos]
    · have hk : k ∈ r := by
        rcases List.mem_cons.mp h with z | z
        · exact absurd z.symm e
        · exact z
      have hp : pos (j :: r) k = pos r k + 1 := by simp [pos, e]
      rw [hp, List.getElem?_cons_succ]
      exact pos_get r k hk
theorem pos_lt {κ : Type} [DecidableEq κ] : ∀ (js : List κ) (k : κ) (m : Nat) (z : κ), m < pos js k → js[m]? = some z → z ≠ k
  | [], k, m, z, h, g => by simp at g
  | j :: r, k, 0, z, h, g => by
    have : j = z := by simpa using g
    intro e
    rw [this, e] at h
    simp [pos] at h
  | j :: r, k, m + 1, z, h, g => by
    by_cases e : j = k
    · subst e; simp [pos] at h
    · have hp : pos (j :: r) k = pos r k + 1 := by simp [pos, e]
      rw [hp] at h
      exact pos_lt r k m z (by omega) (by simpa using g)
/-- keys of one kind, as data -/
structure Kd (K : PySem.W.Frag) {κ : Type} [DecidableEq κ] (R : Hp → V → κ → Prop) (enc : κ → PyData) : Prop where
  dp : ∀ H x k, R H x k → Dp K H x (enc k)
  same : ∀ H H' x k, Same H H' → R H x k → R H' x k
  kp : ∀ H H' D l x k, Kp D H H' → H D = some (.lst l) → R H x k → R H' x k
  eq : ∀ j k, PyData.eqv (enc j) (enc k) = decide (j = k)
  lay : ∀ k, (enc k).canLay0 = true ∧ (enc k).depth ≤ 5
theorem dpall {κ : Type} [DecidableEq κ] {R : Hp → V → κ → Prop} {enc : κ → PyData} (D : Kd K R enc) {H : Hp} : ∀ {xs : List V} {ks : List κ}, xs.length = ks.length → (∀ (i : Nat) x k, xs[i]? = some x → ks[i]? = some k → R H x k) → DpAll K H xs (ks.map enc)
  | [], [], _, _ => .nil
  | x :: xs, k :: ks, h, f => .cons (D.dp H x k (f 0 x k rfl rfl)) (dpall D (Nat.succ.inj h) fun i y j a b => f (i + 1) y j (by simpa using a) (by simpa using b))
theorem lay_all {κ : Type} [DecidableEq κ] {R : Hp → V → κ → Prop} {enc : κ → PyData} (D : Kd K R enc) : ∀ ks : List κ, PyData.canLayAll0 (ks.map enc) = true ∧ PyData.depthAll (ks.map enc) ≤ 5
  | [] => ⟨rfl, by simp [PyData.depthAll]⟩
  | k :: r => by
    obtain ⟨h1, h2⟩ := D.lay k
    obtain ⟨h3, h4⟩ := lay_all D r
    refine ⟨?_, ?_⟩
    · rw [List.map_cons, PyData.canLayAll0, h1, h3]; rfl
    · rw [List.map_cons, PyData.depthAll]
      exact Nat.max_le.mpr ⟨h2, h4⟩
theorem shaped_l {κ : Type} [DecidableEq κ] {R : Hp → V → κ → Prop} {enc : κ → PyData} (D : Kd K R enc) (ks : List κ) : SeqAt.shaped (.list (ks.map enc)) = true := by
  obtain ⟨h1, h2⟩ := lay_all D ks
  have : PyData.depth (.list (ks.map enc)) ≤ 64 := by simp only [PyData.depth]; omega
  show (PyData.canLay0 (.list (ks.map enc)) && decide (PyData.depth (.list (ks.map enc)) ≤ 64)) = true
  rw [Bool.and_eq_true]
  exact ⟨by simp only [PyData.canLay0]; exact h1, decide_eq_true this⟩
theorem shaped_1 {κ : Type} [DecidableEq κ] {R : Hp → V → κ → Prop} {enc : κ → PyData} (D : Kd K R enc) (k : κ) : SeqAt.shaped (enc k) = true := by
  obtain ⟨h1, h2⟩ := D.lay k
  show (PyData.canLay0 (enc k) && decide (PyData.depth (enc k) ≤ 64)) = true
  rw [Bool.and_eq_true]
  exact ⟨h1, decide_eq_true (by omega)⟩
theorem any_enc {κ : Type} [DecidableEq κ] {R : Hp → V → κ → Prop} {enc : κ → PyData} (D : Kd K R enc) (js : List κ) (k : κ) : ((js.map enc).any fun z => PyData.eqv z (enc k)) = decide (k ∈ js) := by
  rw [Bool.eq_iff_iff, List.any_eq_true, decide_eq_true_eq]
  constructor
  · rintro ⟨z, hz, h⟩
    obtain ⟨j, hj, rfl⟩ := List.mem_map.mp hz
    rw [D.eq] at h
    rw [← of_decide_eq_true h]; exact hj
  · intro h
    exact ⟨enc k, List.mem_map.mpr ⟨k, h, rfl⟩, by rw [D.eq]; exact decide_eq_true rfl⟩
def spMarkedL (K : PySem.W.Frag) {κ : Type} [DecidableEq κ] (R : Hp → V → κ → Prop) : Sp := fun vs H Q _ => ∃ (p : Addr) (xs : List V) (ks : List κ), vs = [.ref p] ∧ SqL K H p xs ∧ R1.Al (R H) xs ks ∧ ks.length ≤ 100 ∧ ∀ r H', H r = none → Same H H' → H' r = some (.tup (nvals (marksOf ks))) → Q (.ref r) H'
theorem ok_markedL {κ : Type} [DecidableEq κ] {R : Hp → V → κ → Prop} {enc : κ → PyData} (T : Top K mg a) (D : Kd K R enc) : FnOk P w K mg base CX0 1 a.f_l_marked a.d_l_marked ["_law_keys"] (spMarkedL K R) := by
  refine T.F_l_marked.ok sc_l_marked (fun vs H Q E h => ?_) (fun cdv A outer s H vs Q E hr h => ?_)
  · obtain ⟨x, b, c, rfl, _⟩ := h
    rfl
  · obtain ⟨p, xs, ks, rfl, hS, hA, hl, q⟩ := h
    refine ⟨_, (pss_cons (ps_set (i := 1) sc_l_marked.nd rfl (.inr rfl) (pe_lst pa_nil))
    (pss_cons (ps_for PassesOwn.never rfl (R1.PI.or (pi_list (pv 0)) (pi_tup (pv 0))) (pg_name (i := 2) sc_l_marked.nd rfl (.inl rfl))
      (pss_one (ps_if (pt_cmpR (op_notInD hr.units65) (pv 2) (pv 1) rfl)
        (pss_one (ps_expr (pe_bm PySem.F.plainAttrs_list PySem.F.slot_list_append PySem.F.type_list_append mt_append (pv 1) (pa_cons (pv 2) pa_nil))))
        pss_nil)))
    (pss_one (ps_ret (pe_callTy call_tuple_of (by rfl) T.z_tuple (by decide +kernel) (pa_cons (pe_lc (own := [("_law_key", 2)]) rfl sc_l_marked.nd (R1.PI.or (pi_list (pv 0)) (pi_tup (pv 0))) (blkOk_by (own := [("_law_key", 2)]) (N := ["_law_keys", "_law_firsts", "_law_key"]) (sc := defScope s_l_marked) (by decide +kernel)) (fun _ _ _ _ _ => (pg_name (i := 2) sc_l_marked.nd rfl (.inl rfl))) (fun _ _ _ _ _ => pts_nil) (fun _ _ _ _ _ => (R1.pe_bmK (K := K) rfl PySem.F.plainAttrs_list PySem.F.slot_list_index PySem.F.type_list_index (R1.mt_indexDK (K := K) rfl hr.units65) (pv 1) (pa_cons (pv 2) pa_nil)))) pa_nil)))))), ?_⟩
    have lx : xs.length = ks.length := hA.1
    refine ⟨Nat.zero_le _, fun F nF => ?_⟩
    refine .inl ⟨.ref p, rfl, p, rfl, ⟨xs, Same.seq (same_upd nF) hS⟩, for_it (walk_list (xs := xs)) (fun u σ' H' => ∃ acc y2, σ' = [some (.ref p), some (.ref F), y2] ∧ Same H H' ∧ H' F = some (.lst acc) ∧ R1.Al (R H') acc (fst1 [] (ks.take u))) ⟨[], none, rfl, same_upd nF, upd_same, R1.Al.nil⟩ ?_ ?_ ?_⟩
    · rintro u σ' H' _ ⟨_, _, _, sm, _⟩
      exact sm.seq hS
    · rintro u x σ' _ H1 hu ⟨acc, y2, rfl, sm, hF, hB⟩ ⟨rfl, hx⟩
      obtain ⟨k, hk, hR⟩ := hA.at hx
      have hR1 := D.same _ _ _ _ sm hR
      have et : ks.take (u + 1) = ks.take u ++ [k] := by rw [List.take_add_one, hk]; rfl
      have fl : (fst1 [] (ks.take u)).length ≤ 100 := by
        have := fst1_len [] (ks.take u)
        rw [List.length_take] at this
        simp at this
        omega
      have hdl := dpall D hB.1 hB.2
      refine ⟨x, rfl, .ref F, rfl, enc k, _, D.dp _ _ _ hR1, .lst (SqL.of hF) hdl, shaped_1 D k, shaped_l D _, _, rfl, ?_⟩
      rw [any_enc D]
      by_cases hm : k ∈ fst1 [] (ks.take u)
      · rw [decide_eq_true hm]
        refine iteF ⟨acc, _, rfl, sm, hF, ?_⟩
        rw [et, fst1_snoc, if_pos hm]
        exact hB
      · rw [decide_eq_false hm]
        refine iteT ⟨.ref F, rfl, .inl ⟨rfl, acc, SqL.of hF⟩, x, rfl, F, acc, x, rfl, rfl, hF, small1000 (by rw [hB.1]; omega), _, _, rfl, Same.mut sm nF, upd_same, ?_⟩
        rw [et, fst1_snoc, if_neg hm]
        exact R1.Al.snoc (hB.mono fun y j h => D.kp _ _ F _ _ _ ((Kp.refl _ _).put) hF h) (D.kp _ _ F _ _ _ ((Kp.refl _ _).put) hF hR1)
    · rintro σ' H1 ⟨acc, y2, rfl, sm, hF, hB⟩
      rw [lx, List.take_length] at hB
      have fl : (fst1 [] ks).length ≤ 100 := by
        have := fst1_len [] ks
        simp at this
        omega
      refine .inl ⟨.ref p, rfl, p, rfl, ⟨xs, sm.seq hS⟩, fun G nG => lc_it (walk_list (xs := xs)) (fun u H2 => Same H1 H2 ∧ H2 G = some (.lst (nvals ((ks.take u).map (pos (fst1 [] ks)))))) ⟨Same.mut (Same.refl _) nG, upd_same⟩ (fun u H2 _ h => (sm.trans h.1).seq hS) ?_ ?_⟩
      · rintro u x _ H2 hu ⟨sm2, hG⟩ ⟨rfl, hx⟩
        obtain ⟨k, hk, hR⟩ := hA.at hx
        have hR2 := D.same _ _ _ _ (sm.trans sm2) hR
        have et : ks.take (u + 1) = ks.take u ++ [k] := by rw [List.take_add_one, hk]; rfl
        have hm : k ∈ fst1 [] ks := fst1_mem [] ks k (List.mem_of_getElem? hk)
        have hF2 := sm2 _ _ hF
        have hB2 := hB.mono fun y j h => D.same _ _ _ _ sm2 h
        have hdl := dpall D hB2.1 hB2.2
        refine ⟨rfl, .ref F, rfl, .inl ⟨rfl, acc, SqL.of hF2⟩, x, rfl, F, x, enc k, _, pos (fst1 [] ks) k, enc k, rfl, rfl, .lst (SqL.of hF2) hdl, D.dp _ _ _ hR2, shaped_l D _, shaped_1 D k, ?_, ?_, ?_, _, hG, ?_, Same.mut sm2 nG, ?_⟩
        · rw [List.getElem?_map, pos_get _ _ hm]; rfl
        · rw [D.eq]; exact decide_eq_true rfl
        · intro m z hlt hz
          rw [List.getElem?_map] at hz
          cases e : (fst1 [] ks)[m]? with
          | none => rw [e] at hz; cases hz
          | some j =>
            rw [e] at hz
            obtain rfl : z = enc j := (Option.some.inj hz).symm
            rw [D.eq]
            exact decide_eq_false (pos_lt _ _ m j hlt e)
        · unfold nvals
          rw [List.length_map, List.length_map, List.length_take]
          exact small1000 (by omega)
        · rw [upd_same, et, List.map_append]
          unfold nvals
          rw [List.map_append]
          rfl
      · rintro H2 ⟨sm2, hG⟩
        rw [lx, List.take_length] at hG
        exact ⟨G, _, rfl, .inl ⟨SqL.of hG, fun l nl => q l _ ((sm.trans sm2).free nl) ((sm.trans sm2).trans (same_upd nl)) upd_same⟩⟩
end
end K0

namespace K0
open PySem PySem.Spec PyProof.Rows L2
section
variable {K : PySem.W.Frag}
/-- keys that are ints -/
theorem kdI : Kd K (fun _ x (k : Int) => x = V.int k) PyData.int where
  dp := fun H x k e => by subst e; exact .int k
  same := fun _ _ _ _ _ e => e
  kp := fun _ _ _ _ _ _ _ _ e => e
  eq := fun j k => by
    simp only [PyData.eqv]
    rw [Bool.eq_iff_iff, beq_iff_eq, decide_eq_true_eq]
  lay := fun k => ⟨rfl, by simp [PyData.depth]⟩
/-- keys that are tuples of ints -/
theorem kdT : Kd K (IsTupI K) (fun k => PyData.tuple (k.map PyData.int)) where
  dp := fun H x k h => by
    obtain ⟨b, rfl, h⟩ := h
    exact .tup h (dp_ints k)
  same := fun _ _ _ _ s h => h.same s
  kp := fun _ _ D l _ _ k h r => r.kp k h
  eq := fun j k => by rw [PyData.eqv, eqv_ints]
  lay := fun k => ⟨by simp only [PyData.canLay0]; exact PySem.W.ke_canLayAll0 k, by simp only [PyData.depth, PySem.W.ke_depthAll]; omega⟩
/-- keys that are texts -/
theorem kdS : Kd K (fun _ x (k : { s : Str // PyData.canLay0 (.str s) = true }) => x = V.str k.1) (fun k => PyData.str k.1) where
  dp := fun H x k e => by subst e; exact .str _
  same := fun _ _ _ _ _ e => e
  kp := fun _ _ _ _ _ _ _ _ e => e
  eq := fun j k => by
    simp only [PyData.eqv]
    rw [Bool.eq_iff_iff, beq_iff_eq, decide_eq_true_eq, Subtype.ext_iff]
  lay := fun k => ⟨k.2, by simp [PyData.depth]⟩
end
end K0

namespace K0
open PySem PySem.Spec PyProof.Rows L2
section
variable {α β : Type} [DecidableEq α] [DecidableEq β] {f : α → β}
theorem fst1_map (hf : ∀ x y, f x = f y → x = y) : ∀ (acc l : List α), fst1 (acc.map f) (l.map f) = (fst1 acc l).map f
  | acc, [] => rfl
  | acc, k :: r => by
    have hm : (f k ∈ acc.map f) ↔ k ∈ acc := by
      rw [List.mem_map]
      exact ⟨fun ⟨x, hx, e⟩ => hf _ _ e ▸ hx, fun h => ⟨k, h, rfl⟩⟩
    show (if f k ∈ acc.map f then fst1 (acc.map f) (r.map f) else fst1 (acc.map f ++ [f k]) (r.map f)) = (if k ∈ acc then fst1 acc r else fst1 (acc ++ [k]) r).map f
    by_cases h : k ∈ acc
    · rw [if_pos h, if_pos (hm.mpr h)]
      exact fst1_map hf acc r
    · rw [if_neg h, if_neg (fun z => h (hm.mp z))]
      have := fst1_map hf (acc ++ [k]) r
      rw [List.map_append] at this
      exact this
theorem pos_map (hf : ∀ x y, f x = f y → x = y) : ∀ (js : List α) (k : α), pos (js.map f) (f k) = pos js k
  | [], _ => rfl
  | j :: r, k => by
    show (if f j = f k then 0 else pos (r.map f) (f k) + 1) = if j = k then 0 else pos r k + 1
    by_cases h : j = k
    · rw [if_pos h, if_pos (by rw [h])]
    · rw [if_neg h, if_neg (fun z => h (hf _ _ z)), pos_map hf r k]
theorem marksOf_map (hf : ∀ x y, f x = f y → x = y) (ks : List α) : marksOf (ks.map f) = marksOf ks := by
  unfold marksOf
  have := fst1_map hf [] ks
  rw [List.map_nil] at this
  rw [this, List.map_map]
  refine List.map_congr_left fun k _ => ?_
  exact pos_map hf _ k
end
section
variable {P : Program} {w : World} {K : PySem.W.Frag} {mg : Str → Option Value} {base : Heap} {a : Ad}
/-- the program's marked, over keys of one kind -/
def spMarkG (K : PySem.W.Frag) {κ : Type} [DecidableEq κ] (R : Hp → V → κ → Prop) : Sp := fun vs H Q _ => ∃ (p : Addr) (xs : List V) (ks : List κ), vs = [.ref p] ∧ (SqL K H p xs ∨ SqT K H p xs) ∧ R1.Al (R H) xs ks ∧ ks.length ≤ 1000 ∧ ∀ r H', H r = none → Same H H' → H' r = some (.tup (nvals (marksOf ks))) → Q (.ref r) H'
theorem al_eq {α : Type} {g : α → V} : ∀ {xs : List V} {ks : List α}, xs.length = ks.length → (∀ (i : Nat) x k, xs[i]? = some x → ks[i]? = some k → x = g k) → xs = ks.map g
  | [], [], _, _ => rfl
  | x :: xs, k :: ks, h, f => by
    rw [List.map_cons, f 0 x k rfl rfl, ← al_eq (Nat.succ.inj h) fun i y j a b => f (i + 1) y j (by simpa using a) (by simpa using b)]
theorem markG_key {κ : Type} [DecidableEq κ] {f : κ → Key} (hf : ∀ x y, f x = f y → x = y) (F : FnOk P w K mg base CX0 1 a.f_marked a.d_marked ["keys"] (spMarkK K)) : FnOk P w K mg base CX0 1 a.f_marked a.d_marked ["keys"] (spMarkG K fun _ x (k : κ) => x = kV (f k)) :=
  F.imp fun vs H Q E ⟨p, xs, ks, e, hS, hA, hl, q⟩ => by
    have ex : xs = (ks.map f).map kV := by
      rw [List.map_map]
      exact al_eq (g := kV ∘ f) hA.1 hA.2
    exact ⟨p, ks.map f, e, by rw [← ex]; exact hS, by simpa using hl, fun r H' nr s h => q r H' nr s (by rw [h, marksOf_map hf])⟩
def refA (d : Addr) : V → Addr
  | .ref b => b
  | _ => d
def IsTupD (H : Hp) (x : V) (k : List Int) : Prop := ∃ b, x = V.ref b ∧ H b = some (.tup (k.map V.int))
theorem map_inl_inj : ∀ x y : List Int, x.map (Sum.inl : Int → Key) = y.map Sum.inl → x = y
  | [], [], _ => rfl
  | [], _ :: _, h => by cases h
  | _ :: _, [], h => by cases h
  | a :: r, b :: t, h => by
    rw [List.map_cons, List.map_cons] at h
    injection h with h1 h2
    rw [Sum.inl.inj h1, map_inl_inj r t h2]
theorem markG_tup (F : FnOk P w K mg base CX0 1 a.f_marked a.d_marked ["keys"] (spMarkT K)) : FnOk P w K mg base CX0 1 a.f_marked a.d_marked ["keys"] (spMarkG K IsTupD) :=
  F.imp fun vs H Q E ⟨p, xs, ks, e, hS, hA, hl, q⟩ => by
    have ex : xs = (xs.map (refA p)).map V.ref := by
      apply List.ext_getElem?
      intro i
      rw [List.getElem?_map, List.getElem?_map]
      cases hx : xs[i]? with
      | none => rfl
      | some x =>
        obtain ⟨k, _, b, rfl, _⟩ := hA.at hx
        rfl
    refine ⟨p, xs.map (refA p), ks.map fun k => k.map Sum.inl, e, by rw [← ex]; exact hS, by simpa using hA.1, fun i b k hb hk => ?_, by simpa using hl, fun r H' nr s h => q r H' nr s (by rw [h, marksOf_map map_inl_inj])⟩
    rw [List.getElem?_map] at hb hk
    cases hx : xs[i]? with
    | none => rw [hx] at hb; cases hb
    | some x =>
      rw [hx] at hb
      cases hj : ks[i]? with
      | none => rw [hj] at hk; cases hk
      | some j =>
        rw [hj] at hk
        obtain ⟨c, rfl, hc⟩ := hA.2 i x j hx hj
        obtain rfl : c = b := Option.some.inj hb
        obtain rfl : j.map Sum.inl = k := Option.some.inj hk
        rw [hc, List.map_map]
        rfl
end
end K0

/-! what stands alike -/
namespace K0
open PySem PySem.Spec PyProof.Rows L2
section
variable {K : PySem.W.Frag} {H : Hp}
theorem sm_int (n : Nat) (i : Int) : Sm K (n + 1) H (.int i) (.int i) := .int i
theorem sm_tup {n : Nat} {p q : Addr} {ns : List Int} (hp : SqT K H p (ns.map V.int)) (hq : SqT K H q (ns.map V.int)) (hl : ns.length ≤ 1000000) : Sm K (n + 2) H (.ref p) (.ref q) :=
  .tup hp hq rfl (by simpa using hl) fun i x y hx hy => by
    rw [hx] at hy
    cases hy
    rw [List.getElem?_map] at hx
    cases e : ns[i]? with
    | none => rw [e] at hx; cases hx
    | some k =>
      rw [e] at hx
      obtain rfl : x = .int k := (Option.some.inj hx).symm
      exact sm_int n k
/-- two lists, item by item of one row -/
theorem sm_lst {α : Type} {R S : V → α → Prop} {n : Nat} {p q : Addr} {xs ys : List V} {rs : List α} (hp : SqL K H p xs) (hq : SqL K H q ys) (hA : R1.Al R xs rs) (hB : R1.Al S ys rs) (hl : rs.length ≤ 1000000) (h : ∀ x y r, r ∈ rs → R x r → S y r → Sm K n H x y) : Sm K (n + 1) H (.ref p) (.ref q) :=
  .lst hp hq (hA.1.trans hB.1.symm) (by rw [hA.1]; exact hl) fun i x y hx hy => by
    obtain ⟨r, hr, h1⟩ := hA.at hx
    exact h x y r (List.mem_of_getElem? hr) h1 (hB.2 i y r hy hr)
theorem sm_isTup {n : Nat} {x y : V} {ms : List Nat} (h1 : IsTup K H x ms) (h2 : IsTup K H y ms) (hl : ms.length ≤ 1000000) : Sm K (n + 2) H x y := by
  obtain ⟨b, rfl, h1⟩ := h1
  obtain ⟨c, rfl, h2⟩ := h2
  rw [nvals_i] at h1 h2
  exact sm_tup h1 h2 (by unfold ivals; simpa using hl)
theorem sm_isCell {n : Nat} {x y : V} {c : Nat × List Nat} (h1 : IsCell K H x c) (h2 : IsCell K H y c) (hl : c.2.length ≤ 1000000) : Sm K (n + 3) H x y := by
  obtain ⟨p, b, rfl, h1, h3⟩ := h1
  obtain ⟨q, d, rfl, h2, h4⟩ := h2
  refine .tup h1 h2 rfl (by simp) fun i x y hx hy => ?_
  match i, hx, hy with
  | 0, hx, hy =>
    cases hx; cases hy
    exact sm_int _ _
  | 1, hx, hy =>
    cases hx; cases hy
    exact sm_isTup ⟨b, rfl, h3⟩ ⟨d, rfl, h4⟩ hl
  | i + 2, hx, _ => simp at hx
end
end K0


namespace K0
open PySem PySem.Spec PyProof.Rows L2
section
variable {P : Program} {w : World} {K : PySem.W.Frag} {mg : Str → Option Value} {base : Heap} {a : Ad}
/-- a name with its mark -/
def IsNm (H : Hp) (x : V) (p : List Nat × Nat) : Prop := ∃ b, x = V.ref b ∧ H b = some (.tup [tx p.1, .int (p.2 : Int)])
def encNm (p : List Nat × Nat) : PyData := .tuple [.str ⟨p.1.toArray⟩, .int (p.2 : Int)]
theorem IsNm.same {H H' : Hp} {x : V} {p : List Nat × Nat} (k : Same H H') (h : IsNm H x p) : IsNm H' x p := by
  obtain ⟨b, e, h⟩ := h
  exact ⟨b, e, k _ _ h⟩
theorem IsNm.kp {D : Addr} {H H' : Hp} {l : List V} {x : V} {p : List Nat × Nat} (k : Kp D H H') (hD : H D = some (.lst l)) (h : IsNm H x p) : IsNm H' x p := by
  obtain ⟨b, e, h⟩ := h
  exact ⟨b, e, k _ _ (fun e => by rw [e, hD] at h; cases h) h⟩
theorem dpNm {H : Hp} : ∀ {xs : List V} {ps : List (List Nat × Nat)}, xs.length = ps.length → (∀ (i : Nat) x p, xs[i]? = some x → ps[i]? = some p → IsNm H x p) → DpAll K H xs (ps.map encNm)
  | [], [], _, _ => .nil
  | x :: xs, p :: ps, h, f => by
    obtain ⟨b, rfl, hb⟩ := f 0 x p rfl rfl
    exact .cons (.tup (SqT.of hb) (.cons (.str _) (.cons (.int _) .nil))) (dpNm (Nat.succ.inj h) fun i y j a b => f (i + 1) y j (by simpa using a) (by simpa using b))
def renP (g : List Nat → List Nat) (css : List (List Nat)) (ms : List Nat) : List (List Nat × Nat) := (css.zip ms).map fun p => (g p.1, p.2)
def renL (g : List Nat → List Nat) (css : List (List Nat)) (ms : List Nat) : List Nat := marksOf (((R1.sortK encNm (renP g css ms)).map Prod.snd).map fun (n : Nat) => (n : Int))
def spRenM (K : PySem.W.Frag) : Sp := fun vs H Q _ => ∃ (n0 m0 d0 : Addr) (css : List (List Nat)) (ms : List Nat) (kvs : List (Key × V)) (g : List Nat → List Nat), vs = [.ref n0, .ref m0, .ref d0] ∧ SqT K H n0 (css.map tx) ∧ SqT K H m0 (nvals ms) ∧ css.length = ms.length ∧ css.length ≤ 50 ∧ H d0 = some (.dK kvs) ∧
  (∀ c ∈ css, (valV kvs (.inr ⟨c.toArray⟩)).getD (tx c) = tx (g c)) ∧ ∀ r H', H r = none → Same H H' → H' r = some (.tup (nvals (renL g css ms))) → Q (.ref r) H'
theorem ok_renM (T : Top K mg a) (G_marked : FnOk P w K mg base CX0 1 a.f_marked a.d_marked ["keys"] (spMarkG K fun _ x (k : Int) => x = kV (Sum.inl k))) : FnOk P w K mg base CX0 2 a.f_renamed_marks a.d_renamed_marks ["names", "marks", "mapping"] (spRenM K) := by
  refine T.F_renamed_marks.ok sc_renamed_marks (fun vs H Q E h => ?_) (fun cdv A outer s H vs Q E hr h => ?_)
  · obtain ⟨_, _, _, _, _, _, _, rfl, _⟩ := h
    rfl
  · obtain ⟨n0, m0, d0, css, ms, kvs, g, rfl, hN, hM, hl, hl5, hD0, hg, q⟩ := h
    refine ⟨_, (pss_cons (ps_set (i := 3) sc_renamed_marks.nd rfl (.inl rfl) (pe_callB (R0.cr_sortD hr.units) (by rfl) T.z_sorted (by decide +kernel) (pa_cons (pe_lc (own := [("name", 4), ("mark", 5)]) rfl sc_renamed_marks.nd (RZ.pi_zipA (by rfl) T.z_zip (pa_cons (pv 0) (pa_cons (pv 1) pa_nil))) (blkOk_by (own := [("name", 4), ("mark", 5)]) (N := ["names", "marks", "mapping", "renamed", "name", "mark", "_"]) (sc := defScope s_renamed_marks) (by decide +kernel)) (fun _ _ _ _ _ => (R1.pg_tupK (K := K) (n := 2) rfl rfl (pgs_cons (pg_name (i := 4) sc_renamed_marks.nd rfl (.inl rfl)) (pgs_cons (pg_name (i := 5) sc_renamed_marks.nd rfl (.inl rfl)) pgs_nil)))) (fun _ _ _ _ _ => pts_nil) (fun _ _ _ _ _ => (pe_tup (pa_cons (pe_dget2 (hu_of hr) (pv 2) (pv 4) (pv 4) ⟨by rfl, by rfl, by rfl, by rfl⟩) (pa_cons (pv 5) pa_nil))))) pa_nil)))
    (pss_one (ps_ret (pe_call G_marked (hr.mono (by decide)) (by rfl) T.m_marked T.F_marked.kp T.b_marked .nil pass0 (pa_cons (pe_lc (own := [("_", 6), ("mark", 5)]) rfl sc_renamed_marks.nd (R1.PI.or (pi_list (pv 3)) (pi_tup (pv 3))) (blkOk_by (own := [("_", 6), ("mark", 5)]) (N := ["names", "marks", "mapping", "renamed", "name", "mark", "_"]) (sc := defScope s_renamed_marks) (by decide +kernel)) (fun _ _ _ _ _ => (R1.pg_tupK (K := K) (n := 2) rfl rfl (pgs_cons (pg_name (i := 6) sc_renamed_marks.nd rfl (.inl rfl)) (pgs_cons (pg_name (i := 5) sc_renamed_marks.nd rfl (.inl rfl)) pgs_nil)))) (fun _ _ _ _ _ => pts_nil) (fun _ _ _ _ _ => (pv 5))) pa_nil))))), ?_⟩
    have lp : (renP g css ms).length = css.length := by unfold renP; simp; omega
    refine ⟨.ref n0, rfl, .ref m0, rfl, n0, m0, _, _, rfl, .inr ⟨hN, hM, fun D nD => R1.walk_it (R1.walk_zipT (K := K) (a := n0) (b := m0) (xs := css.map tx) (ys := nvals ms) rfl) (fun u H2 => Same H H2 ∧ ∃ acc, H2 D = some (.lst acc) ∧ R1.Al (IsNm H2) acc ((renP g css ms).take u)) ⟨Same.mut (Same.refl _) nD, [], upd_same, R1.Al.nil⟩ (fun u H2 _ h => ⟨SameT h.1 hN, SameT h.1 hM⟩) ?_ ?_⟩⟩
    · rintro u x H2 H3 hu ⟨sm2, acc, hD, hB⟩ ⟨Tt, y, z, rfl, nT, rfl, hy, hz⟩
      have hlm : (nvals ms).length = ms.length := by unfold nvals; simp
      have hu' : u < css.length ∧ u < ms.length := by
        rw [List.length_map, hlm] at hu; omega
      have g1 : css[u]? = some css[u] := List.getElem?_eq_getElem hu'.1
      have g2 : ms[u]? = some ms[u] := List.getElem?_eq_getElem hu'.2
      have hy' : (css.map tx)[u]? = some y := hy
      have hz' : (nvals ms)[u]? = some z := hz
      unfold nvals at hz'
      rw [List.getElem?_map, g1] at hy'
      rw [List.getElem?_map, g2] at hz'
      cases hy'
      cases hz'
      have gp : (renP g css ms)[u]? = some (g css[u], ms[u]) := by
        unfold renP
        have gg : (css.zip ms)[u]? = some (css[u], ms[u]) := List.getElem?_zip_eq_some.mpr ⟨g1, g2⟩
        rw [List.getElem?_map, gg]; rfl
      have et : (renP g css ms).take (u + 1) = (renP g css ms).take u ++ [(g css[u], ms[u])] := by rw [List.take_add_one, gp]; rfl
      have sT : Same H2 (upd H2 Tt (.tup [tx css[u], .int (ms[u] : Int)])) := same_upd nT
      have sHT := sm2.trans sT
      have la : acc.length ≤ 1000 := by
        have := hB.1
        rw [List.length_take] at this
        omega
      refine ⟨Tt, _, rfl, SqT.of upd_same, rfl, _, _, rfl, _, _, rfl, rfl, rfl, ?_⟩
      refine ⟨.ref d0, rfl, d0, rfl, .inl ⟨kvs, .inl (sHT _ _ hD0)⟩, _, rfl, _, rfl, _, DGet.k (k := .inr ⟨css[u].toArray⟩) (sHT _ _ hD0), .int (ms[u] : Int), rfl, Nat.le_of_lt (small1000 (by simp)), fun pt nt => ?_⟩
      rw [hg css[u] (List.getElem_mem _)] at *
      have sP := sHT.trans (same_upd (o := .tup [tx (g css[u]), .int (ms[u] : Int)]) nt)
      have sP2 := sT.trans (same_upd (o := .tup [tx (g css[u]), .int (ms[u] : Int)]) nt)
      have hD4 := sP2 _ _ hD
      refine ⟨acc, hD4, small1000 la, Same.mut sP nD, _, upd_same, ?_⟩
      rw [et]
      refine R1.Al.snoc (hB.mono fun x r h => IsNm.kp (D := D) ((Kp.refl _ _).put) hD4 (h.same sP2)) ⟨pt, rfl, ?_⟩
      rw [upd_ne (fun e => by rw [e, sT _ _ hD] at nt; cases nt), upd_same]
    · rintro H2 ⟨sm2, acc, hD, hB⟩
      have hlm : (nvals ms).length = ms.length := by unfold nvals; simp
      rw [List.length_map, hlm, ← hl, Nat.min_self, ← lp, List.take_length] at hB
      have hk : ∀ d ∈ (renP g css ms).map encNm, ∃ p, d = encNm p := fun d hd => by
        obtain ⟨p, _, rfl⟩ := List.mem_map.mp hd
        exact ⟨p, rfl⟩
      refine ⟨D, acc, _, rfl, SqL.of hD, dpNm hB.1 hB.2, fun d hd d' hd' => ?_, .inl fun d hd => ?_, fun d hd => ?_, fun p np => ?_⟩
      · obtain ⟨_, rfl⟩ := hk d hd
        obtain ⟨_, rfl⟩ := hk d' hd'
        rfl
      · obtain ⟨_, rfl⟩ := hk d hd
        exact ⟨_, _, rfl⟩
      · obtain ⟨_, rfl⟩ := hk d hd
        simp [encNm, PyData.depth, PyData.depthAll]
      have s3 : Same H2 (upd H2 p (.lst (R0.sortV acc ((renP g css ms).map encNm)))) := same_upd np
      have hp : (upd H2 p (.lst (R0.sortV acc ((renP g css ms).map encNm)))) p = some (.lst (R0.sortV acc ((renP g css ms).map encNm))) := upd_same
      have hS := (R1.sort_al encNm hB).mono fun x r h => h.same s3
      have lk : (R1.sortK encNm (renP g css ms)).length = css.length := by unfold R1.sortK; rw [List.length_mergeSort, lp]
      obtain ⟨Hx, hHx⟩ : ∃ Hx, Hx = upd H2 p (.lst (R0.sortV acc ((renP g css ms).map encNm))) := ⟨_, rfl⟩
      rw [← hHx] at s3 hp hS ⊢
      obtain ⟨ys, hys⟩ : ∃ ys, ys = R0.sortV acc ((renP g css ms).map encNm) := ⟨_, rfl⟩
      rw [← hys] at hp hS
      obtain ⟨ns, hns⟩ : ∃ ns : List Int, ns = ((R1.sortK encNm (renP g css ms)).map Prod.snd).map fun (n : Nat) => (n : Int) := ⟨_, rfl⟩
      have ln : ns.length = css.length := by rw [hns]; simp [lk]
      have ly : ys.length = css.length := hS.1.trans lk
      have sX := sm2.trans s3
      refine .inl ⟨.ref p, rfl, p, rfl, ⟨_, SqL.of hp⟩, fun G nG => R1.walk_it (walk_list (xs := ys)) (fun u H3 => Same Hx H3 ∧ H3 G = some (.lst ((ns.take u).map V.int))) ⟨Same.mut (Same.refl _) nG, upd_same⟩ (fun u H3 _ h => h.1.seq (SqL.of hp)) ?_ ?_⟩
      · rintro u x _ H3 hu ⟨sm3, hG⟩ ⟨rfl, hx⟩
        obtain ⟨r, hr, b, rfl, hb⟩ := hS.at hx
        have gn : ns[u]? = some (r.2 : Int) := by
          rw [hns, List.getElem?_map, List.getElem?_map, hr]; rfl
        have et : ns.take (u + 1) = ns.take u ++ [(r.2 : Int)] := by rw [List.take_add_one, gn]; rfl
        refine ⟨b, _, rfl, SqT.of (sm3 _ _ hb), rfl, _, _, rfl, _, _, rfl, rfl, rfl, _, rfl, _, hG, ?_, Same.mut sm3 nG, ?_⟩
        · rw [List.length_map, List.length_take]
          exact small1000 (by omega)
        · rw [upd_same, et, List.map_append]; rfl
      · rintro H3 ⟨sm3, hG⟩
        rw [ly, ← ln, List.take_length] at hG
        refine ⟨G, ns.map V.int, ns, rfl, .inl (SqL.of hG), ⟨by simp, fun i x k hx hk => ?_⟩, by omega, fun r H4 nr s4 h4 => q r H4 ((sX.trans sm3).free nr) ((sX.trans sm3).trans s4) ?_⟩
        · rw [List.getElem?_map, hk] at hx
          exact (Option.some.inj hx).symm
        · rw [h4, hns]
          rfl
end
end K0


namespace K0
open PySem PySem.Spec PyProof.Rows L2
section
variable {P : Program} {w : World} {K : PySem.W.Frag} {mg : Str → Option Value} {base : Heap} {a : Ad}
def mtKeys (ms ks : List Nat) : List (List Int) := (ms.zip ks).map fun p => [(p.1 : Int), (p.2 : Int)]
def spMeet (K : PySem.W.Frag) : Sp := fun vs H Q _ => ∃ (a0 b0 : Addr) (ms ks : List Nat), vs = [.ref a0, .ref b0] ∧ SqT K H a0 (nvals ms) ∧ SqT K H b0 (nvals ks) ∧ ms.length = ks.length ∧ ms.length ≤ 1000 ∧ ∀ r H', H r = none → Same H H' → H' r = some (.tup (nvals (marksOf (mtKeys ms ks)))) → Q (.ref r) H'
theorem ok_meet (T : Top K mg a) (G_marked : FnOk P w K mg base CX0 1 a.f_marked a.d_marked ["keys"] (spMarkG K IsTupD)) : FnOk P w K mg base CX0 2 a.f_meet a.d_meet ["first", "second"] (spMeet K) := by
  refine T.F_meet.ok sc_meet (fun vs H Q E h => ?_) (fun cdv A outer s H vs Q E hr h => ?_)
  · obtain ⟨_, _, _, _, rfl, _⟩ := h
    rfl
  · obtain ⟨a0, b0, ms, ks, rfl, hA, hB, hl, hl2, q⟩ := h
    refine ⟨_, (pss_one (ps_ret (pe_call G_marked (hr.mono (by decide)) (by rfl) T.m_marked T.F_marked.kp T.b_marked .nil pass0 (pa_cons (R1.pe_listZip rfl (by rfl) T.z_list (by rfl) T.z_zip (pa_cons (pv 0) (pa_cons (pv 1) pa_nil))) pa_nil)))), ?_⟩
    have l1 : (nvals ms).length = ms.length := by unfold nvals; simp
    have l2 : (nvals ks).length = ks.length := by unfold nvals; simp
    have lk : (mtKeys ms ks).length = ms.length := by unfold mtKeys; simp; omega
    refine ⟨.ref a0, rfl, .ref b0, rfl, a0, b0, _, _, rfl, hA, hB, by omega, by omega, fun H2 l as sm nl hal hL hp => ?_⟩
    refine ⟨l, as.map V.ref, mtKeys ms ks, rfl, .inl (SqL.of hL), ⟨by rw [List.length_map]; omega, fun i x k hx hk => ?_⟩, by omega, fun r H' nr s h => q r H' (sm.free nr) (sm.trans s) h⟩
    rw [List.getElem?_map] at hx
    unfold mtKeys at hk
    rw [List.getElem?_map] at hk
    cases e1 : as[i]? with
    | none => rw [e1] at hx; cases hx
    | some c =>
      rw [e1] at hx
      obtain rfl : V.ref c = x := Option.some.inj hx
      cases e2 : (ms.zip ks)[i]? with
      | none => rw [e2] at hk; cases hk
      | some p =>
        rw [e2] at hk
        obtain rfl : [(p.1 : Int), (p.2 : Int)] = k := Option.some.inj hk
        obtain ⟨g1, g2⟩ := List.getElem?_zip_eq_some.mp e2
        refine ⟨c, rfl, hp i c (.int (p.1 : Int)) (.int (p.2 : Int)) e1 ?_ ?_⟩
        · unfold nvals; rw [List.getElem?_map, g1]; rfl
        · unfold nvals; rw [List.getElem?_map, g2]; rfl
end
end K0


/-! sorting does not ask for the order before; the rows of a rows card -/
namespace R1
open PySem PySem.Spec PyProof.Rows L2
theorem toks_eq {x y : PyData} (al : PySem.W.alike x y = true) (h : PySem.W.keyToks x = PySem.W.keyToks y) : PyData.eqv x y = true := by
  cases e : PyData.eqv x y with
  | true => rfl
  | false =>
    have := (PySem.W.toks_eqv x y al).2 e [] [.inl 0]
    rw [h, PySem.W.lex_pre, lex_irrefl] at this
    cases this
theorem sortK_perm {κ : Type} {enc : κ → PyData} (al : ∀ x y, PySem.W.alike (enc x) (enc y) = true) (ev : ∀ x y, PyData.eqv (enc x) (enc y) = true → x = y) {l m : List κ} (h : l.Perm m) : sortK enc l = sortK enc m := by
  have T : PySem.W.TotalLe (PySem.W.dataLe false enc) := PySem.W.sortLe_total (listOrd itemOrd) false fun b => PySem.W.keyToks (enc b)
  refine List.Perm.eq_of_pairwise (le := fun a b => PySem.W.dataLe false enc a b = true) (fun a b _ _ h1 h2 => ?_) (PySem.W.sort_pairwise T l) (PySem.W.sort_pairwise T m) ((List.mergeSort_perm l _).trans (h.trans (List.mergeSort_perm m _).symm))
  have g1 : (!lexLt itemOrd (PySem.W.keyToks (enc b)) (PySem.W.keyToks (enc a))) = true := h1
  have g2 : (!lexLt itemOrd (PySem.W.keyToks (enc a)) (PySem.W.keyToks (enc b))) = true := h2
  exact ev a b (toks_eq (al a b) (lex_total _ _ (by simpa using g2) (by simpa using g1)))
theorem sortK_sub {κ : Type} {enc : κ → PyData} {l : List κ} {x : κ} (h : x ∈ sortK enc l) : x ∈ l := by
  unfold sortK at h
  rwa [List.mem_mergeSort] at h
theorem sortK_len {κ : Type} {enc : κ → PyData} (l : List κ) : (sortK enc l).length = l.length := by
  unfold sortK
  rw [List.length_mergeSort]
theorem sortK_map {κ : Type} {enc : κ → PyData} (al : ∀ x y, PySem.W.alike (enc x) (enc y) = true) (ev : ∀ x y, PyData.eqv (enc x) (enc y) = true → x = y) (f : κ → κ) (l : List κ) : sortK enc ((sortK enc l).map f) = sortK enc (l.map f) :=
  sortK_perm al ev ((show (sortK enc l).Perm l from List.mergeSort_perm l _).map f)
end R1
namespace K0
open PySem PySem.Spec PyProof.Rows L2
theorem eqv_strs : ∀ cs ds : List (List Nat), PyData.eqvAll (cs.map fun c => PyData.str ⟨c.toArray⟩) (ds.map fun c => PyData.str ⟨c.toArray⟩) = true → cs = ds
  | [], [], _ => rfl
  | [], _ :: _, h => by simp [PyData.eqvAll] at h
  | _ :: _, [], h => by simp [PyData.eqvAll] at h
  | c :: r, d :: t, h => by
    rw [List.map_cons, List.map_cons, PyData.eqvAll, Bool.and_eq_true] at h
    rw [eqv_strs r t h.2]
    have h1 := h.1
    simp only [PyData.eqv, beq_iff_eq, Str.mk.injEq] at h1
    have : c = d := by simpa using h1
    rw [this]
theorem alike_ints : ∀ ns ms : List Int, PySem.W.alikeAll (ns.map PyData.int) (ms.map PyData.int) = true
  | [], _ => by simp [PySem.W.alikeAll]
  | _ :: _, [] => by simp [PySem.W.alikeAll]
  | _ :: r, _ :: t => by simp [PySem.W.alikeAll, PySem.W.alike, alike_ints r t]
theorem alike_strs : ∀ cs ds : List (List Nat), PySem.W.alikeAll (cs.map fun c => PyData.str ⟨c.toArray⟩) (ds.map fun c => PyData.str ⟨c.toArray⟩) = true
  | [], _ => by simp [PySem.W.alikeAll]
  | _ :: _, [] => by simp [PySem.W.alikeAll]
  | _ :: r, _ :: t => by simp [PySem.W.alikeAll, PySem.W.alike, alike_strs r t]
/-- a row: size, marks, words -/
abbrev Row := Nat × List Nat × List (List Nat)
def encRow (r : Row) : PyData := .tuple [.tuple [.int (r.1 : Int), .tuple ((ivals r.2.1).map .int)], .tuple (r.2.2.map fun c => PyData.str ⟨c.toArray⟩)]
theorem encRow_alike (x y : Row) : PySem.W.alike (encRow x) (encRow y) = true := by
  unfold encRow
  simp [PySem.W.alike, PySem.W.alikeAll, alike_ints, alike_strs]
theorem ivals_inj : ∀ ms ks : List Nat, ivals ms = ivals ks → ms = ks
  | [], [], _ => rfl
  | [], _ :: _, h => by cases h
  | _ :: _, [], h => by cases h
  | m :: r, k :: t, h => by
    unfold ivals at h
    rw [List.map_cons, List.map_cons] at h
    injection h with h1 h2
    rw [ivals_inj r t h2]
    congr 1
    omega
theorem encRow_inj (x y : Row) (h : PyData.eqv (encRow x) (encRow y) = true) : x = y := by
  obtain ⟨s, ms, ws⟩ := x
  obtain ⟨t, ks, us⟩ := y
  unfold encRow at h
  simp only [PyData.eqv, PyData.eqvAll, Bool.and_eq_true, beq_iff_eq, eqv_ints, decide_eq_true_eq, and_true] at h
  obtain ⟨⟨h1, h2⟩, h3⟩ := h
  have e1 : s = t := by omega
  rw [e1, ivals_inj _ _ h2, eqv_strs _ _ h3]
def IsRow (K : PySem.W.Frag) (H : Hp) (x : V) (r : Row) : Prop := ∃ p c m t, x = .ref p ∧ SqT K H p [.ref c, .ref t] ∧ SqT K H c [.int (r.1 : Int), .ref m] ∧ SqT K H m (nvals r.2.1) ∧ SqT K H t (r.2.2.map tx)
section
variable {K : PySem.W.Frag}
theorem IsRow.same {H H' : Hp} {x : V} {r : Row} (k : Same H H') (h : IsRow K H x r) : IsRow K H' x r := by
  obtain ⟨p, c, m, t, e, h1, h2, h3, h4⟩ := h
  exact ⟨p, c, m, t, e, SameT k h1, SameT k h2, SameT k h3, SameT k h4⟩
theorem IsRow.kp {D : Addr} {H H' : Hp} {l : List V} {x : V} {r : Row} (k : Kp D H H') (hD : H D = some (.lst l)) (h : IsRow K H x r) : IsRow K H' x r := by
  obtain ⟨p, c, m, t, e, h1, h2, h3, h4⟩ := h
  exact ⟨p, c, m, t, e, SqT.kp k hD h1, SqT.kp k hD h2, SqT.kp k hD h3, SqT.kp k hD h4⟩
theorem dp_strs {H : Hp} : ∀ ws : List (List Nat), DpAll K H (ws.map tx) (ws.map fun c => PyData.str ⟨c.toArray⟩)
  | [] => .nil
  | _ :: r => .cons (.str _) (dp_strs r)
theorem IsRow.dp {H : Hp} {x : V} {r : Row} (h : IsRow K H x r) : Dp K H x (encRow r) := by
  obtain ⟨p, c, m, t, rfl, h1, h2, h3, h4⟩ := h
  rw [nvals_i] at h3
  exact .tup h1 (.cons (.tup h2 (.cons (.int _) (.cons (.tup h3 (dp_ints _)) .nil))) (.cons (.tup h4 (dp_strs _)) .nil))
theorem dpRows {H : Hp} : ∀ {xs : List V} {rs : List Row}, xs.length = rs.length → (∀ (i : Nat) x r, xs[i]? = some x → rs[i]? = some r → IsRow K H x r) → DpAll K H xs (rs.map encRow)
  | [], [], _, _ => .nil
  | x :: xs, r :: rs, h, f => .cons (f 0 x r rfl rfl).dp (dpRows (Nat.succ.inj h) fun i y q a b => f (i + 1) y q (by simpa using a) (by simpa using b))
theorem depInts : ∀ ns : List Int, PyData.depthAll (ns.map PyData.int) ≤ 1
  | [] => by simp [PyData.depthAll]
  | _ :: r => by have := depInts r; simp only [List.map_cons, PyData.depthAll, PyData.depth]; omega
theorem depStrs : ∀ ws : List (List Nat), PyData.depthAll (ws.map fun c => PyData.str ⟨c.toArray⟩) ≤ 1
  | [] => by simp [PyData.depthAll]
  | _ :: r => by have := depStrs r; simp only [List.map_cons, PyData.depthAll, PyData.depth]; omega
theorem depRow (r : Row) : (encRow r).depth ≤ 60 := by
  unfold encRow
  have h1 := depInts (ivals r.2.1)
  have h2 := depStrs r.2.2
  simp only [PyData.depth, PyData.depthAll]
  omega
/-- sorted of rows -/
theorem sorted_rows {H : Hp} {p : Addr} {xs : List V} {rs : List Row} {Q : VK} (h : SqL K H p xs) (hA : R1.Al (IsRow K H) xs rs) (q : ∀ l H', H l = none → Same H H' → H' l = some (.lst (R0.sortV xs (rs.map encRow))) → R1.Al (IsRow K H') (R0.sortV xs (rs.map encRow)) (R1.sortK encRow rs) → Q (.ref l) H') : R0.rSortD K [.ref p] H Q := by
  have hk : ∀ d ∈ rs.map encRow, ∃ r, d = encRow r := fun d hd => by
    obtain ⟨r, _, rfl⟩ := List.mem_map.mp hd
    exact ⟨r, rfl⟩
  refine ⟨p, xs, _, rfl, h, dpRows hA.1 hA.2, fun d hd d' hd' => ?_, .inl fun d hd => ?_, fun d hd => ?_, fun l nl => ?_⟩
  · obtain ⟨_, rfl⟩ := hk d hd
    obtain ⟨_, rfl⟩ := hk d' hd'
    exact encRow_alike _ _
  · obtain ⟨_, rfl⟩ := hk d hd
    exact ⟨_, _, rfl⟩
  · obtain ⟨_, rfl⟩ := hk d hd
    exact depRow _
  · have s := same_upd (o := .lst (R0.sortV xs (rs.map encRow))) nl
    exact q l _ nl s upd_same ((R1.sort_al encRow hA).mono fun x r h => h.same s)
end
end K0


namespace K0
open PySem PySem.Spec PyProof.Rows L2
section
variable {P : Program} {w : World} {K : PySem.W.Frag} {mg : Str → Option Value} {base : Heap} {a : Ad}
theorem nes {K : PySem.W.Frag} {x y : Str} {H : Hp} {Q : Bool → Hp → Prop} (q : Q (!decide (x = y)) H) : (fun x y H Q => rNe x y H Q ∨ rNeD K x y H Q) (.str x) (.str y) H (fun z H' => ∃ k, z = .bl k ∧ Q k H') := .inl ⟨rfl, _, rfl, by
  have e : decide (V.str x = V.str y) = decide (x = y) := by
    by_cases h : x = y
    · rw [decide_eq_true h, decide_eq_true (by rw [h])]
    · rw [decide_eq_false h, decide_eq_false (fun z => h (V.str.inj z))]
  rw [e]; exact q⟩
theorem ixt {K : PySem.W.Frag} {i : Nat} {p : Addr} {xs : List V} {v : V} {σ : L2.St} {H : Hp} {Q : VK} (j : Nat) (h0 : σ[i]? = some (some (.ref p))) (h : SqT K H p xs) (e : xs[j]? = some v) (q : Q v H) : tOp (rIx K) (tVar i) (tC (.int (j : Int))) σ H Q :=
  ⟨.ref p, h0, .inr (.inl ⟨p, xs, j, v, rfl, rfl, h, atI_nat e, q⟩)⟩
def renR (g : List Nat → List Nat) (css : List (List Nat)) (r : Row) : Row := (r.1, renL g css r.2.1, r.2.2)
abbrev sRows : Str := Str.ofString "rows"
def spRenC (K : PySem.W.Frag) : Sp := fun vs H Q _ => ∃ (c0 n0 d0 : Addr), vs = [.ref c0, .ref n0, .ref d0] ∧ ((∃ (s : Str) (r : List V), SqT K H c0 (.str s :: r) ∧ s ≠ sRows ∧ Q (.ref c0) H) ∨
  ∃ (t0 : Addr) (xs : List V) (rs : List Row) (css : List (List Nat)) (kvs : List (Key × V)) (g : List Nat → List Nat), SqT K H c0 [.str sRows, .ref t0] ∧ SqT K H t0 xs ∧ R1.Al (IsRow K H) xs rs ∧ rs.length ≤ 100 ∧ SqT K H n0 (css.map tx) ∧ (∀ r ∈ rs, css.length = r.2.1.length) ∧ css.length ≤ 50 ∧ H d0 = some (.dK kvs) ∧
    (∀ c ∈ css, (valV kvs (.inr ⟨c.toArray⟩)).getD (tx c) = tx (g c)) ∧ ∀ p t ys H', H p = none → Same H H' → H' p = some (.tup [.str sRows, .ref t]) → H' t = some (.tup ys) → R1.Al (IsRow K H') ys (R1.sortK encRow (rs.map (renR g css))) → Q (.ref p) H')
theorem ok_renC (T : Top K mg a) (G_renamed_marks : FnOk P w K mg base CX0 2 a.f_renamed_marks a.d_renamed_marks ["names", "marks", "mapping"] (spRenM K)) : FnOk P w K mg base CX0 3 a.f_renamed_card a.d_renamed_card ["card", "names", "mapping"] (spRenC K) := by
  refine T.F_renamed_card.ok sc_renamed_card (fun vs H Q E h => ?_) (fun cdv A outer s H vs Q E hr h => ?_)
  · obtain ⟨_, _, _, rfl, _⟩ := h
    rfl
  · obtain ⟨c0, n0, d0, rfl, h⟩ := h
    refine ⟨_, (pss_cons (ps_if (pt_cmpR (OpR.or op_ne (op_neD hr.units)) (pe_ix ix_seq (pv 0) pe_int (fun _ _ => rfl)) pe_str (nomark _))
      (pss_one (ps_ret (pv 0)))
      pss_nil)
    (pss_cons (ps_setLc (own := [("words", 4), ("size", 5), ("marks", 6)]) (i := 3) rfl sc_renamed_card.nd rfl rfl (sw_true rfl rfl rfl (by decide +kernel)) (pi_tup (pe_ix ix_seq (pv 0) pe_int (fun _ _ => rfl))) (blkOk_by (own := [("words", 4), ("size", 5), ("marks", 6)]) (N := ["card", "names", "mapping", "rows", "words", "size", "marks"]) (sc := defScope s_renamed_card) (by decide +kernel)) (fun _ _ _ _ _ => (R1.pg_tupK (K := K) (n := 2) rfl rfl (pgs_cons (R1.pg_tupK (K := K) (n := 2) rfl rfl (pgs_cons (pg_name (i := 5) sc_renamed_card.nd rfl (.inl rfl)) (pgs_cons (pg_name (i := 6) sc_renamed_card.nd rfl (.inl rfl)) pgs_nil))) (pgs_cons (pg_name (i := 4) sc_renamed_card.nd rfl (.inl rfl)) pgs_nil)))) (fun _ _ _ _ _ => pts_nil) (fun _ _ _ _ _ => (pe_tup (pa_cons (pe_tup (pa_cons (pv 5) (pa_cons (pe_call G_renamed_marks (hr.mono (by decide)) (by rfl) T.m_renamed_marks T.F_renamed_marks.kp T.b_renamed_marks .nil pass0 (pa_cons (pv 1) (pa_cons (pv 6) (pa_cons (pv 2) pa_nil)))) pa_nil))) (pa_cons (pv 4) pa_nil)))))
    (pss_one (ps_ret (pe_tup (pa_cons pe_str (pa_cons (pe_callTy call_tuple_of (by rfl) T.z_tuple (by decide +kernel) (pa_cons (pe_callB (R0.cr_sortD hr.units) (by rfl) T.z_sorted (by decide +kernel) (pa_cons (pv 3) pa_nil)) pa_nil)) pa_nil))))))), ?_⟩
    rcases h with ⟨s, r, hC, hs, q⟩ | ⟨t0, xs, rs, css, kvs, g, hC, hT, hA, hl, hN, hlm, hl5, hD0, hg, q⟩
    · refine ixt 0 rfl hC rfl (nes ?_)
      rw [decide_eq_false hs]
      exact iteT ⟨_, rfl, q⟩
    · refine ixt 0 rfl hC rfl (nes ?_)
      rw [decide_eq_true (show sRows = Str.ofString "rows" from rfl)]
      refine iteF ?_
      refine ixt 1 rfl hC rfl ⟨t0, rfl, ⟨_, hT⟩, fun D nD => R1.walk_it (walk_tup (xs := xs)) (fun u H2 => Same H H2 ∧ ∃ acc, H2 D = some (.lst acc) ∧ R1.Al (IsRow K H2) acc ((rs.map (renR g css)).take u)) ⟨Same.mut (Same.refl _) nD, [], upd_same, R1.Al.nil⟩ (fun u H2 _ h => SameT h.1 hT) ?_ ?_⟩
      · rintro u x _ H2 hu ⟨sm2, acc, hD, hB⟩ ⟨rfl, hx⟩
        obtain ⟨r, hr, p, c, m, t, rfl, h1, h2, h3, h4⟩ := hA.at hx
        have et : (rs.map (renR g css)).take (u + 1) = (rs.map (renR g css)).take u ++ [renR g css r] := by
          rw [List.take_add_one, List.getElem?_map, hr]; rfl
        have la : acc.length ≤ 1000 := by
          have := hB.1
          rw [List.length_take, List.length_map] at this
          omega
        have hlr := hlm r (List.mem_of_getElem? hr)
        refine ⟨p, _, rfl, SameT sm2 h1, rfl, _, _, rfl, c, _, rfl, SameT sm2 h2, rfl, _, _, rfl, _, _, rfl, rfl, _, _, rfl, rfl, rfl, ?_⟩
        refine ⟨.int (r.1 : Int), rfl, .ref n0, rfl, .ref m, rfl, .ref d0, rfl, n0, m, d0, css, r.2.1, kvs, g, rfl, SameT sm2 hN, SameT sm2 h3, hlr, hl5, sm2 _ _ hD0, hg, fun mr H3 nmr s3 hmr => ?_⟩
        refine ⟨Nat.le_of_lt (small1000 (by simp)), fun pc npc => ⟨.ref t, rfl, Nat.le_of_lt (small1000 (by simp)), fun pp npp => ?_⟩⟩
        have s4 : Same H3 (upd H3 pc (.tup [.int (r.1 : Int), .ref mr])) := same_upd npc
        have s5 : Same (upd H3 pc (.tup [.int (r.1 : Int), .ref mr])) (upd (upd H3 pc (.tup [.int (r.1 : Int), .ref mr])) pp (.tup [.ref pc, .ref t])) := same_upd npp
        have hpc := s5 _ _ (show (upd H3 pc (.tup [.int (r.1 : Int), .ref mr])) pc = _ from upd_same)
        have hpp : (upd (upd H3 pc (.tup [.int (r.1 : Int), .ref mr])) pp (.tup [.ref pc, .ref t])) pp = some (.tup [.ref pc, .ref t]) := upd_same
        have s35 := s4.trans s5
        have s25 := s3.trans s35
        generalize upd (upd H3 pc (.tup [.int (r.1 : Int), .ref mr])) pp (.tup [.ref pc, .ref t]) = H5 at hpc hpp s35 s25 ⊢
        have hD5 := s25 _ _ hD
        refine ⟨acc, hD5, small1000 la, Same.mut (sm2.trans s25) nD, _, upd_same, ?_⟩
        rw [et]
        have rowN : IsRow K H5 (.ref pp) (renR g css r) := ⟨pp, pc, mr, t, rfl, SqT.of hpp, SqT.of hpc, SqT.of (s35 _ _ hmr), SameT (sm2.trans s25) h4⟩
        exact R1.Al.snoc (hB.mono fun x r h => IsRow.kp (D := D) ((Kp.refl _ _).put) hD5 (h.same s25)) (IsRow.kp (D := D) ((Kp.refl _ _).put) hD5 rowN)
      · rintro H2 ⟨sm2, acc, hD, hB⟩
        have ln : (rs.map (renR g css)).length = xs.length := by rw [List.length_map]; exact hA.1.symm
        rw [← ln, List.take_length] at hB
        refine ⟨.ref D, rfl, ?_⟩
        dsimp only [tNil]
        refine sorted_rows (SqL.of hD) hB fun l H3 nl s3 hl3 hA3 => ?_
        refine ⟨l, _, rfl, .inl ⟨SqL.of hl3, fun t nt => ⟨Nat.le_of_lt (small1000 (by simp)), fun p np => ?_⟩⟩⟩
        have s4 : Same H3 (upd H3 t (.tup (R0.sortV acc ((rs.map (renR g css)).map encRow)))) := same_upd nt
        have s5 := s4.trans (same_upd (o := .tup [.str sRows, .ref t]) np)
        have ht := (same_upd (o := .tup [.str sRows, .ref t]) np) _ _ (show (upd H3 t (.tup (R0.sortV acc ((rs.map (renR g css)).map encRow)))) t = _ from upd_same)
        exact q p t _ _ (((sm2.trans s3).trans s4).free np) ((sm2.trans s3).trans s5) upd_same ht (hA3.mono fun x r h => h.same s5)
end
end K0


/-! the styled names -/
namespace K0
open PySem PySem.Spec PyProof.Rows L2
def d1 (n : Nat) : List Nat := (toString (n : Int) : Str).cps.toList
theorem d1_str (n : Nat) : (toString (n : Int) : Str) = ⟨(d1 n).toArray⟩ := by
  unfold d1
  rw [Array.toArray_toList]
theorem d1_ok : ∀ n, n < 1000 → (d1 n).length ≤ 3 ∧ (d1 n).all Dg = true := by
  have : (List.range 1000).all (fun n => decide ((d1 n).length ≤ 3) && (d1 n).all Dg) = true := by decide +kernel
  intro n hn
  have h := List.all_eq_true.mp this n (List.mem_range.mpr hn)
  rw [Bool.and_eq_true] at h
  exact ⟨of_decide_eq_true h.1, h.2⟩
def sfx (k : Nat) : List Nat := ([[], [48], [48, 48], [48, 48, 48], [48, 49], [49]] : List (List Nat)).getD k []
def tlS (style num k : Nat) : List Nat :=
  if style = 0 then [] else if style = 1 then d1 (9 * k + 1) else if style = 2 then sfx k else if style = 3 then d1 (num * (k + 1) % 1000) else R1.repT (num % 3) [55] ++ d1 k ++ R1.repT (2 - num % 3) [55]
def hdS (style first k : Nat) : Nat := if style = 0 ∨ style = 3 then 97 + (first + k) else 97 + first
def nameS (style first num k : Nat) : List Nat := hdS style first k :: tlS style num k
theorem tl_ok {style num k : Nat} (hk : k < 6) : (tlS style num k).length ≤ 3 ∧ (tlS style num k).all Dg = true := by
  have h1 : (List.range 6).all (fun k => decide ((d1 (9 * k + 1)).length ≤ 3) && (d1 (9 * k + 1)).all Dg && (decide ((sfx k).length ≤ 3) && (sfx k).all Dg) && (List.range 3).all fun r => decide ((R1.repT r [55] ++ d1 k ++ R1.repT (2 - r) [55]).length ≤ 3) && (R1.repT r [55] ++ d1 k ++ R1.repT (2 - r) [55]).all Dg) = true := by decide +kernel
  have h2 := List.all_eq_true.mp h1 k (List.mem_range.mpr hk)
  simp only [Bool.and_eq_true, decide_eq_true_eq] at h2
  obtain ⟨⟨⟨a1, a2⟩, b1, b2⟩, c⟩ := h2
  have c2 := List.all_eq_true.mp c (num % 3) (List.mem_range.mpr (Nat.mod_lt _ (by decide)))
  simp only [Bool.and_eq_true, decide_eq_true_eq] at c2
  unfold tlS
  split
  · exact ⟨by simp, rfl⟩
  · split
    · exact ⟨a1, a2⟩
    · split
      · exact ⟨b1, b2⟩
      · split
        · exact d1_ok _ (Nat.mod_lt _ (by decide))
        · exact c2
theorem tl_inj {style num j k : Nat} (hs : style ≠ 0 ∧ style ≠ 3) (hj : j < 6) (hk : k < 6) (h : tlS style num j = tlS style num k) : j = k := by
  have g : (List.range 6).all (fun j => (List.range 6).all fun k => decide (j = k) || (decide (d1 (9 * j + 1) ≠ d1 (9 * k + 1)) && decide (sfx j ≠ sfx k) && (List.range 3).all fun r => decide (R1.repT r [55] ++ d1 j ++ R1.repT (2 - r) [55] ≠ R1.repT r [55] ++ d1 k ++ R1.repT (2 - r) [55]))) = true := by decide +kernel
  have g2 := List.all_eq_true.mp (List.all_eq_true.mp g j (List.mem_range.mpr hj)) k (List.mem_range.mpr hk)
  by_cases e : j = k
  · exact e
  · rw [decide_eq_false e, Bool.false_or] at g2
    simp only [Bool.and_eq_true, decide_eq_true_eq] at g2
    obtain ⟨⟨a1, b1⟩, c⟩ := g2
    have c2 := of_decide_eq_true (List.all_eq_true.mp c (num % 3) (List.mem_range.mpr (Nat.mod_lt _ (by decide))))
    unfold tlS at h
    rw [if_neg hs.1, if_neg hs.1] at h
    by_cases h1 : style = 1
    · rw [if_pos h1, if_pos h1] at h
      exact absurd h a1
    · rw [if_neg h1, if_neg h1] at h
      by_cases h2 : style = 2
      · rw [if_pos h2, if_pos h2] at h
        exact absurd h b1
      · rw [if_neg h2, if_neg h2, if_neg hs.2, if_neg hs.2] at h
        exact absurd h c2
theorem nameS_inj {style first num j k : Nat} (hj : j < 6) (hk : k < 6) (h : nameS style first num j = nameS style first num k) : j = k := by
  unfold nameS at h
  injection h with h1 h2
  by_cases hs : style = 0 ∨ style = 3
  · unfold hdS at h1
    rw [if_pos hs, if_pos hs] at h1
    omega
  · exact tl_inj ⟨fun e => hs (.inl e), fun e => hs (.inr e)⟩ hj hk h2
theorem nameS_ok {style first num k : Nat} (hf : first < 20) (hk : k < 6) : isNameL (nameS style first num k) = true := by
  obtain ⟨h1, h2⟩ := tl_ok (style := style) (num := num) hk
  have h3 : Lw (hdS style first k) = true := by
    unfold hdS Lw
    rw [Bool.and_eq_true, decide_eq_true_eq, decide_eq_true_eq]
    split <;> omega
  unfold isNameL nameS
  rw [List.length_cons, List.headD_cons, List.drop_succ_cons, List.drop_zero, h2, h3, decide_eq_true (by omega), decide_eq_true (by omega)]
  rfl
theorem nameS_len {style first num k : Nat} (hk : k < 6) : (nameS style first num k).length ≤ 4 := by
  have h1 := (tl_ok (style := style) (num := num) hk).1
  unfold nameS
  rw [List.length_cons]
  omega
theorem nameS_hd {style first num k : Nat} (hf : first < 20) (hk : k < 6) : (nameS style first num k).headD 0 < 122 := by
  unfold nameS hdS
  rw [List.headD_cons]
  split <;> omega
def encT (c : List Nat) : PyData := .str ⟨c.toArray⟩
/-- the names, ascending -/
def styl (style first num n : Nat) : List (List Nat) := R1.sortK encT ((List.range n).map (nameS style first num))
theorem asc_of : ∀ {l : List (List Nat)}, l.Pairwise (· < ·) → ascL l = true
  | [], _ => rfl
  | [_], _ => rfl
  | c :: d :: r, h => by
    have h2 := List.pairwise_cons.mp h
    show (decide (c < d) && ascL (d :: r)) = true
    rw [asc_of h2.2, decide_eq_true (h2.1 d (by simp))]
    rfl
theorem encT_alike (x y : List Nat) : PySem.W.alike (encT x) (encT y) = true := by simp [encT, PySem.W.alike]
theorem encT_inj (x y : List Nat) (h : PyData.eqv (encT x) (encT y) = true) : x = y := by
  unfold encT at h
  simp only [PyData.eqv, beq_iff_eq, Str.mk.injEq] at h
  simpa using h
/-- what sorted leaves of different names ascends -/
theorem sortT_asc {l : List (List Nat)} (h : l.Nodup) : (R1.sortK encT l).Pairwise (· < ·) := by
  have T : PySem.W.TotalLe (PySem.W.dataLe false encT) := PySem.W.sortLe_total (listOrd itemOrd) false fun b => PySem.W.keyToks (encT b)
  have p1 := PySem.W.sort_pairwise T l
  have p2 : (l.mergeSort (PySem.W.dataLe false encT)).Nodup := (List.mergeSort_perm l _).nodup_iff.mpr h
  have e : PySem.W.dataLe false encT = fun a b => decide (a ≤ b) := by
    have h := PySem.W.dataLe_str (fun c : List Nat => (⟨c.toArray⟩ : Str))
    simp at h
    exact h
  unfold R1.sortK
  rw [e] at p1 p2 ⊢
  refine (p1.and p2).imp fun {a b} ⟨h1, h2⟩ => ?_
  have h3 : a ≤ b := of_decide_eq_true h1
  rcases List.le_iff_lt_or_eq.mp h3 with h | h
  · exact h
  · exact absurd h h2
theorem styl_hd {style first num n : Nat} (hf : first < 20) (hn : n ≤ 6) : ∀ c ∈ styl style first num n, c.headD 0 < 122 := by
  intro c hc
  obtain ⟨k, hk, rfl⟩ := List.mem_map.mp (R1.sortK_sub hc)
  have := List.mem_range.mp hk
  exact nameS_hd hf (by omega)
theorem styl_facts {style first num n : Nat} (hf : first < 20) (hn : n ≤ 6) : (styl style first num n).length = n ∧ (styl style first num n).Pairwise (· < ·) ∧ ∀ c ∈ styl style first num n, isNameL c = true ∧ c.length ≤ 4 := by
  unfold styl
  refine ⟨by rw [R1.sortK_len]; simp, sortT_asc ?_, fun c hc => ?_⟩
  · refine List.pairwise_map.mpr (List.Pairwise.imp_of_mem (fun {i j} hi hj (ne : i ≠ j) e => ne (nameS_inj ?_ ?_ e)) (List.nodup_range (n := n)))
    · have := List.mem_range.mp hi
      omega
    · have := List.mem_range.mp hj
      omega
  · obtain ⟨k, hk, rfl⟩ := List.mem_map.mp (R1.sortK_sub hc)
    have := List.mem_range.mp hk
    exact ⟨nameS_ok hf (by omega), nameS_len (by omega)⟩
end K0


/-! the drawing state, the script's list told -/
namespace K0
open PySem PySem.Spec PyProof.Rows L2
section
variable {P : Program} {w : World} {K : PySem.W.Frag} {mg : Str → Option Value} {base : Heap} {a : Ad}
def StaX (H : Hp) (st sc : Addr) : Prop := ∃ (ns : List Int) (i b s l : Int), sc ≠ st ∧ H st = some (.lst [.ref sc, .int i, .int b, .int s, .int l]) ∧ H sc = some (.lst (ns.map V.int)) ∧ 0 ≤ i ∧ 0 ≤ b ∧ 0 ≤ s ∧ s < 10 ^ 18 ∧ 0 ≤ l ∧ l ≤ 6
theorem Sta.x {H : Hp} {st : Addr} (S : Sta H st) : ∃ sc, StaX H st sc := by
  obtain ⟨sc, r⟩ := S.ex
  exact ⟨sc, r⟩
theorem StaX.s {H : Hp} {st sc : Addr} (S : StaX H st sc) : Sta H st := ⟨⟨sc, S⟩⟩
theorem StaX.upd {H : Hp} {st sc F : Addr} {o : HO} (S : StaX H st sc) (h1 : F ≠ st) (h2 : F ≠ sc) : StaX (upd H F o) st sc := by
  obtain ⟨ns, i, b, s, l, hne, hst, hsc, r⟩ := S
  exact ⟨ns, i, b, s, l, hne, by rw [upd_ne (Ne.symm h1)]; exact hst, by rw [upd_ne (Ne.symm h2)]; exact hsc, r⟩
theorem StaX.same {H H' : Hp} {st sc : Addr} (S : StaX H st sc) (k : Same H H') : StaX H' st sc := by
  obtain ⟨ns, i, b, s, l, hne, hst, hsc, r⟩ := S
  exact ⟨ns, i, b, s, l, hne, k _ _ hst, k _ _ hsc, r⟩
theorem Sta.same {H H' : Hp} {st : Addr} (S : Sta H st) (k : Same H H') : Sta H' st := by
  obtain ⟨sc, S⟩ := S.x
  exact (S.same k).s
/-- a new place is none of both -/
theorem StaX.ne {H : Hp} {st sc F : Addr} (S : StaX H st sc) (h : H F = none) : F ≠ st ∧ F ≠ sc := by
  obtain ⟨ns, i, b, s, l, hne, hst, hsc, r⟩ := S
  refine ⟨fun e => ?_, fun e => ?_⟩
  · rw [e, hst] at h; cases h
  · rw [e, hsc] at h; cases h
theorem Kp.free {H H' : Hp} {st F : Addr} (k : Kp st H H') (S : Sta H st) (n : H' F = none) (h : F ≠ st) : H F = none := by
  cases e : H F with
  | none => rfl
  | some o => rw [k _ _ h e] at n; cases n
def spDrawX : Sp := fun vs H Q _ => ∃ (st sc : Addr) (m : Int), vs = [.ref st, .int m] ∧ StaX H st sc ∧ 1 ≤ m ∧ m < 2 ^ 60 ∧ ∀ H' v, Kp st H H' → StaX H' st sc → 0 ≤ v → v < m → Q (.int v) H'
theorem ok_drawX (T : Top K mg a) : FnOk P w K mg base CX0 1 a.f_l_draw a.d_l_draw ["_law_state_here", "_law_many"] spDrawX := by
  refine T.F_l_draw.ok sc_l_draw (fun vs H Q E h => ?_) (fun cdv A outer s H vs Q E hr h => ?_)
  · obtain ⟨st, sc, m, rfl, _⟩ := h
    rfl
  · obtain ⟨st, sc, m, rfl, ⟨ns, i, b, s, l, hne, hst, hsc, hi, hb, hs0, hs1, hl0, hl1⟩, hm0, hm1, q⟩ := h
    refine ⟨_, (pss_cons (ps_if (pt_cmpR (OpR.or op_lt op_lt_str) (pv 1) pe_int (nomark _))
      (pss_one (ps_ret pe_int))
      pss_nil)
    (C8.pss_cut (ps_if (PW.pt (pw_and (pt_cmpR (OpR.or op_eq (op_eqD hr.units)) (pe_ix ix_seq (pv 0) pe_int (fun _ _ => rfl)) pe_int (nomark _)) (pw_and (pt_cmpR (OpR.or op_eq (op_eqD hr.units)) (pe_ix ix_seq (pv 0) pe_int (fun _ _ => rfl)) pe_int (nomark _)) (pw_and1 (pt_cmpR (OpR.or op_lt op_lt_str) (pe_ix ix_seq (pv 0) pe_int (fun _ _ => rfl)) (pe_callB (CallR.or call_len_str call_len_seq) (by rfl) T.z_len (by decide +kernel) (pa_cons (pe_ix ix_seq (pv 0) pe_int (fun _ _ => rfl)) pa_nil)) (nomark _))))))
      (pss_cons (ps_set (i := 2) sc_l_draw.nd rfl (.inl rfl) (pe_ix ix_seq (pe_ix ix_seq (pv 0) pe_int (fun _ _ => rfl)) (pe_ix ix_seq (pv 0) pe_int (fun _ _ => rfl)) (fun _ _ => rfl)))
      (pss_cons (ps_asg (pe_op (OpR.or op_add (OpR.or op_add_str (OpR.or op_cat op_catT))) (pe_ix ix_seq (pv 0) pe_int (fun _ _ => rfl)) pe_int) (pg_sub (pv 0) pe_int set_list))
      (pss_cons (ps_if (pt_cmpR (OpR.or op_lt op_lt_str) (pv 2) pe_int (nomark _))
        (pss_one (ps_set (i := 2) sc_l_draw.nd rfl (.inl rfl) (pe_op op_sub pe_int (pe_op (OpR.or op_mul op_mulW) pe_int (pv 2)))))
        pss_nil)
      (pss_one (ps_if (pt_cmpR (OpR.or op_ge op_ge_str) (pv 2) (pe_op op_pow pe_int pe_int) (nomark _))
        (pss_one (ps_asg (pv 2) (pg_sub (pv 0) pe_int set_list)))
        (pss_cons (ps_asg (pv 2) (pg_sub (pv 0) pe_int set_list))
        (pss_one (ps_asg pe_int (pg_sub (pv 0) pe_int set_list)))))))))
      pss_nil)
    (pss_cons (ps_if (pt_cmpR (OpR.or op_gt op_gt_str) (pe_ix ix_seq (pv 0) pe_int (fun _ _ => rfl)) pe_int (nomark _))
      (pss_cons (ps_set (i := 3) sc_l_draw.nd rfl (.inl rfl) (pe_op op_mod (pe_callTy (CallR.or call_int1 call_int_str) (by rfl) T.z_int (by decide +kernel) (pa_cons (pe_ix ix_seq (pv 0) pe_int (fun _ _ => rfl)) pa_nil)) (pv 1)))
      (pss_cons (ps_asg (pe_op op_fdivW (pe_ix ix_seq (pv 0) pe_int (fun _ _ => rfl)) (pv 1)) (pg_sub (pv 0) pe_int set_list))
      (pss_one (ps_ret (pv 3)))))
      pss_nil)
    (pss_cons (ps_if (pt_cmpR (OpR.or op_gt op_gt_str) (pe_ix ix_seq (pv 0) pe_int (fun _ _ => rfl)) pe_int (nomark _))
      (pss_cons (ps_asg (pe_op op_sub (pe_ix ix_seq (pv 0) pe_int (fun _ _ => rfl)) pe_int) (pg_sub (pv 0) pe_int set_list))
      (pss_cons (ps_set (i := 4) sc_l_draw.nd rfl (.inl rfl) (pe_op op_mod (pe_callTy (CallR.or call_int1 call_int_str) (by rfl) T.z_int (by decide +kernel) (pa_cons (pe_op (OpR.or op_mul op_mulW) (pe_ix ix_seq (pv 0) pe_int (fun _ _ => rfl)) (pe_op (OpR.or op_add (OpR.or op_add_str (OpR.or op_cat op_catT))) pe_int (pe_op (OpR.or op_mul op_mulW) pe_int (pe_ix ix_seq (pv 0) pe_int (fun _ _ => rfl))))) pa_nil)) pe_int))
      (pss_cons (ps_set (i := 4) sc_l_draw.nd rfl (.inl rfl) (pe_op op_mod (pe_callTy (CallR.or call_int1 call_int_str) (by rfl) T.z_int (by decide +kernel) (pa_cons (pe_op (OpR.or op_mul op_mulW) (pv 4) (pe_op (OpR.or op_add (OpR.or op_add_str (OpR.or op_cat op_catT))) pe_int (pe_ix ix_seq (pv 0) pe_int (fun _ _ => rfl)))) pa_nil)) pe_int))
      (pss_one (ps_ret (pe_op op_mod (pe_callTy (CallR.or call_int1 call_int_str) (by rfl) T.z_int (by decide +kernel) (pa_cons (pv 4) pa_nil)) (pv 1)))))))
      pss_nil)
    (pss_one (ps_ret pe_int)))))), ?_⟩
    refine ⟨.int m, rfl, .inl ⟨m, 2, rfl, rfl, _, rfl, ite2 (fun e => ?_) (fun e => ?_)⟩⟩
    · exact q H 0 (Kp.refl _ _) ⟨ns, i, b, s, l, hne, hst, hsc, hi, hb, hs0, hs1, hl0, hl1⟩ (by omega) (by omega)
    · have hm2 : 2 ≤ m := by
        have := of_decide_eq_false (Bool.eq_false_iff.mpr e)
        omega
      refine ⟨fun σ' H' => ∃ y2 y3 y4, σ' = [some (.ref st), some (.int m), y2, y3, y4] ∧ Kp st H H' ∧ StaX H' st sc, ?_, ?_⟩
      · -- load
        have S0 : StaX H st sc := ⟨ns, i, b, s, l, hne, hst, hsc, hi, hb, hs0, hs1, hl0, hl1⟩
        refine ixv 2 rfl (SqL.of hst) rfl (eqi (ite2 (fun e1 => ?_) (fun e1 => ?_)))
        rotate_left
        · exact iteF ⟨_, _, _, rfl, Kp.refl _ _, S0⟩
        refine ixv 4 rfl (SqL.of hst) rfl (eqi (ite2 (fun e2 => ?_) (fun e2 => ?_)))
        rotate_left
        · exact iteF ⟨_, _, _, rfl, Kp.refl _ _, S0⟩
        refine ixv 1 rfl (SqL.of hst) rfl (ixv 0 rfl (SqL.of hst) rfl (.inr ⟨sc, _, rfl, .inl (SqL.of hsc), .inl ⟨i, _, rfl, rfl, _, rfl, ite2 (fun e3 => ?_) (fun e3 => ?_)⟩⟩))
        rotate_left
        · exact ⟨_, _, _, rfl, Kp.refl _ _, S0⟩
        have h3 : i < ns.length := by
          have := of_decide_eq_true e3
          simpa using this
        obtain ⟨j, rfl⟩ : ∃ j : Nat, i = j := ⟨i.toNat, by omega⟩
        have hj : j < ns.length := by omega
        refine ixv 0 rfl (SqL.of hst) rfl (ixv 1 rfl (SqL.of hst) rfl (.inl ⟨sc, _, _, .int ns[j], rfl, rfl, SqL.of hsc, atI_nat (by simp [hj]), ?_⟩))
        refine ixv 1 rfl (SqL.of hst) rfl (.inl ⟨_, 1, rfl, rfl, ?_⟩)
        refine ⟨.ref st, rfl, setv 1 hst (by simp) ?_⟩
        -- the cell, not below 0
        have tail : ∀ (c : Int) (y3 y4 : Option V), 0 ≤ c → tIfS (tTest (tOp (fun x y H Q => rI0 (fun i j => V.bl (decide (j ≤ i))) x y H Q ∨ ∃ i j, x = V.str i ∧ y = V.str j ∧ Q (V.bl (!decide (i.cps.toList < j.cps.toList))) H) (tVar 2) (tOp (rI CPow fun i j => V.int (i ^ j.toNat)) (tC (.int 10)) (tC (.int 18)))))
            (tAsg (tVar 2) (gSub (tVar 0) (tC (.int 2)) rSetL)) (tSeq (tAsg (tVar 2) (gSub (tVar 0) (tC (.int 3)) rSetL)) (tAsg (tC (.int 6)) (gSub (tVar 0) (tC (.int 4)) rSetL)))
            { nx := fun σ' H' => ∃ y2 y3 y4, σ' = [some (.ref st), some (.int m), y2, y3, y4] ∧ Kp st H H' ∧ StaX H' st sc, rt := Q } [some (.ref st), some (.int m), some (.int c), y3, y4] (upd H st (.lst [.ref sc, .int (j + 1), .int b, .int s, .int l])) := by
          intro c y3 y4 hc
          have hsc' : (upd H st (.lst [.ref sc, .int (j + 1), .int b, .int s, .int l])) sc = some (.lst (ns.map V.int)) := by
            rw [upd_ne hne]; exact hsc
          refine ⟨.int c, rfl, 10, 18, rfl, rfl, ⟨by decide, by decide⟩, .inl ⟨c, _, rfl, rfl, _, rfl, ite2 (fun e => ?_) (fun e => ?_)⟩⟩
          · refine ⟨.int c, rfl, .ref st, rfl, setv 2 upd_same (by simp) ?_⟩
            refine ⟨_, _, _, rfl, (Kp.refl _ _).put.put, ns, j + 1, c, s, l, hne, upd_same, ?_, by omega, hc, hs0, hs1, hl0, hl1⟩
            rw [upd_ne hne]; exact hsc'
          · have hlt : c < 10 ^ 18 := by
              have := of_decide_eq_false (Bool.eq_false_iff.mpr e)
              have e18 : (10 : Int) ^ (18 : Int).toNat = 10 ^ 18 := rfl
              rw [e18] at this
              omega
            refine ⟨.int c, rfl, .ref st, rfl, setv 3 upd_same (by simp) ?_⟩
            refine ⟨.ref st, rfl, setv 4 upd_same (by simp) ?_⟩
            refine ⟨_, _, _, rfl, (Kp.refl _ _).put.put.put, ns, j + 1, b, c, 6, hne, upd_same, ?_, by omega, hb, hc, hlt, by omega, by omega⟩
            rw [upd_ne hne, upd_ne hne]; exact hsc'
        refine ⟨.int ns[j], rfl, .inl ⟨_, 0, rfl, rfl, _, rfl, ite2 (fun e => ?_) (fun e => ?_)⟩⟩
        · have hneg : ns[j] < 0 := of_decide_eq_true e
          refine ⟨.int ns[j], rfl, .inl ⟨2, _, rfl, rfl, .inl ⟨by decide, by decide⟩, 1, _, rfl, rfl, ?_⟩⟩
          exact tail (1 - 2 * ns[j]) _ _ (by omega)
        · have hpos : ¬ ns[j] < 0 := of_decide_eq_false (Bool.eq_false_iff.mpr e)
          exact tail ns[j] _ _ (by omega)
      · rintro σ' H1 ⟨y2, y3, y4, rfl, hk, ns, i, b, s, l, hne, hst, hsc, hi, hb, hs0, hs1, hl0, hl1⟩
        have hsc2 : ∀ o, (upd H1 st o) sc = some (.lst (ns.map V.int)) := fun o => by
          rw [upd_ne hne]; exact hsc
        refine ixv 2 rfl (SqL.of hst) rfl (.inl ⟨b, 0, rfl, rfl, _, rfl, ite2 (fun e => ?_) (fun e => ?_)⟩)
        · have hb1 : 0 < b := of_decide_eq_true e
          refine ixv 2 rfl (SqL.of hst) rfl (.inl (.inl ⟨b, rfl, .int m, rfl, b, m, rfl, rfl, by omega, ?_⟩))
          refine ixv 2 rfl (SqL.of hst) rfl ⟨.int m, rfl, b, m, rfl, rfl, wide_div (b := 60) (by omega) (by omega) (by decide) (by decide), .ref st, rfl, setv 2 hst (by simp) ?_⟩
          refine ⟨.int (b % m), rfl, q _ _ hk.put ⟨ns, i, b / m, s, l, hne, upd_same, hsc2 _, hi, Int.ediv_nonneg hb (by omega), hs0, hs1, hl0, hl1⟩ (Int.emod_nonneg _ (by omega)) (Int.emod_lt_of_pos _ (by omega))⟩
        · refine ixv 4 rfl (SqL.of hst) rfl (.inl ⟨l, 0, rfl, rfl, _, rfl, ite2 (fun e2 => ?_) (fun e2 => ?_)⟩)
          · have hl2 : 0 < l := of_decide_eq_true e2
            refine ixv 4 rfl (SqL.of hst) rfl ⟨l, 1, rfl, rfl, .ref st, rfl, setv 4 hst (by simp) ?_⟩
            have hA : (upd H1 st (.lst [.ref sc, .int i, .int b, .int s, .int (l - 1)])) st = some (.lst [.ref sc, .int i, .int b, .int s, .int (l - 1)]) := upd_same
            refine ixv 3 rfl (SqL.of hA) rfl (ixv 4 rfl (SqL.of hA) rfl (.inl ⟨2, l - 1, rfl, rfl, .inl ⟨by decide, by decide⟩, ?_⟩))
            refine .inl ⟨48271, _, rfl, rfl, .inl ⟨s, _, rfl, rfl, .inl ⟨by omega, by omega⟩, ?_⟩⟩
            refine .inl (.inl ⟨_, rfl, _, 2147483647, rfl, rfl, by (show (0 : Int) < _; decide), ?_⟩)
            have h4 := Int.emod_nonneg (s * (48271 + 2 * (l - 1))) (show (2147483647 : Int) ≠ 0 by decide)
            have h5 := Int.emod_lt_of_pos (s * (48271 + 2 * (l - 1))) (show (0 : Int) < 2147483647 by decide)
            refine ⟨.int (s * (48271 + 2 * (l - 1)) % 2147483647), rfl, ixv 4 rfl (SqL.of hA) rfl (.inl ⟨16807, l - 1, rfl, rfl, .inl ⟨_, _, rfl, rfl, .inl ⟨by omega, by omega⟩, ?_⟩⟩)⟩
            refine .inl (.inl ⟨_, rfl, _, 1000003, rfl, rfl, by (show (0 : Int) < _; decide), ?_⟩)
            refine ⟨_, rfl, .inl (.inl ⟨_, rfl, .int m, rfl, _, m, rfl, rfl, by omega, ?_⟩)⟩
            exact q _ _ hk.put ⟨ns, i, b, s, l - 1, hne, upd_same, hsc2 _, hi, hb, hs0, hs1, by omega, by omega⟩ (Int.emod_nonneg _ (by omega)) (Int.emod_lt_of_pos _ (by omega))
          · exact q _ _ hk ⟨ns, i, b, s, l, hne, hst, hsc, hi, hb, hs0, hs1, hl0, hl1⟩ (by omega) (by omega)
end
end K0


namespace K0
open PySem PySem.Spec PyProof.Rows L2
section
variable {P : Program} {w : World} {K : PySem.W.Frag} {mg : Str → Option Value} {base : Heap} {a : Ad}
def spStyled : Sp := fun vs H Q _ => ∃ (st : Addr) (n : Nat), vs = [.ref st, .int (n : Int)] ∧ Sta H st ∧ n ≤ 6 ∧ ∀ (H' : Hp) (r : Addr) (css : List (List Nat)), Kp st H H' → Sta H' st → H r = none → H' r = some (.tup (css.map tx)) → css.length = n → css.Pairwise (· < ·) → (∀ c ∈ css, isNameL c = true ∧ c.length ≤ 4) → (∀ c ∈ css, c.headD 0 < 122) → Q (.ref r) H'
abbrev abc : Str := Str.ofString "abcdefghijklmnopqrstuvwxyz"
theorem ixabc {K : PySem.W.Frag} {j : Nat} {i : Int} (hj : j < 26) (hi : i = (j : Int)) {H : Hp} {Q : VK} (q : Q (sg (97 + j)) H) : rIx K (.str abc) (.int i) H Q := by
  subst hi
  exact .inr (.inr ⟨_, _, 97 + j, rfl, rfl, Nat.le_of_lt (small1000 (by decide +kernel)), atI_nat (abc_at j hj), q⟩)
theorem log_small {i : Int} {n : Nat} (h : i = (n : Int)) (hn : n ≤ 1000) : i.natAbs.log2 < 1920 := by
  subst h
  have := Nat.log2_le_self (Int.natAbs (n : Int))
  omega
theorem ce1 (c : Nat) (l : List Nat) : (⟨#[c]⟩ : Str) ++ (⟨l.toArray⟩ : Str) = ⟨(c :: l).toArray⟩ := cat_tx [c] l
theorem cl1 {c : Nat} {l : List Nat} (h : l.length ≤ 400) : (⟨#[c]⟩ : Str).length + (⟨l.toArray⟩ : Str).length ≤ sizeLine := by
  rw [len_tx]
  exact small_le (by show 1 + l.length ≤ 1000; omega)
theorem cl2 {l m : List Nat} (hl : l.length ≤ 400) (h : m.length ≤ 400) : (⟨l.toArray⟩ : Str).length + (⟨m.toArray⟩ : Str).length ≤ sizeLine := by
  rw [len_tx, len_tx]
  exact small_le (by omega)
theorem sfx_at : ∀ i, i < 6 → ([Str.ofString "", Str.ofString "0", Str.ofString "00", Str.ofString "000", Str.ofString "01", Str.ofString "1"] : List Str)[i]? = some ⟨(sfx i).toArray⟩ := by
  have : (List.range 6).all (fun i => decide (([Str.ofString "", Str.ofString "0", Str.ofString "00", Str.ofString "000", Str.ofString "01", Str.ofString "1"] : List Str)[i]? = some ⟨(sfx i).toArray⟩)) = true := by decide +kernel
  intro i hi
  exact of_decide_eq_true (List.all_eq_true.mp this i (List.mem_range.mpr hi))
theorem str7 : Str.ofString "7" = ⟨#[55]⟩ := by decide +kernel
theorem ok_styled (T : Top K mg a) (G_l_draw : FnOk P w K mg base CX0 1 a.f_l_draw a.d_l_draw ["_law_state_here", "_law_many"] spDraw) (G_l_wide : FnOk P w K mg base CX0 2 a.f_l_wide a.d_l_wide ["_law_feed", "_law_many"] spWide) : FnOk P w K mg base CX0 3 a.f_l_styled a.d_l_styled ["_law_feed", "_law_count"] spStyled := by
  refine T.F_l_styled.ok sc_l_styled (fun vs H Q E h => ?_) (fun cdv A outer s H vs Q E hr h => ?_)
  · obtain ⟨_, _, rfl, _⟩ := h
    rfl
  · obtain ⟨st, n, rfl, S, hn, q⟩ := h
    refine ⟨_, (pss_cons (ps_set (i := 2) sc_l_styled.nd rfl (.inl rfl) (pe_call G_l_draw (hr.mono (by decide)) (by rfl) T.m_l_draw T.F_l_draw.kp T.b_l_draw .nil pass0 (pa_cons (pv 0) (pa_cons pe_int pa_nil))))
    (pss_cons (ps_set (i := 3) sc_l_styled.nd rfl (.inl rfl) (pe_call G_l_draw (hr.mono (by decide)) (by rfl) T.m_l_draw T.F_l_draw.kp T.b_l_draw .nil pass0 (pa_cons (pv 0) (pa_cons pe_int pa_nil))))
    (pss_cons (ps_set (i := 4) sc_l_styled.nd rfl (.inl rfl) (pe_call G_l_wide (hr.mono (by decide)) (by rfl) T.m_l_wide T.F_l_wide.kp T.b_l_wide .nil pass0 (pa_cons (pv 0) (pa_cons pe_int pa_nil))))
    (pss_cons (ps_set (i := 5) sc_l_styled.nd rfl (.inl rfl) pe_str)
    (pss_cons (ps_set (i := 6) sc_l_styled.nd rfl (.inl rfl) (pe_lst pa_nil))
    (pss_cons (ps_for PassesOwn.never rfl (pi_range1 (by rfl) T.z_range (pa_cons (pv 1) pa_nil)) (pg_name (i := 7) sc_l_styled.nd rfl (.inl rfl))
      (pss_one (ps_if (pt_cmpR (OpR.or op_eq (op_eqD hr.units)) (pv 2) pe_int (nomark _))
        (pss_one (ps_expr (pe_bm PySem.F.plainAttrs_list PySem.F.slot_list_append PySem.F.type_list_append mt_append (pv 6) (pa_cons (pe_ix ix_seq (pv 5) (pe_op (OpR.or op_add (OpR.or op_add_str (OpR.or op_cat op_catT))) (pv 3) (pv 7)) (fun _ _ => rfl)) pa_nil))))
        (pss_one (ps_if (pt_cmpR (OpR.or op_eq (op_eqD hr.units)) (pv 2) pe_int (nomark _))
          (pss_one (ps_expr (pe_bm PySem.F.plainAttrs_list PySem.F.slot_list_append PySem.F.type_list_append mt_append (pv 6) (pa_cons (pe_op (OpR.or op_add (OpR.or op_add_str (OpR.or op_cat op_catT))) (pe_ix ix_seq (pv 5) (pv 3) (fun _ _ => rfl)) (pe_callTy call_str_int (by rfl) T.z_str (by decide +kernel) (pa_cons (pe_op (OpR.or op_add (OpR.or op_add_str (OpR.or op_cat op_catT))) (pe_op (OpR.or op_mul op_mulW) pe_int (pv 7)) pe_int) pa_nil))) pa_nil))))
          (pss_one (ps_if (pt_cmpR (OpR.or op_eq (op_eqD hr.units)) (pv 2) pe_int (nomark _))
            (pss_one (ps_expr (pe_bm PySem.F.plainAttrs_list PySem.F.slot_list_append PySem.F.type_list_append mt_append (pv 6) (pa_cons (pe_op (OpR.or op_add (OpR.or op_add_str (OpR.or op_cat op_catT))) (pe_ix ix_seq (pv 5) (pv 3) (fun _ _ => rfl)) (pe_ix ix_seq (pe_tup (pa_cons pe_str (pa_cons pe_str (pa_cons pe_str (pa_cons pe_str (pa_cons pe_str (pa_cons pe_str pa_nil))))))) (pv 7) (fun _ _ => rfl))) pa_nil))))
            (pss_one (ps_if (pt_cmpR (OpR.or op_eq (op_eqD hr.units)) (pv 2) pe_int (nomark _))
              (pss_one (ps_expr (pe_bm PySem.F.plainAttrs_list PySem.F.slot_list_append PySem.F.type_list_append mt_append (pv 6) (pa_cons (pe_op (OpR.or op_add (OpR.or op_add_str (OpR.or op_cat op_catT))) (pe_ix ix_seq (pv 5) (pe_op (OpR.or op_add (OpR.or op_add_str (OpR.or op_cat op_catT))) (pv 3) (pv 7)) (fun _ _ => rfl)) (pe_callTy call_str_int (by rfl) T.z_str (by decide +kernel) (pa_cons (pe_op op_mod (pe_callTy (CallR.or call_int1 call_int_str) (by rfl) T.z_int (by decide +kernel) (pa_cons (pe_op (OpR.or op_mul op_mulW) (pv 4) (pe_op (OpR.or op_add (OpR.or op_add_str (OpR.or op_cat op_catT))) (pv 7) pe_int)) pa_nil)) pe_int) pa_nil))) pa_nil))))
              (pss_cons (ps_set (i := 8) sc_l_styled.nd rfl (.inl rfl) (pe_op op_mod (pe_callTy (CallR.or call_int1 call_int_str) (by rfl) T.z_int (by decide +kernel) (pa_cons (pv 4) pa_nil)) pe_int))
              (pss_one (ps_expr (pe_bm PySem.F.plainAttrs_list PySem.F.slot_list_append PySem.F.type_list_append mt_append (pv 6) (pa_cons (pe_op (OpR.or op_add (OpR.or op_add_str (OpR.or op_cat op_catT))) (pe_op (OpR.or op_add (OpR.or op_add_str (OpR.or op_cat op_catT))) (pe_op (OpR.or op_add (OpR.or op_add_str (OpR.or op_cat op_catT))) (pe_ix ix_seq (pv 5) (pv 3) (fun _ _ => rfl)) (pe_op R1.op_rep pe_str (pv 8))) (pe_callTy call_str_int (by rfl) T.z_str (by decide +kernel) (pa_cons (pv 7) pa_nil))) (pe_op R1.op_rep pe_str (pe_op op_sub pe_int (pv 8)))) pa_nil))))))))))))))
    (pss_one (ps_ret (pe_callTy call_tuple_of (by rfl) T.z_tuple (by decide +kernel) (pa_cons (pe_callB (R0.cr_sortD hr.units) (by rfl) T.z_sorted (by decide +kernel) (pa_cons (pv 6) pa_nil)) pa_nil)))))))))), ?_⟩
    refine ⟨.ref st, rfl, st, 5, rfl, S, by decide, by decide, fun H1 v1 k1 S1 a1 b1 => ?_⟩
    obtain ⟨sy, rfl⟩ : ∃ j : Nat, v1 = j := ⟨v1.toNat, by omega⟩
    refine ⟨.ref st, rfl, st, 20, rfl, S1, by decide, by decide, fun H2 v2 k2 S2 a2 b2 => ?_⟩
    obtain ⟨fi, rfl⟩ : ∃ j : Nat, v2 = j := ⟨v2.toNat, by omega⟩
    refine ⟨.ref st, rfl, st, 1000, rfl, S2, by decide, fun H3 v3 k3 S3 a3 b3 => ?_⟩
    obtain ⟨nu, rfl⟩ : ∃ j : Nat, v3 = j := ⟨v3.toNat, by omega⟩
    refine ⟨Nat.zero_le _, fun F nF => ?_⟩
    have hfi : fi < 20 := by omega
    obtain ⟨sc, X3⟩ := S3.x
    obtain ⟨nF1, nF2⟩ := X3.ne nF
    have k03 := (k1.trans k2).trans k3
    have k04 : Kp st H (upd H3 F (.lst [])) := k03.trans (Same.kp (same_upd nF))
    have nF0 : H F = none := k03.free S nF nF1
    refine ⟨.int (n : Int), rfl, (n : Int), rfl, by omega, by omega, for_it walk_range (fun i σ' H' => ∃ y7 y8, σ' = [some (.ref st), some (.int (n : Int)), some (.int (sy : Int)), some (.int (fi : Int)), some (.int (nu : Int)), some (.str abc), some (.ref F), y7, y8] ∧ Kp st H H' ∧ StaX H' st sc ∧ H' F = some (.lst (((List.range i).map (nameS sy fi nu)).map tx))) ⟨none, none, rfl, k04, X3.same (same_upd nF), upd_same⟩ (fun _ _ _ _ _ => trivial) ?_ ?_⟩
    · rintro i x σ' _ H4 hi ⟨y7, y8, rfl, k4, S4, hF⟩ ⟨rfl, rfl⟩
      have hi6 : i < 6 := by omega
      have la : (((List.range i).map (nameS sy fi nu)).map tx).length ≤ 1000 := by simp; omega
      have kF : ∀ o, Kp st H (upd H4 F o) := fun o b u hb h => by
        rw [upd_ne (ne_of_none h nF0)]
        exact k4 b u hb h
      have hF' : ∀ c, c = nameS sy fi nu i → (upd H4 F (.lst (((List.range i).map (nameS sy fi nu)).map tx ++ [tx c]))) F = some (.lst (((List.range (i + 1)).map (nameS sy fi nu)).map tx)) := fun c e => by
        rw [upd_same, e, List.range_succ, List.map_append, List.map_append]
        rfl
      have ix0 : ((fi : Int) + (0 + (i : Int))) = ((fi + i : Nat) : Int) := by omega
      refine ⟨_, rfl, eqi (ite2 (fun e0 => ?_) (fun e0 => ?_))⟩
      · have hs : sy = 0 := by have := of_decide_eq_true e0; omega
        subst hs
        refine ⟨.ref F, rfl, .inl ⟨rfl, _, SqL.of hF⟩, .str abc, rfl, .int (fi : Int), rfl, .int (0 + (i : Int)), rfl, .inl ⟨_, _, rfl, rfl, ?_⟩⟩
        refine ixabc (j := fi + i) (by omega) ix0 ?_
        exact ⟨F, _, _, rfl, rfl, hF, small1000 la, _, _, rfl, kF _, S4.upd nF1 nF2, hF' [97 + (fi + i)] (by simp [nameS, hdS, tlS])⟩
      have s0 : sy ≠ 0 := fun z => e0 (decide_eq_true (by omega))
      refine ⟨_, rfl, eqi (ite2 (fun e1 => ?_) (fun e1 => ?_))⟩
      · have hs : sy = 1 := by have := of_decide_eq_true e1; omega
        subst hs
        have e9 : (9 * (0 + (i : Int)) + 1) = ((9 * i + 1 : Nat) : Int) := by omega
        refine ⟨.ref F, rfl, .inl ⟨rfl, _, SqL.of hF⟩, .str abc, rfl, .int (fi : Int), rfl, ?_⟩
        refine ixabc (j := fi) (by omega) rfl ?_
        refine ⟨.int (0 + (i : Int)), rfl, .inl ⟨9, _, rfl, rfl, .inl ⟨by decide, by decide⟩, .inl ⟨_, 1, rfl, rfl, _, rfl, log_small (n := 9 * i + 1) e9 (by omega), ?_⟩⟩⟩
        rw [e9, d1_str]
        have hd := (d1_ok (9 * i + 1) (by omega)).1
        refine .inr (.inl ⟨⟨#[97 + fi]⟩, ⟨(d1 (9 * i + 1)).toArray⟩, rfl, rfl, cl1 (by omega), ?_⟩)
        rw [ce1]
        exact ⟨F, _, _, rfl, rfl, hF, small1000 la, _, _, rfl, kF _, S4.upd nF1 nF2, hF' ((97 + fi) :: d1 (9 * i + 1)) (by simp [nameS, hdS, tlS])⟩
      have s1 : sy ≠ 1 := fun z => e1 (decide_eq_true (by omega))
      refine ⟨_, rfl, eqi (ite2 (fun e2 => ?_) (fun e2 => ?_))⟩
      · have hs : sy = 2 := by have := of_decide_eq_true e2; omega
        subst hs
        refine ⟨.ref F, rfl, .inl ⟨rfl, _, SqL.of hF⟩, .str abc, rfl, .int (fi : Int), rfl, ?_⟩
        refine ixabc (j := fi) (by omega) rfl ?_
        refine ⟨Nat.le_of_lt (small1000 (by simp)), fun pt npt => ⟨.int (0 + (i : Int)), rfl, .inr (.inl ⟨pt, _, 0 + (i : Int), tx (sfx i), rfl, rfl, SqT.of upd_same, ?_, ?_⟩)⟩⟩
        · rw [Int.zero_add]
          refine atI_nat ?_
          have := sfx_at i hi6
          show (([Str.ofString "", Str.ofString "0", Str.ofString "00", Str.ofString "000", Str.ofString "01", Str.ofString "1"] : List Str).map V.str)[i]? = _
          rw [List.getElem?_map, this]; rfl
        · have hk := (tl_ok (style := 2) (num := 0) hi6).1
          refine .inr (.inl ⟨⟨#[97 + fi]⟩, ⟨(sfx i).toArray⟩, rfl, rfl, cl1 (show (sfx i).length ≤ 400 from Nat.le_trans hk (by decide)), ?_⟩)
          rw [ce1]
          have sm := same_upd (o := .tup [.str (Str.ofString ""), .str (Str.ofString "0"), .str (Str.ofString "00"), .str (Str.ofString "000"), .str (Str.ofString "01"), .str (Str.ofString "1")]) npt
          refine ⟨F, _, _, rfl, rfl, sm _ _ hF, small1000 la, _, _, rfl, fun b u hb h => ?_, (S4.same sm).upd nF1 nF2, ?_⟩
          · rw [upd_ne (ne_of_none h nF0)]
            exact sm _ _ (k4 b u hb h)
          · rw [upd_same]
            have := hF' ((97 + fi) :: sfx i) (by simp [nameS, hdS, tlS])
            rw [upd_same] at this
            exact this
      have s2 : sy ≠ 2 := fun z => e2 (decide_eq_true (by omega))
      refine ⟨_, rfl, eqi (ite2 (fun e3 => ?_) (fun e3 => ?_))⟩
      · have hs : sy = 3 := by have := of_decide_eq_true e3; omega
        subst hs
        have em : ((nu : Int) * (0 + (i : Int) + 1) % 1000) = ((nu * (i + 1) % 1000 : Nat) : Int) := by
          rw [Int.zero_add]
          push_cast
          rfl
        refine ⟨.ref F, rfl, .inl ⟨rfl, _, SqL.of hF⟩, .str abc, rfl, .int (fi : Int), rfl, .int (0 + (i : Int)), rfl, .inl ⟨_, _, rfl, rfl, ?_⟩⟩
        refine ixabc (j := fi + i) (by omega) ix0 ?_
        have hlt : nu * (i + 1) % 1000 < 1000 := Nat.mod_lt _ (by decide)
        refine ⟨.int (nu : Int), rfl, .int (0 + (i : Int)), rfl, .inl ⟨_, 1, rfl, rfl, .inl ⟨_, _, rfl, rfl, .inl ⟨by omega, by omega⟩, .inl (.inl ⟨_, rfl, _, 1000, rfl, rfl, by (show (0 : Int) < _; decide), _, rfl, log_small em (by omega), ?_⟩)⟩⟩⟩
        rw [em, d1_str]
        have hd := (d1_ok _ hlt).1
        refine .inr (.inl ⟨⟨#[97 + (fi + i)]⟩, ⟨(d1 (nu * (i + 1) % 1000)).toArray⟩, rfl, rfl, cl1 (by omega), ?_⟩)
        rw [ce1]
        exact ⟨F, _, _, rfl, rfl, hF, small1000 la, _, _, rfl, kF _, S4.upd nF1 nF2, hF' ((97 + (fi + i)) :: d1 (nu * (i + 1) % 1000)) (by simp [nameS, hdS, tlS])⟩
      have s3 : sy ≠ 3 := fun z => e3 (decide_eq_true (by omega))
      have e3m : ((nu : Int) % 3) = ((nu % 3 : Nat) : Int) := by push_cast; rfl
      have hm3 : nu % 3 < 3 := Nat.mod_lt _ (by decide)
      refine ⟨.int (nu : Int), rfl, .inl (.inl ⟨(nu : Int), rfl, (nu : Int), 3, rfl, rfl, by (show (0 : Int) < _; decide), ?_⟩)⟩
      refine ⟨.ref F, rfl, .inl ⟨rfl, _, SqL.of hF⟩, .str abc, rfl, .int (fi : Int), rfl, ?_⟩
      refine ixabc (j := fi) (by omega) rfl ?_
      refine ⟨_, rfl, [55], nu % 3, congrArg V.str str7, congrArg V.int e3m, by omega, by simp, by simp, ?_⟩
      have r1 : (R1.repT (nu % 3) [55]).length ≤ 3 := by rw [R1.rep_len]; simp; omega
      have r2 : (R1.repT (2 - nu % 3) [55]).length ≤ 3 := by rw [R1.rep_len]; simp; omega
      refine .inr (.inl ⟨⟨#[97 + fi]⟩, ⟨(R1.repT (nu % 3) [55]).toArray⟩, rfl, rfl, cl1 (by omega), ?_⟩)
      rw [ce1]
      refine ⟨.int (0 + (i : Int)), rfl, _, rfl, log_small (n := i) (by omega) (by omega), ?_⟩
      rw [Int.zero_add, d1_str]
      have hd := (d1_ok i (by omega)).1
      refine .inr (.inl ⟨⟨((97 + fi) :: R1.repT (nu % 3) [55]).toArray⟩, ⟨(d1 i).toArray⟩, rfl, rfl, cl2 (by simp; omega) (by omega), ?_⟩)
      rw [cat_tx]
      refine ⟨_, rfl, 2, (nu : Int) % 3, rfl, rfl, [55], 2 - nu % 3, congrArg V.str str7, congrArg V.int (by omega), by omega, by simp, by simp, ?_⟩
      refine .inr (.inl ⟨⟨((97 + fi) :: R1.repT (nu % 3) [55] ++ d1 i).toArray⟩, ⟨(R1.repT (2 - nu % 3) [55]).toArray⟩, rfl, rfl, cl2 (by simp; omega) (by omega), ?_⟩)
      rw [cat_tx]
      exact ⟨F, _, _, rfl, rfl, hF, small1000 la, _, _, rfl, kF _, S4.upd nF1 nF2, hF' _ (by simp [nameS, hdS, tlS, s0, s1, s2, s3])⟩
    · rintro σ' H4 ⟨y7, y8, rfl, k4, S4, hF⟩
      have hn6 : (n : Int).toNat = n := by omega
      rw [hn6] at hF
      obtain ⟨cs, hcs⟩ : ∃ cs, cs = (List.range n).map (nameS sy fi nu) := ⟨_, rfl⟩
      rw [← hcs] at hF
      have hA : R1.Al (fun x c => x = tx c) (cs.map tx) cs := ⟨by simp, fun i x c hx hc => by
        rw [List.getElem?_map, hc] at hx
        exact (Option.some.inj hx).symm⟩
      have hk : ∀ d ∈ cs.map encT, ∃ c, d = encT c := fun d hd => by
        obtain ⟨c, _, rfl⟩ := List.mem_map.mp hd
        exact ⟨c, rfl⟩
      have hS := R1.sort_al encT hA
      have eS : R0.sortV (cs.map tx) (cs.map encT) = (R1.sortK encT cs).map tx := al_eq (g := tx) hS.1 hS.2
      refine ⟨.ref F, rfl, F, _, cs.map encT, rfl, SqL.of hF, ?_, fun d hd d' hd' => ?_, .inr fun d hd => ?_, fun d hd => ?_, fun l nl => ?_⟩
      · have : ∀ cs : List (List Nat), DpAll K H4 (cs.map tx) (cs.map encT) := fun cs => dp_strs cs
        exact this cs
      · obtain ⟨_, rfl⟩ := hk d hd
        obtain ⟨_, rfl⟩ := hk d' hd'
        exact encT_alike _ _
      · obtain ⟨_, rfl⟩ := hk d hd
        exact ⟨by simp [encT], by simp [encT]⟩
      · obtain ⟨_, rfl⟩ := hk d hd
        simp [encT, PyData.depth]
      · rw [eS]
        refine ⟨l, _, rfl, .inl ⟨SqL.of upd_same, fun t nt => ?_⟩⟩
        have s1 : Same H4 (upd H4 l (.lst ((R1.sortK encT cs).map tx))) := same_upd nl
        have s2 := s1.trans (same_upd (o := .tup ((R1.sortK encT cs).map tx)) nt)
        have f := styl_facts (style := sy) (first := fi) (num := nu) hfi hn
        have fh := styl_hd (style := sy) (first := fi) (num := nu) hfi hn
        unfold styl at f fh
        rw [← hcs] at f fh
        have nt4 : H4 t = none := s1.free nt
        have S5 := (S4.s).same s2
        have nts : t ≠ st := (S4.ne nt4).1
        refine q _ t (R1.sortK encT cs) (k4.trans (Same.kp s2)) S5 (k4.free S nt4 nts) upd_same f.1 f.2.1 f.2.2 fh
end
end K0


namespace K0
open PySem PySem.Spec PyProof.Rows L2
section
variable {P : Program} {w : World} {K : PySem.W.Frag} {mg : Str → Option Value} {base : Heap} {a : Ad}
/-- no name, whatever is drawn -/
def BadV (K : PySem.W.Frag) (st : Addr) (H : Hp) (x : V) : Prop := ∀ H', Kp st H H' → NameOk K H' x false ∧ Sm K 3 H' x x
theorem BadV.kp {st : Addr} {H H' : Hp} {x : V} (h : BadV K st H x) (k : Kp st H H') : BadV K st H' x := fun H2 k2 => h H2 (k.trans k2)
theorem bad_tx {st : Addr} {H : Hp} {cs : List Nat} (hl : cs.length ≤ 1000) (h : isNameL cs = false) : BadV K st H (tx cs) := fun H' _ => ⟨.inr ⟨cs, rfl, hl, h.symm⟩, .str _⟩
theorem same_kp {st : Addr} {H H' : Hp} (h : Same H H') : Kp st H H' := Same.kp h
theorem up26 : ∀ j, j < 26 → Txt.upper ⟨#[97 + j]⟩ = ⟨#[65 + j]⟩ := by
  have : (List.range 26).all (fun j => decide (Txt.upper ⟨#[97 + j]⟩ = ⟨#[65 + j]⟩)) = true := by decide +kernel
  intro j hj
  exact of_decide_eq_true (List.all_eq_true.mp this j (List.mem_range.mpr hj))
def spNoName (K : PySem.W.Frag) : Sp := fun vs H Q _ => ∃ (st : Addr), vs = [.ref st] ∧ Sta H st ∧ ∀ H' x, Kp st H H' → Sta H' st → BadV K st H' x → Q x H'
theorem ok_noName (T : Top K mg a) (G_l_draw : FnOk P w K mg base CX0 1 a.f_l_draw a.d_l_draw ["_law_state_here", "_law_many"] spDraw) (G_l_name : FnOk P w K mg base CX0 2 a.f_l_name a.d_l_name ["_law_state_here"] spName) : FnOk P w K mg base CX0 3 a.f_l_no_name a.d_l_no_name ["_law_state_here"] (spNoName K) := by
  refine T.F_l_no_name.ok sc_l_no_name (fun vs H Q E h => ?_) (fun cdv A outer s H vs Q E hr h => ?_)
  · obtain ⟨_, rfl, _⟩ := h
    rfl
  · obtain ⟨st, rfl, S, q⟩ := h
    refine ⟨_, (pss_cons (ps_set (i := 1) sc_l_no_name.nd rfl (.inl rfl) (pe_call G_l_name (hr.mono (by decide)) (by rfl) T.m_l_name T.F_l_name.kp T.b_l_name .nil pass0 (pa_cons (pv 0) pa_nil)))
    (pss_cons (ps_set (i := 2) sc_l_no_name.nd rfl (.inl rfl) (pe_op op_add_str (pe_bm0 PySem.F.plainAttrs_str PySem.F.slot_str_upper PySem.F.type_str_upper mt_upper (pe_ix ix_seq (pv 1) pe_int (fun _ _ => rfl)) ) (pe_slice sl_str (pv 1) (po_some pe_int) po_none)))
    (pss_cons (ps_set (i := 3) sc_l_no_name.nd rfl (.inl rfl) (pe_slice sl_str (pe_op op_add_str (pv 1) pe_str) po_none (po_some pe_int)))
    (pss_cons (ps_set (i := 4) sc_l_no_name.nd rfl (.inl rfl) (pe_tup (pa_cons pe_str (pa_cons (pv 2) (pa_cons (pv 3) (pa_cons (pe_op op_add_str pe_str (pv 1)) (pa_cons (pe_op op_add_str (pe_op op_add_str (pe_ix ix_seq (pv 1) pe_int (fun _ _ => rfl)) pe_str) (pe_slice sl_str (pv 1) (po_some pe_int) po_none)) (pa_cons (pe_op op_add_str (pv 1) pe_str) pa_nil))))))))
    (pss_cons (ps_set (i := 5) sc_l_no_name.nd rfl (.inl rfl) (pe_tup (pa_cons pe_non (pa_cons (pe_tup (pa_cons (pv 1) pa_nil)) (pa_cons pe_int (pa_cons (pe_op op_add_str pe_str (pv 1)) (pa_cons (pe_op op_add_str (pe_ix ix_seq (pv 1) pe_int (fun _ _ => rfl)) pe_str) (pa_cons (pe_lst (pa_cons (pv 1) pa_nil)) pa_nil))))))))
    (pss_one (ps_ret (pe_ix ix_seq (pe_op op_catT (pv 4) (pv 5)) (pe_call G_l_draw (hr.mono (by decide)) (by rfl) T.m_l_draw T.F_l_draw.kp T.b_l_draw .nil pass0 (pa_cons (pv 0) (pa_cons pe_int pa_nil))) (fun _ _ => rfl))))))))), ?_⟩
    refine ⟨.ref st, rfl, st, rfl, S, fun H1 c ds k1 S1 hc hd hl => ?_⟩
    have hc2 : 97 ≤ c ∧ c ≤ 122 := by unfold Lw at hc; rw [Bool.and_eq_true] at hc; exact ⟨of_decide_eq_true hc.1, of_decide_eq_true hc.2⟩
    obtain ⟨j, rfl⟩ : ∃ j, c = 97 + j := ⟨c - 97, by omega⟩
    have len : ∀ l : List Nat, l.length ≤ 1000 → (⟨l.toArray⟩ : Str).length ≤ sizeLine := fun l h => by rw [len_tx]; exact small_le h
    have hat : ((97 + j) :: ds)[0]? = some (97 + j) := rfl
    have ix0 : ∀ {H : Hp} {Q : VK}, Q (sg (97 + j)) H → rIx K (tx ((97 + j) :: ds)) (.int 0) H Q := fun {H Q} q => .inr (.inr ⟨_, 0, 97 + j, rfl, rfl, len _ (by simp; omega), atI_nat (by rw [List.toList_toArray]; exact hat), q⟩)
    have nl : ((97 + j) :: ds).length ≤ 4 := by simp; omega
    have c1 : cutS ⟨((97 + j) :: ds).toArray⟩ (some 1) none = ⟨ds.toArray⟩ := cut_suf ((97 + j) :: ds) 1 (by simp)
    have e0000 : Str.ofString "0000" = ⟨#[48, 48, 48, 48]⟩ := by decide +kernel
    have eb : Str.ofString "b" = ⟨#[98]⟩ := by decide +kernel
    have esp : Str.ofString " " = ⟨#[32]⟩ := by decide +kernel
    have eda : Str.ofString "-" = ⟨#[45]⟩ := by decide +kernel
    refine ⟨_, rfl, ix0 ⟨rfl, _, rfl, rfl, (by show 1 ≤ 5592405; decide), ?_⟩⟩
    refine ⟨_, rfl, 1, rfl, ?_⟩
    dsimp only [tNoPart]
    refine ⟨_, rfl, len _ (by omega), ⟨#[65 + j]⟩, ⟨ds.toArray⟩, congrArg V.str (up26 j (by omega)), congrArg V.str c1, cl1 (by omega), ?_⟩
    rw [ce1]
    refine ⟨_, rfl, ⟨((97 + j) :: ds).toArray⟩, ⟨[48, 48, 48, 48].toArray⟩, rfl, congrArg V.str e0000, cl2 (by omega) (by simp), ?_⟩
    dsimp only [tNoPart]
    rw [cat_tx]
    refine ⟨5, rfl, _, rfl, len _ (by simp; omega), ?_⟩
    have c5 := cut_pre ((97 + j) :: ds ++ [48, 48, 48, 48]) 5
    rw [show ((5 : Nat) : Int) = 5 from rfl] at c5
    rw [c5]
    -- the first six
    refine ⟨_, rfl, _, rfl, _, rfl, ⟨[55].toArray⟩, ⟨((97 + j) :: ds).toArray⟩, congrArg V.str str7, rfl, cl2 (by simp) (by omega), ?_⟩
    rw [cat_tx]
    refine ⟨_, rfl, ix0 ⟨⟨[97 + j].toArray⟩, ⟨[98].toArray⟩, rfl, congrArg V.str eb, cl2 (by simp) (by simp), ?_⟩⟩
    rw [cat_tx]
    refine ⟨_, rfl, 1, rfl, ?_⟩
    dsimp only [tNoPart]
    refine ⟨_, rfl, len _ (by omega), ⟨([97 + j] ++ [98]).toArray⟩, ⟨ds.toArray⟩, rfl, congrArg V.str c1, cl2 (by simp) (by omega), ?_⟩
    rw [cat_tx]
    refine ⟨_, rfl, ⟨((97 + j) :: ds).toArray⟩, ⟨[32].toArray⟩, rfl, congrArg V.str esp, cl2 (by omega) (by simp), ?_⟩
    rw [cat_tx]
    refine ⟨Nat.le_of_lt (small1000 (by simp)), fun p4 n4 => ?_⟩
    -- the other six
    refine ⟨_, rfl, Nat.le_of_lt (small1000 (by simp)), fun pt npt => ?_⟩
    refine ⟨_, rfl, ⟨[32].toArray⟩, ⟨((97 + j) :: ds).toArray⟩, congrArg V.str esp, rfl, cl2 (by simp) (by omega), ?_⟩
    rw [cat_tx]
    refine ⟨_, rfl, ix0 ⟨⟨[97 + j].toArray⟩, ⟨[45].toArray⟩, rfl, congrArg V.str eda, cl2 (by simp) (by simp), ?_⟩⟩
    rw [cat_tx]
    refine ⟨_, rfl, Nat.le_of_lt (small1000 (by simp)), fun pl npl => ⟨Nat.le_of_lt (small1000 (by simp)), fun pm npm => ?_⟩⟩
    have nst : ∀ {H' : Hp} {F : Addr}, Same H1 H' → H' F = none → F ≠ st := fun {H' F} s n => by
      obtain ⟨sc, X⟩ := (S1.same s).x
      exact (X.ne n).1
    have np1 : pt ≠ st := nst (same_upd n4) npt
    have np2 : pl ≠ st := nst ((same_upd n4).trans (same_upd npt)) npl
    refine ⟨.ref p4, rfl, .ref pm, rfl, p4, pm, _, _, rfl, rfl, SqT.of (same_upd npm _ _ (same_upd npl _ _ (same_upd npt _ _ upd_same))), SqT.of upd_same, by simp, Nat.le_of_lt (small1000 (by simp)), fun e => absurd e (by simp), fun _ p12 n12 => ?_⟩
    have np3 : p12 ≠ st := nst ((((same_upd n4).trans (same_upd npt)).trans (same_upd npl)).trans (same_upd npm)) n12
    refine ⟨.ref st, rfl, st, 12, rfl, S1.same (((((same_upd n4).trans (same_upd npt)).trans (same_upd npl)).trans (same_upd npm)).trans (same_upd n12)), by decide, by decide, fun H9 v k9 S9 a9 b9 => ?_⟩
    have hp12 := k9 _ _ np3 upd_same
    have hpt := k9 _ _ np1 (same_upd n12 _ _ (same_upd npm _ _ (same_upd npl _ _ upd_same)))
    have hpl := k9 _ _ np2 (same_upd n12 _ _ (same_upd npm _ _ upd_same))
    have kk := k1.trans ((same_kp (((((same_upd n4).trans (same_upd npt)).trans (same_upd npl)).trans (same_upd npm)).trans (same_upd n12))).trans k9)
    obtain ⟨m, rfl⟩ : ∃ m : Nat, v = m := ⟨v.toNat, by omega⟩
    have hL : ∀ l : List Nat, Lw 55 = false ∧ True := fun _ => ⟨by decide, trivial⟩
    have hdF : ∀ (c : Nat) (l : List Nat), Lw c = false → isNameL (c :: l) = false := fun c l e => by
      unfold isNameL; rw [List.headD_cons, e]; simp
    have tlF : ∀ (c : Nat) (l : List Nat), l.all Dg = false → isNameL (c :: l) = false := fun c l e => by
      unfold isNameL; rw [List.drop_succ_cons, List.drop_zero, e]; simp
    have LwJ : Lw (65 + j) = false := by unfold Lw; rw [decide_eq_false (by omega)]; rfl
    rcases (by omega : m = 0 ∨ m = 1 ∨ m = 2 ∨ m = 3 ∨ m = 4 ∨ m = 5 ∨ m = 6 ∨ m = 7 ∨ m = 8 ∨ m = 9 ∨ m = 10 ∨ m = 11) with rfl | rfl | rfl | rfl | rfl | rfl | rfl | rfl | rfl | rfl | rfl | rfl
    all_goals refine .inr (.inl ⟨p12, _, _, _, rfl, rfl, SqT.of hp12, atI_nat rfl, q _ _ kk S9 ?_⟩)
    · exact bad_tx (cs := []) (by simp) rfl
    · exact bad_tx (by simp <;> omega) (hdF _ _ LwJ)
    · refine bad_tx (by simp <;> omega) ?_
      have : (((97 + j) :: ds ++ [48, 48, 48, 48]).take 5).length = 5 := by simp <;> omega
      unfold isNameL
      rw [this]; rfl
    · exact bad_tx (by simp <;> omega) (hdF _ _ (by decide))
    · exact bad_tx (by simp <;> omega) (tlF _ _ (by simp [Dg]))
    · exact bad_tx (by simp <;> omega) (tlF _ _ (by simp [Dg]))
    · exact fun H' _ => ⟨.inl ⟨"NoneType", fun H2 _ => .base .non, by decide +kernel, rfl⟩, .non⟩
    · refine fun H' k => ?_
      have hq := k _ _ np1 hpt
      refine ⟨.inl ⟨"tuple", fun H2 s => tyx_t (SqT.of (s _ _ hq)), by decide +kernel, rfl⟩, .tup (SqT.of hq) (SqT.of hq) rfl (by simp) fun i x y hx hy => ?_⟩
      rw [hx] at hy
      cases hy
      match i, hx with
      | 0, hx => cases hx; exact .str _
      | i + 1, hx => simp at hx
    · exact fun H' _ => ⟨.inl ⟨"int", fun H2 _ => .base (.int 7), by decide +kernel, rfl⟩, .int 7⟩
    · exact bad_tx (by simp <;> omega) (hdF _ _ (by decide))
    · exact bad_tx (by simp) (tlF _ _ (by simp [Dg]))
    · refine fun H' k => ?_
      have hq := k _ _ np2 hpl
      refine ⟨.inl ⟨"list", fun H2 s => tyx_l (SqL.of (s _ _ hq)), by decide +kernel, rfl⟩, .lst (SqL.of hq) (SqL.of hq) rfl (by simp) fun i x y hx hy => ?_⟩
      rw [hx] at hy
      cases hy
      match i, hx with
      | 0, hx => cases hx; exact .str _
      | i + 1, hx => simp at hx
end
end K0


namespace K0
open PySem PySem.Spec PyProof.Rows L2
section
variable {K : PySem.W.Frag} {H : Hp}
/-- t + u, whatever is empty -/
theorem catA {p q : Addr} {xs ys : List V} {Q : VK} (hp : SqT K H p xs) (hq : SqT K H q ys) (hl : xs.length + ys.length ≤ 1000) (k : ∀ (H' : Hp) (r : Addr), Same H H' → SqT K H' r (xs ++ ys) → Q (.ref r) H') : rCatA K (.ref p) (.ref q) H Q :=
  ⟨p, q, xs, ys, rfl, rfl, hp, hq, Nat.le_of_lt (small1000 hl), fun e => by subst e; exact k H q (Same.refl _) hq, fun _ e => by subst e; exact k H p (Same.refl _) (by rw [List.append_nil]; exact hp), fun _ _ r nr => k _ r (same_upd nr) (SqT.of upd_same)⟩
/-- t[lo:hi], the whole of it too -/
theorem cutA {p : Addr} {xs : List V} {lo hi : Option Int} {Q : VK} (hp : SqT K H p xs) (k : ∀ (H' : Hp) (r : Addr), Same H H' → SqT K H' r (cutV xs lo hi) → Q (.ref r) H') : rSlA K (.ref p) lo hi H Q := by
  refine ⟨p, xs, rfl, hp, fun ⟨h1, h2⟩ => k H p (Same.refl _) ?_, fun _ r nr => k _ r (same_upd nr) (SqT.of upd_same)⟩
  have : cutV xs lo hi = xs := by
    unfold cutV
    rw [h1, h2, List.drop_zero, Nat.sub_zero, List.take_length]
  rw [this]; exact hp
theorem cutV_to (xs : List V) (k : Nat) : cutV xs none (some (k : Int)) = xs.take k := by
  unfold cutV
  rw [HT.sIx_none, HT.sIx_nat, List.drop_zero, Nat.sub_zero]
  by_cases h : k ≤ xs.length
  · rw [Nat.min_eq_left h]
  · rw [Nat.min_eq_right (by omega), List.take_length, List.take_of_length_le (by omega)]
theorem cutV_from (xs : List V) (k : Nat) (h : k ≤ xs.length) : cutV xs (some (k : Int)) none = xs.drop k := by
  unfold cutV
  rw [HT.sIx_none, HT.sIx_nat, Nat.min_eq_left h, List.take_of_length_le (by simp)]
/-- all of them names -/
theorem names_all {p : Addr} {css : List (List Nat)} {r : Option V} (hS : SqT K H p (css.map tx)) (hl : css.length ≤ 1000) (hn : ∀ c ∈ css, isNameL c = true ∧ c.length ≤ 4) (hr : r = if (decide (css.length ≤ 3) && ascL css) = true then none else some (.ref p)) : NamesIs K H (.ref p) r := by
  have e1 : (css.map fun c => (tx c, true)).map Prod.fst = css.map tx := by rw [List.map_map]; rfl
  refine .inr ⟨p, css.map fun c => (tx c, true), rfl, by rw [e1]; exact hS, by simpa using hl, fun z hz => ?_, fun u z hz hf _ => ?_, fun _ => ⟨css, e1, hr⟩⟩
  · obtain ⟨c, hc, rfl⟩ := List.mem_map.mp hz
    have := (hn c hc).2
    exact .inr ⟨c, rfl, by omega, (hn c hc).1.symm⟩
  · obtain ⟨c, hc, rfl⟩ := List.mem_map.mp (List.mem_of_getElem? hz)
    cases hf
/-- the first that is no name -/
theorem names_bad {p : Addr} {pre : List (List Nat)} {bad : V} {rest : List (V × Bool)} (hS : SqT K H p (pre.map tx ++ bad :: rest.map Prod.fst)) (hl : pre.length + rest.length < 1000) (hn : ∀ c ∈ pre, isNameL c = true ∧ c.length ≤ 4) (hb : NameOk K H bad false) (hr : ∀ z ∈ rest, NameOk K H z.1 z.2) : NamesIs K H (.ref p) (some bad) := by
  obtain ⟨zs, hzs⟩ : ∃ zs, zs = (pre.map fun c => (tx c, true)) ++ (bad, false) :: rest := ⟨_, rfl⟩
  have hat : zs[pre.length]? = some (bad, false) := by
    rw [hzs, List.getElem?_append_right (by simp)]
    simp
  refine .inr ⟨p, zs, rfl, ?_, ?_, fun z hz => ?_, fun u z hz hf ht => ?_, fun h => ?_⟩
  · rw [hzs, List.map_append, List.map_map]; exact hS
  · rw [hzs]; simp; omega
  · rw [hzs] at hz
    rcases List.mem_append.mp hz with h | h
    · obtain ⟨c, hc, rfl⟩ := List.mem_map.mp h
      have := (hn c hc).2
      exact .inr ⟨c, rfl, by omega, (hn c hc).1.symm⟩
    · rcases List.mem_cons.mp h with rfl | h
      · exact hb
      · exact hr z h
  · rcases Nat.lt_trichotomy u pre.length with h | h | h
    · rw [hzs, List.getElem?_append_left (by simpa using h)] at hz
      obtain ⟨c, _, rfl⟩ := List.mem_map.mp (List.mem_of_getElem? hz)
      cases hf
    · rw [h, hat] at hz
      cases hz; rfl
    · have : (bad, false) ∈ zs.take u := by
        have : (zs.take u)[pre.length]? = some (bad, false) := by rw [List.getElem?_take, if_pos h, hat]
        exact List.mem_of_getElem? this
      cases ht _ this
  · cases h _ (List.mem_of_getElem? hat)
end
theorem asc_app1 {css : List (List Nat)} (h0 : css ≠ []) (h : css.Pairwise (· < ·)) : (decide ((css ++ css.take 1).length ≤ 3) && ascL (css ++ css.take 1)) = false := by
  match css, h0, h with
  | [c], _, _ =>
    show (_ && (decide (c < c) && true)) = false
    rw [decide_eq_false (List.lt_irrefl c)]; simp
  | [c, d], _, h =>
    have hcd : c < d := (List.pairwise_cons.mp h).1 d (by simp)
    show (_ && (decide (c < d) && (decide (d < c) && true))) = false
    rw [decide_eq_false (fun z => List.lt_irrefl c (List.lt_trans hcd z))]; simp
  | c :: d :: e :: r, _, _ =>
    rw [decide_eq_false (by simp)]; rfl
theorem asc_rev {css : List (List Nat)} (h2 : 2 ≤ css.length) (h3 : css.length ≤ 3) (h : css.Pairwise (· < ·)) : ascL css.reverse = false := by
  match css, h2, h3, h with
  | [c, d], _, _, h =>
    have hcd : c < d := (List.pairwise_cons.mp h).1 d (by simp)
    show (decide (d < c) && true) = false
    rw [decide_eq_false (fun z => List.lt_irrefl c (List.lt_trans hcd z))]; rfl
  | [c, d, e], _, _, h =>
    have hde : d < e := (List.pairwise_cons.mp (List.pairwise_cons.mp h).2).1 e (by simp)
    show (decide (e < d) && _) = false
    rw [decide_eq_false (fun z => List.lt_irrefl d (List.lt_trans hde z))]; rfl
  | [], h, _, _ => simp at h
  | [_], h, _, _ => simp at h
  | _ :: _ :: _ :: _ :: _, _, h, _ => simp at h
end K0


namespace K0
open PySem PySem.Spec PyProof.Rows L2
section
variable {P : Program} {w : World} {K : PySem.W.Frag} {mg : Str → Option Value} {base : Heap} {a : Ad}
def BentIs (K : PySem.W.Frag) (H : Hp) (p : Addr) : Prop := ∃ x v r, H p = some (.lst [x, v]) ∧ ∀ H', Same H H' → NamesIs K H' x (some r) ∧ Sm K 4 H' r v
theorem sm_strs {H : Hp} {n : Nat} {p q : Addr} {css : List (List Nat)} (hp : SqT K H p (css.map tx)) (hq : SqT K H q (css.map tx)) (hl : css.length ≤ 1000000) : Sm K (n + 2) H (.ref p) (.ref q) :=
  .tup hp hq rfl (by simpa using hl) fun i x y hx hy => by
    rw [hx] at hy
    cases hy
    rw [List.getElem?_map] at hx
    cases e : css[i]? with
    | none => rw [e] at hx; cases hx
    | some c => rw [e] at hx; obtain rfl : tx c = x := Option.some.inj hx; exact .str _
theorem sm_strsL {H : Hp} {n : Nat} {p q : Addr} {css : List (List Nat)} (hp : SqL K H p (css.map tx)) (hq : SqL K H q (css.map tx)) (hl : css.length ≤ 1000000) : Sm K (n + 2) H (.ref p) (.ref q) :=
  .lst hp hq rfl (by simpa using hl) fun i x y hx hy => by
    rw [hx] at hy
    cases hy
    rw [List.getElem?_map] at hx
    cases e : css[i]? with
    | none => rw [e] at hx; cases hx
    | some c => rw [e] at hx; obtain rfl : tx c = x := Option.some.inj hx; exact .str _
theorem Sm.up {H : Hp} : ∀ {n : Nat} {x y : V}, Sm K n H x y → Sm K (n + 1) H x y
  | 0, _, _, h => h.elim
  | n + 1, _, _, h => by
    cases h with
    | non => exact .non
    | bl b => exact .bl b
    | int i => exact .int i
    | str z => exact .str z
    | lst hx hy l lt r => exact .lst hx hy l lt fun i x y a b => (r i x y a b).up
    | tup hx hy l lt r => exact .tup hx hy l lt fun i x y a b => (r i x y a b).up
/-- a tuple of names twice in the list -/
theorem bent2 {H : Hp} {p q : Addr} {css : List (List Nat)} (hp : H p = some (.lst [.ref q, .ref q])) (hq : SqT K H q (css.map tx)) (hl : css.length ≤ 1000) (hn : ∀ c ∈ css, isNameL c = true ∧ c.length ≤ 4) (hb : (decide (css.length ≤ 3) && ascL css) = false) : BentIs K H p :=
  ⟨.ref q, .ref q, .ref q, hp, fun H' s => ⟨names_all (SameT s hq) hl hn (by rw [hb]; rfl), sm_strs (SameT s hq) (SameT s hq) (by omega)⟩⟩
def spBent (K : PySem.W.Frag) : Sp := fun vs H Q _ => ∃ (st n0 : Addr) (css : List (List Nat)), vs = [.ref st, .ref n0] ∧ Sta H st ∧ SqT K H n0 (css.map tx) ∧ n0 ≠ st ∧ css.length ≤ 3 ∧ css.Pairwise (· < ·) ∧ (∀ c ∈ css, isNameL c = true ∧ c.length ≤ 4) ∧ ∀ H' p, Kp st H H' → Sta H' st → BentIs K H' p → Q (.ref p) H'
theorem SqT.kpS {st : Addr} {H H' : Hp} {p : Addr} {xs : List V} (S : Sta H st) (k : Kp st H H') (h : SqT K H p xs) : SqT K H' p xs := by
  obtain ⟨sc, ns, i, b, s, l, hne, hst, _⟩ := S.x
  exact SqT.kp k hst h
theorem ok_bent (T : Top K mg a) (G_l_draw : FnOk P w K mg base CX0 1 a.f_l_draw a.d_l_draw ["_law_state_here", "_law_many"] spDraw) (G_l_styled : FnOk P w K mg base CX0 3 a.f_l_styled a.d_l_styled ["_law_feed", "_law_count"] spStyled) (G_l_no_name : FnOk P w K mg base CX0 3 a.f_l_no_name a.d_l_no_name ["_law_state_here"] (spNoName K)) : FnOk P w K mg base CX0 4 a.f_l_bent_names a.d_l_bent_names ["_law_state_here", "_law_names"] (spBent K) := by
  refine T.F_l_bent_names.ok sc_l_bent_names (fun vs H Q E h => ?_) (fun cdv A outer s H vs Q E hr h => ?_)
  · obtain ⟨_, _, _, rfl, _⟩ := h
    rfl
  · obtain ⟨st, n0, css, rfl, S, hN, hne, hl, hasc, hn, q⟩ := h
    refine ⟨_, (pss_cons (ps_set (i := 2) sc_l_bent_names.nd rfl (.inl rfl) (pe_call G_l_draw (hr.mono (by decide)) (by rfl) T.m_l_draw T.F_l_draw.kp T.b_l_draw .nil pass0 (pa_cons (pv 0) (pa_cons pe_int pa_nil))))
    (pss_cons (ps_set (i := 3) sc_l_bent_names.nd rfl (.inl rfl) (pe_call G_l_draw (hr.mono (by decide)) (by rfl) T.m_l_draw T.F_l_draw.kp T.b_l_draw .nil pass0 (pa_cons (pv 0) (pa_cons (pe_op op_add (pe_callB (CallR.or call_len_str call_len_seq) (by rfl) T.z_len (by decide +kernel) (pa_cons (pv 1) pa_nil)) pe_int) pa_nil))))
    (pss_cons (ps_set (i := 4) sc_l_bent_names.nd rfl (.inl rfl) (pe_call G_l_no_name (hr.mono (by decide)) (by rfl) T.m_l_no_name T.F_l_no_name.kp T.b_l_no_name .nil pass0 (pa_cons (pv 0) pa_nil)))
    (pss_cons (ps_set (i := 5) sc_l_bent_names.nd rfl (.inl rfl) (pe_op op_catA (pv 1) (pe_slice sl_tupA (pv 1) po_none (po_some pe_int))))
    (pss_cons (ps_if (pt_cmpR (OpR.or op_eq (op_eqD hr.units)) (pv 2) pe_int (nomark _))
      (pss_one (ps_ret (pe_lst (pa_cons (pe_callTy call_list_of (by rfl) T.z_list (by decide +kernel) (pa_cons (pv 1) pa_nil)) (pa_cons (pe_callTy call_list_of (by rfl) T.z_list (by decide +kernel) (pa_cons (pv 1) pa_nil)) pa_nil)))))
      pss_nil)
    (pss_cons (ps_if (pt_cmpR (OpR.or op_eq (op_eqD hr.units)) (pv 2) pe_int (nomark _))
      (pss_one (ps_ret (pe_lst (pa_cons (pe_op op_catA (pe_op op_catA (pe_op op_catA (pe_slice sl_tupA (pv 1) po_none (po_some (pv 3))) (pe_tup (pa_cons (pv 4) pa_nil))) (pe_slice sl_tupA (pv 1) (po_some (pv 3)) po_none)) (pe_tup (pa_cons (pe_call G_l_no_name (hr.mono (by decide)) (by rfl) T.m_l_no_name T.F_l_no_name.kp T.b_l_no_name .nil pass0 (pa_cons (pv 0) pa_nil)) pa_nil))) (pa_cons (pv 4) pa_nil)))))
      pss_nil)
    (pss_cons (ps_if (pt_cmpR (OpR.or op_eq (op_eqD hr.units)) (pv 2) pe_int (nomark _))
      (pss_cons (ps_if (pt_cmpR (OpR.or op_eq (op_eqD hr.units)) (pe_callB (CallR.or call_len_str call_len_seq) (by rfl) T.z_len (by decide +kernel) (pa_cons (pv 1) pa_nil)) pe_int (nomark _))
        (pss_one (ps_set (i := 5) sc_l_bent_names.nd rfl (.inl rfl) (pe_tup (pa_cons pe_str (pa_cons pe_str pa_nil)))))
        pss_nil)
      (pss_one (ps_ret (pe_lst (pa_cons (pv 5) (pa_cons (pv 5) pa_nil))))))
      pss_nil)
    (pss_cons (ps_if (pt_cmpR (OpR.or op_eq (op_eqD hr.units)) (pv 2) pe_int (nomark _))
      (pss_cons (ps_set (i := 5) sc_l_bent_names.nd rfl (.inl rfl) (R1.pe_revT (pv 1)))
      (pss_cons (ps_if (pt_cmpR (OpR.or op_lt op_lt_str) (pe_callB (CallR.or call_len_str call_len_seq) (by rfl) T.z_len (by decide +kernel) (pa_cons (pv 1) pa_nil)) pe_int (nomark _))
        (pss_one (ps_set (i := 5) sc_l_bent_names.nd rfl (.inl rfl) (pe_tup (pa_cons pe_str (pa_cons pe_str pa_nil)))))
        pss_nil)
      (pss_one (ps_ret (pe_lst (pa_cons (pv 5) (pa_cons (pv 5) pa_nil)))))))
      pss_nil)
    (pss_cons (ps_if (pt_cmpR (OpR.or op_eq (op_eqD hr.units)) (pv 2) pe_int (nomark _))
      (pss_cons (ps_set (i := 5) sc_l_bent_names.nd rfl (.inl rfl) (pe_call G_l_styled (hr.mono (by decide)) (by rfl) T.m_l_styled T.F_l_styled.kp T.b_l_styled .nil pass0 (pa_cons (pv 0) (pa_cons (pe_op op_add pe_int (pe_call G_l_draw (hr.mono (by decide)) (by rfl) T.m_l_draw T.F_l_draw.kp T.b_l_draw .nil pass0 (pa_cons (pv 0) (pa_cons pe_int pa_nil)))) pa_nil))))
      (pss_one (ps_ret (pe_lst (pa_cons (pv 5) (pa_cons (pv 5) pa_nil))))))
      pss_nil)
    (pss_cons (ps_set (i := 6) sc_l_bent_names.nd rfl (.inl rfl) (pe_ix ix_seq (pe_tup (pa_cons pe_str (pa_cons pe_non (pa_cons pe_int pa_nil)))) (pe_call G_l_draw (hr.mono (by decide)) (by rfl) T.m_l_draw T.F_l_draw.kp T.b_l_draw .nil pass0 (pa_cons (pv 0) (pa_cons pe_int pa_nil))) (fun _ _ => rfl)))
    (pss_one (ps_ret (pe_lst (pa_cons (pv 6) (pa_cons (pv 6) pa_nil))))))))))))))), ?_⟩
    have lx : (css.map tx).length = css.length := List.length_map _
    refine ⟨.ref st, rfl, st, 6, rfl, S, by decide, by decide, fun H1 v1 k1 S1 a1 b1 => ?_⟩
    obtain ⟨way, rfl⟩ : ∃ j : Nat, v1 = j := ⟨v1.toNat, by omega⟩
    have hN1 := SqT.kpS S k1 hN
    refine ⟨.ref st, rfl, .ref n0, rfl, .inr ⟨n0, _, rfl, .inr hN1, _, 1, rfl, rfl, ?_⟩⟩
    rw [lx]
    refine ⟨st, _, rfl, S1, by omega, by omega, fun H2 v2 k2 S2 a2 b2 => ?_⟩
    obtain ⟨at_, rfl⟩ : ∃ j : Nat, v2 = j := ⟨v2.toNat, by omega⟩
    have hN2 := SqT.kpS S1 k2 hN1
    refine ⟨.ref st, rfl, st, rfl, S2, fun H3 bad k3 S3 hB3 => ?_⟩
    have hN3 := SqT.kpS S2 k3 hN2
    have k03 := (k1.trans k2).trans k3
    refine ⟨.ref n0, rfl, .ref n0, rfl, ?_⟩
    dsimp only [tNoPart]
    refine ⟨1, rfl, cutA hN3 fun H4 r1 s4 h4 => ?_⟩
    rw [show (1 : Int) = ((1 : Nat) : Int) from rfl, cutV_to, ← List.map_take] at h4
    refine catA (SameT s4 hN3) h4 (by rw [List.length_map, List.length_map, List.length_take]; omega) fun H5 rw_ s5 h5 => ?_
    rw [← List.map_append] at h5
    have s35 := s4.trans s5
    have k05 := k03.trans (same_kp s35)
    have S5 := S3.same s35
    have hN5 := SameT s35 hN3
    have hB5 := hB3.kp (same_kp s35)
    refine ⟨_, rfl, eqi (ite2 (fun e0 => ?_) (fun e0 => ?_))⟩
    · -- two lists
      refine ⟨.ref n0, rfl, n0, _, rfl, .inr hN5, fun l1 n1 => ⟨.ref n0, rfl, n0, _, rfl, .inr (SameT (same_upd n1) hN5), fun l2 n2 => ⟨Nat.le_of_lt (small1000 (by simp)), fun p np => ?_⟩⟩⟩
      have t1 : Same H5 (upd H5 l1 (.lst (css.map tx))) := same_upd n1
      have t2 : Same (upd H5 l1 (.lst (css.map tx))) (upd (upd H5 l1 (.lst (css.map tx))) l2 (.lst (css.map tx))) := same_upd n2
      have h1 := t2 _ _ (show (upd H5 l1 (.lst (css.map tx))) l1 = _ from upd_same)
      have h2 : (upd (upd H5 l1 (.lst (css.map tx))) l2 (.lst (css.map tx))) l2 = some (.lst (css.map tx)) := upd_same
      have t12 := t1.trans t2
      generalize upd (upd H5 l1 (.lst (css.map tx))) l2 (.lst (css.map tx)) = H6 at t12 h1 h2 np ⊢
      have t3 : Same H6 (upd H6 p (.lst [.ref l1, .ref l2])) := same_upd np
      refine q _ p (k05.trans (same_kp (t12.trans t3))) (S5.same (t12.trans t3)) ⟨.ref l1, .ref l2, .ref l1, upd_same, fun H' s => ?_⟩
      have g1 := s _ _ (t3 _ _ h1)
      have g2 := s _ _ (t3 _ _ h2)
      exact ⟨.inl ⟨⟨"list", tyx_l (SqL.of g1), by decide +kernel⟩, rfl⟩, sm_strsL (SqL.of g1) (SqL.of g2) (by omega)⟩
    refine ⟨_, rfl, eqi (ite2 (fun e1 => ?_) (fun e1 => ?_))⟩
    · -- a bad one put in
      have hat : at_ ≤ css.length := by omega
      refine ⟨.ref n0, rfl, ?_⟩
      dsimp only [tNoPart]
      refine ⟨_, rfl, (at_ : Int), rfl, cutA hN5 fun H6 r6 s6 h6 => ?_⟩
      rw [cutV_to, ← List.map_take] at h6
      refine ⟨_, rfl, Nat.le_of_lt (small1000 (by simp)), fun pt npt => ?_⟩
      have t6 : Same H6 (upd H6 pt (.tup [bad])) := same_upd npt
      refine catA (SameT t6 h6) (SqT.of upd_same) (by rw [List.length_map, List.length_take]; simp; omega) fun H7 r7 s7 h7 => ?_
      have s57 := (s6.trans t6).trans s7
      refine ⟨.ref n0, rfl, _, rfl, (at_ : Int), rfl, ?_⟩
      dsimp only [tNoPart]
      refine cutA (SameT s57 hN5) fun H8 r8 s8 h8 => ?_
      rw [cutV_from _ _ (by omega), ← List.map_drop] at h8
      refine catA (SameT s8 h7) h8 (by simp; omega) fun H9 r9 s9 h9 => ?_
      have s59 := (s57.trans s8).trans s9
      have S9 := S5.same s59
      refine ⟨.ref st, rfl, st, rfl, S9, fun H10 bad2 k10 S10 hB10 => ⟨Nat.le_of_lt (small1000 (by simp)), fun pu npu => ?_⟩⟩
      have h10 := SqT.kpS S9 k10 h9
      have t10 : Same H10 (upd H10 pu (.tup [bad2])) := same_upd npu
      refine catA (SameT t10 h10) (SqT.of upd_same) (by simp; omega) fun H11 r11 s11 h11 => ?_
      have k511 := ((same_kp s59).trans k10).trans (same_kp (t10.trans s11))
      refine ⟨_, rfl, Nat.le_of_lt (small1000 (by simp)), fun p np => ?_⟩
      have t11 : Same H11 (upd H11 p (.lst [.ref r11, bad])) := same_upd np
      refine q _ p ((k05.trans k511).trans (same_kp t11)) ((S10.same (t10.trans s11)).same t11) ⟨.ref r11, bad, bad, upd_same, fun H' s => ?_⟩
      have kb := k511.trans (same_kp (t11.trans s))
      obtain ⟨b1, b2⟩ := hB5 H' kb
      have kb2 := same_kp (st := st) (((t10.trans s11).trans t11).trans s)
      refine ⟨names_bad (pre := css.take at_) (rest := ((css.drop at_).map fun c => (tx c, true)) ++ [(bad2, false)]) ?_ ?_ (fun c hc => hn c (List.mem_of_mem_take hc)) b1 fun z hz => ?_, b2.up⟩
      · have : SqT K H' r11 _ := SameT (t11.trans s) h11
        rw [List.map_append, List.map_map]
        have e2 : (Prod.fst ∘ fun c : List Nat => (tx c, true)) = tx := rfl
        rw [e2]
        simpa [List.append_assoc] using this
      · simp; omega
      · rcases List.mem_append.mp hz with h | h
        · obtain ⟨c, hc, rfl⟩ := List.mem_map.mp h
          have := hn c (List.mem_of_mem_drop hc)
          exact .inr ⟨c, rfl, by omega, this.1.symm⟩
        · rw [List.mem_singleton.mp h]
          exact (hB10 H' kb2).1
    refine ⟨_, rfl, eqi (ite2 (fun e2 => ?_) (fun e2 => ?_))⟩
    · -- one twice
      refine ⟨.ref n0, rfl, .inr ⟨n0, _, rfl, .inr hN5, eqi (ite2 (fun ez => ?_) (fun ez => ?_))⟩⟩
      · refine ⟨Nat.le_of_lt (small1000 (by simp)), fun pt npt => ⟨_, rfl, _, rfl, Nat.le_of_lt (small1000 (by simp)), fun p np => ?_⟩⟩
        have eb : Str.ofString "b" = ⟨#[98]⟩ := by decide +kernel
        have ea : Str.ofString "a" = ⟨#[97]⟩ := by decide +kernel
        have t1 : Same H5 (upd H5 pt (.tup [.str (Str.ofString "b"), .str (Str.ofString "a")])) := same_upd npt
        have h1 : (upd H5 pt (.tup [.str (Str.ofString "b"), .str (Str.ofString "a")])) pt = some (.tup ([[98], [97]].map tx)) := by rw [upd_same, eb, ea]; rfl
        have t2 := same_upd (o := .lst [V.ref pt, V.ref pt]) np
        exact q _ p (k05.trans (same_kp (t1.trans t2))) (S5.same (t1.trans t2)) (bent2 (css := [[98], [97]]) upd_same (SqT.of (t2 _ _ h1)) (by simp) (by decide) (by decide))
      · have h0 : css ≠ [] := fun e => ez (decide_eq_true (by rw [lx, e]; rfl))
        refine ⟨_, rfl, _, rfl, Nat.le_of_lt (small1000 (by simp)), fun p np => ?_⟩
        have t2 := same_upd (o := .lst [V.ref rw_, V.ref rw_]) np
        refine q _ p (k05.trans (same_kp t2)) (S5.same t2) (bent2 (css := css ++ css.take 1) upd_same (SameT t2 h5) (by simp; omega) (fun c hc => ?_) (asc_app1 h0 hasc))
        rcases List.mem_append.mp hc with h | h
        · exact hn c h
        · exact hn c (List.mem_of_mem_take h)
    refine ⟨_, rfl, eqi (ite2 (fun e3 => ?_) (fun e3 => ?_))⟩
    · -- turned about
      refine ⟨.ref n0, rfl, n0, _, rfl, hN5, fun pr npr => ?_⟩
      have t1 : Same H5 (upd H5 pr (.tup (css.map tx).reverse)) := same_upd npr
      refine ⟨.ref n0, rfl, .inr ⟨n0, _, rfl, .inr (SameT t1 hN5), .inl ⟨_, 2, rfl, rfl, _, rfl, ite2 (fun ez => ?_) (fun ez => ?_)⟩⟩⟩
      · refine ⟨Nat.le_of_lt (small1000 (by simp)), fun pt npt => ⟨_, rfl, _, rfl, Nat.le_of_lt (small1000 (by simp)), fun p np => ?_⟩⟩
        have eb : Str.ofString "c2" = ⟨#[99, 50]⟩ := by decide +kernel
        have ea : Str.ofString "c10" = ⟨#[99, 49, 48]⟩ := by decide +kernel
        have t2 := same_upd (o := .tup [.str (Str.ofString "c2"), .str (Str.ofString "c10")]) npt
        have t3 := same_upd (o := .lst [V.ref pt, V.ref pt]) np
        have h1 : (upd (upd H5 pr (.tup (css.map tx).reverse)) pt (.tup [.str (Str.ofString "c2"), .str (Str.ofString "c10")])) pt = some (.tup ([[99, 50], [99, 49, 48]].map tx)) := by rw [upd_same, eb, ea]; rfl
        have t := (t1.trans t2).trans t3
        exact q _ p (k05.trans (same_kp t)) (S5.same t) (bent2 (css := [[99, 50], [99, 49, 48]]) upd_same (SqT.of (t3 _ _ h1)) (by simp) (by decide) (by decide))
      · have h2 : 2 ≤ css.length := by
          have := of_decide_eq_false (Bool.eq_false_iff.mpr ez)
          rw [lx] at this
          omega
        refine ⟨_, rfl, _, rfl, Nat.le_of_lt (small1000 (by simp)), fun p np => ?_⟩
        have t3 := same_upd (o := .lst [V.ref pr, V.ref pr]) np
        have t := t1.trans t3
        have hr' : SqT K (upd (upd H5 pr (.tup (css.map tx).reverse)) p (.lst [V.ref pr, V.ref pr])) pr (css.reverse.map tx) := by
          rw [List.map_reverse]
          exact SqT.of (t3 _ _ upd_same)
        exact q _ p (k05.trans (same_kp t)) (S5.same t) (bent2 (css := css.reverse) upd_same hr' (by simp; omega) (fun c hc => hn c (List.mem_reverse.mp hc)) (by rw [asc_rev h2 hl hasc]; simp))
    refine ⟨_, rfl, eqi (ite2 (fun e4 => ?_) (fun e4 => ?_))⟩
    · -- too many
      refine ⟨.ref st, rfl, .ref st, rfl, st, 3, rfl, S5, by decide, by decide, fun H6 v6 k6 S6 a6 b6 => ?_⟩
      obtain ⟨m, rfl⟩ : ∃ j : Nat, v6 = j := ⟨v6.toNat, by omega⟩
      refine ⟨4, _, rfl, rfl, st, 4 + m, by simp, S6, by omega, fun H7 r7 cs7 k7 S7 n7 h7 l7 p7 o7 _ => ?_⟩
      refine ⟨_, rfl, _, rfl, Nat.le_of_lt (small1000 (by simp)), fun p np => ?_⟩
      have t := same_upd (o := .lst [V.ref r7, V.ref r7]) np
      exact q _ p (((k05.trans k6).trans k7).trans (same_kp t)) (S7.same t) (bent2 upd_same (SqT.of (t _ _ h7)) (by omega) o7 (by rw [decide_eq_false (by omega)]; rfl))
    · refine ⟨Nat.le_of_lt (small1000 (by simp)), fun pt npt => ?_⟩
      have t1 := same_upd (o := .tup [.str (Str.ofString "ab"), .non, .int 7]) npt
      have S6 := S5.same t1
      have npst : pt ≠ st := by
        obtain ⟨sc, X⟩ := S5.x
        exact (X.ne npt).1
      refine ⟨.ref st, rfl, st, 3, rfl, S6, by decide, by decide, fun H7 v7 k7 S7 a7 b7 => ?_⟩
      obtain ⟨m, rfl⟩ : ∃ j : Nat, v7 = j := ⟨v7.toNat, by omega⟩
      have hp7 := k7 _ _ npst upd_same
      have fin : ∀ x : V, (∀ H' : Hp, NotT K H' x ∧ Sm K 4 H' x x) → ∀ p, H7 p = none → Q (.ref p) (upd H7 p (.lst [x, x])) := fun x hx p np => by
        have t := same_upd (o := .lst [x, x]) np
        exact q _ p ((k05.trans ((same_kp t1).trans k7)).trans (same_kp t)) (S7.same t) ⟨x, x, x, upd_same, fun H' s => ⟨.inl ⟨(hx H').1, rfl⟩, (hx H').2⟩⟩
      rcases (by omega : m = 0 ∨ m = 1 ∨ m = 2) with rfl | rfl | rfl
      all_goals refine .inr (.inl ⟨pt, _, _, _, rfl, rfl, SqT.of hp7, atI_nat rfl, _, rfl, _, rfl, Nat.le_of_lt (small1000 (by simp)), fin _ fun H' => ?_⟩)
      · exact ⟨⟨"str", .base (.str _), by decide +kernel⟩, .str _⟩
      · exact ⟨⟨"NoneType", .base .non, by decide +kernel⟩, .non⟩
      · exact ⟨⟨"int", .base (.int 7), by decide +kernel⟩, .int 7⟩
end
end K0


namespace K0
open PySem PySem.Spec PyProof.Rows L2
section
variable {P : Program} {w : World} {K : PySem.W.Frag} {mg : Str → Option Value} {base : Heap} {a : Ad}
def spRight : Sp := fun vs H Q _ => ∃ (st : Addr), vs = [.ref st] ∧ Sta H st ∧ ∀ H', Kp st H H' → Sta H' st → Q (.bl true) H'
theorem atI_i {xs : List V} {i : Int} {j : Nat} {v : V} (h : xs[j]? = some v) (e : i = (j : Int)) : atI xs i = some v := by
  subst e; exact atI_nat h
theorem StaX.kpD {H H' : Hp} {st sc D : Addr} (S : StaX H st sc) (k : Kp D H H') (h1 : D ≠ st) (h2 : D ≠ sc) : StaX H' st sc := by
  obtain ⟨ns, i, b, s, l, hne, hst, hsc, r⟩ := S
  exact ⟨ns, i, b, s, l, hne, k _ _ (Ne.symm h1) hst, k _ _ (Ne.symm h2) hsc, r⟩
/-- two empty lists -/
theorem nil_ne {p q : Addr} {H : Hp} {Q : VK} (hp : H p = some (.lst [])) (hq : H q = some (.lst [])) (h : Q (.bl false) H) : rNeD K (.ref p) (.ref q) H Q :=
  ⟨_, _, .lst (SqL.of hp) .nil, .lst (SqL.of hq) .nil, by decide, by decide, h⟩
theorem nil_eq {p q : Addr} {H : Hp} {Q : VK} (hp : H p = some (.lst [])) (hq : H q = some (.lst [])) (h : Q (.bl true) H) : rEqD K (.ref p) (.ref q) H Q :=
  ⟨_, _, .lst (SqL.of hp) .nil, .lst (SqL.of hq) .nil, by decide, by decide, h⟩
theorem name_true {c : Nat} {ds : List Nat} (hc : Lw c = true) (hd : ds.all Dg = true) (hl : ds.length ≤ 3) : isNameL (c :: ds) = true := by
  unfold isNameL
  rw [List.length_cons, List.headD_cons, List.drop_succ_cons, List.drop_zero, hc, hd, decide_eq_true (by omega), decide_eq_true (by omega)]
  rfl
theorem sm_pr {H : Hp} {n : Nat} {x y : V} {p : List Nat × List Nat} (h1 : IsPr H x p) (h2 : IsPr H y p) : Sm K (n + 2) H x y := by
  obtain ⟨b, rfl, h1⟩ := h1
  obtain ⟨c, rfl, h2⟩ := h2
  refine .tup (SqT.of h1) (SqT.of h2) rfl (by simp) fun i x y hx hy => ?_
  rw [hx] at hy
  cases hy
  match i, hx with
  | 0, hx => cases hx; exact .str _
  | 1, hx => cases hx; exact .str _
  | i + 2, hx => simp at hx
theorem sm_one {H : Hp} {n : Nat} {p q : Addr} {x y : V} (hp : H p = some (.lst [x])) (hq : H q = some (.lst [y])) (h : Sm K n H x y) : Sm K (n + 1) H (.ref p) (.ref q) :=
  .lst (SqL.of hp) (SqL.of hq) rfl (by simp) fun i u v hu hv => by
    match i, hu, hv with
    | 0, hu, hv => cases hu; cases hv; exact h
    | i + 1, hu, _ => simp at hu
theorem ok_namesRight (T : Top K mg a) (G_l_draw : FnOk P w K mg base CX0 1 a.f_l_draw a.d_l_draw ["_law_state_here", "_law_many"] spDraw) (G_l_alike : FnOk P w K mg base CX0 6 a.f_l_alike a.d_l_alike ["_law_actual", "_law_due"] (spAl (Sm K 6))) (G_is_name : FnOk P w K mg base CX0 1 a.f_is_name a.d_is_name ["value"] (spIsName K))
    (G_l_name : FnOk P w K mg base CX0 2 a.f_l_name a.d_l_name ["_law_state_here"] spName) (G_l_no_name : FnOk P w K mg base CX0 3 a.f_l_no_name a.d_l_no_name ["_law_state_here"] (spNoName K)) (G_l_styled : FnOk P w K mg base CX0 3 a.f_l_styled a.d_l_styled ["_law_feed", "_law_count"] spStyled)
    (G_l_bent_names : FnOk P w K mg base CX0 4 a.f_l_bent_names a.d_l_bent_names ["_law_state_here", "_law_names"] (spBent K)) (G_l_names_error : FnOk P w K mg base CX0 4 a.f_l_names_error a.d_l_names_error ["_law_names"] (spNamesErr K)) (G_pairs : FnOk P w K mg base CX0 1 a.f_pairs a.d_pairs ["names"] (spPairs K)) : FnOk P w K mg base CX0 7 a.f_l_names_right a.d_l_names_right ["_law_state_here"] spRight := by
  refine T.F_l_names_right.ok sc_l_names_right (fun vs H Q E h => ?_) (fun cdv A outer s H vs Q E hr h => ?_)
  · obtain ⟨_, rfl, _⟩ := h
    rfl
  · obtain ⟨st, rfl, S, q⟩ := h
    refine ⟨_, (pss_cons (ps_if (PW.pt (pw_or (pt_not (pt_val (pe_call G_l_alike (hr.mono (by decide)) (by rfl) T.m_l_alike T.F_l_alike.kp T.b_l_alike .nil pass0 (pa_cons (pe_call G_is_name (hr.mono (by decide)) (by rfl) T.m_is_name T.F_is_name.kp T.b_is_name .nil pass0 (pa_cons (pe_call G_l_name (hr.mono (by decide)) (by rfl) T.m_l_name T.F_l_name.kp T.b_l_name .nil pass0 (pa_cons (pv 0) pa_nil)) pa_nil)) (pa_cons pe_bl pa_nil))))) (pw_or1 (pt_not (pt_val (pe_call G_l_alike (hr.mono (by decide)) (by rfl) T.m_l_alike T.F_l_alike.kp T.b_l_alike .nil pass0 (pa_cons (pe_call G_is_name (hr.mono (by decide)) (by rfl) T.m_is_name T.F_is_name.kp T.b_is_name .nil pass0 (pa_cons (pe_call G_l_no_name (hr.mono (by decide)) (by rfl) T.m_l_no_name T.F_l_no_name.kp T.b_l_no_name .nil pass0 (pa_cons (pv 0) pa_nil)) pa_nil)) (pa_cons pe_bl pa_nil))))))))
      (pss_one (ps_ret pe_bl))
      pss_nil)
    (pss_cons (ps_set (i := 1) sc_l_names_right.nd rfl (.inl rfl) (pe_call G_l_styled (hr.mono (by decide)) (by rfl) T.m_l_styled T.F_l_styled.kp T.b_l_styled .nil pass0 (pa_cons (pv 0) (pa_cons (pe_call G_l_draw (hr.mono (by decide)) (by rfl) T.m_l_draw T.F_l_draw.kp T.b_l_draw .nil pass0 (pa_cons (pv 0) (pa_cons pe_int pa_nil))) pa_nil))))
    (pss_cons (ps_set (i := 2) sc_l_names_right.nd rfl (.inl rfl) (pe_lst pa_nil))
    (pss_cons (ps_for PassesOwn.never rfl (pi_range1 (by rfl) T.z_range (pa_cons (pe_callB (CallR.or call_len_str call_len_seq) (by rfl) T.z_len (by decide +kernel) (pa_cons (pv 1) pa_nil)) pa_nil)) (pg_name (i := 3) sc_l_names_right.nd rfl (.inl rfl))
      (pss_one (ps_for PassesOwn.never rfl (pi_range2 (by rfl) T.z_range (pa_cons (pe_op (OpR.or op_add (OpR.or op_add_str (OpR.or op_cat op_catT))) (pv 3) pe_int) (pa_cons (pe_callB (CallR.or call_len_str call_len_seq) (by rfl) T.z_len (by decide +kernel) (pa_cons (pv 1) pa_nil)) pa_nil))) (pg_name (i := 4) sc_l_names_right.nd rfl (.inl rfl))
        (pss_one (ps_expr (pe_bm PySem.F.plainAttrs_list PySem.F.slot_list_append PySem.F.type_list_append mt_append (pv 2) (pa_cons (pe_tup (pa_cons (pe_ix ix_seq (pv 1) (pv 3) (fun _ _ => rfl)) (pa_cons (pe_ix ix_seq (pv 1) (pv 4) (fun _ _ => rfl)) pa_nil))) pa_nil)))))))
    (pss_cons (ps_set (i := 5) sc_l_names_right.nd rfl (.inl rfl) (pe_call G_l_bent_names (hr.mono (by decide)) (by rfl) T.m_l_bent_names T.F_l_bent_names.kp T.b_l_bent_names .nil pass0 (pa_cons (pv 0) (pa_cons (pv 1) pa_nil))))
    (pss_cons (ps_if (PW.pt (pw_or (pt_cmpR (OpR.or op_ne (op_neD hr.units)) (pe_call G_l_names_error (hr.mono (by decide)) (by rfl) T.m_l_names_error T.F_l_names_error.kp T.b_l_names_error .nil pass0 (pa_cons (pv 1) pa_nil)) (pe_lst pa_nil) (nomark _)) (pw_or1 (pt_not (pt_val (pe_call G_l_alike (hr.mono (by decide)) (by rfl) T.m_l_alike T.F_l_alike.kp T.b_l_alike .nil pass0 (pa_cons (pe_call G_l_names_error (hr.mono (by decide)) (by rfl) T.m_l_names_error T.F_l_names_error.kp T.b_l_names_error .nil pass0 (pa_cons (pe_ix ix_seq (pv 5) pe_int (fun _ _ => rfl)) pa_nil)) (pa_cons (pe_lst (pa_cons (pe_ix ix_seq (pv 5) pe_int (fun _ _ => rfl)) pa_nil)) pa_nil))))))))
      (pss_one (ps_ret pe_bl))
      pss_nil)
    (pss_one (ps_ret (pe_and (pe_cmpR (OpR.or op_eq (op_eqD hr.units)) (pe_call G_l_names_error (hr.mono (by decide)) (by rfl) T.m_l_names_error T.F_l_names_error.kp T.b_l_names_error .nil pass0 (pa_cons (pv 1) pa_nil)) (pe_lst pa_nil) (nomark _)) (pe_one (pe_call G_l_alike (hr.mono (by decide)) (by rfl) T.m_l_alike T.F_l_alike.kp T.b_l_alike .nil pass0 (pa_cons (pe_call G_pairs (hr.mono (by decide)) (by rfl) T.m_pairs T.F_pairs.kp T.b_pairs .nil pass0 (pa_cons (pv 1) pa_nil)) (pa_cons (pv 2) pa_nil))))))))))))), ?_⟩
    refine ⟨.ref st, rfl, st, rfl, S, fun H1 c ds k1 S1 hc hd hl => ⟨_, true, rfl, .inr ⟨c :: ds, rfl, by simp; omega, (name_true hc hd hl).symm⟩, fun H2 s2 => ⟨_, _, rfl, .bl true, true, rfl, iteF ?_⟩⟩⟩
    have S2 := S1.same s2
    refine ⟨.ref st, rfl, st, rfl, S2, fun H3 x k3 S3 hB => ⟨x, false, rfl, (hB H3 (Kp.refl _ _)).1.is (Same.refl _), fun H4 s4 => ⟨_, _, rfl, .bl false, true, rfl, iteF ?_⟩⟩⟩
    have S4 := S3.same s4
    have k4 := ((k1.trans (same_kp s2)).trans k3).trans (same_kp s4)
    refine ⟨.ref st, rfl, .ref st, rfl, st, 4, rfl, S4, by decide, by decide, fun H5 v k5 S5 a5 b5 => ?_⟩
    obtain ⟨n, rfl⟩ : ∃ j : Nat, v = j := ⟨v.toNat, by omega⟩
    refine ⟨st, n, rfl, S5, by omega, fun H6 r css k6 S6 n6 h6 l6 p6 o6 _ => ?_⟩
    have hn4 : css.length < 4 := by omega
    have k06 := (k4.trans k5).trans k6
    refine ⟨Nat.zero_le _, fun D nD => ?_⟩
    obtain ⟨sc, X6⟩ := S6.x
    obtain ⟨nD1, nD2⟩ := X6.ne nD
    have nDr : r ≠ D := fun e => by rw [e] at h6; rw [h6] at nD; cases nD
    have t6 : Same H6 (upd H6 D (.lst [])) := same_upd nD
    have lx : (css.map tx).length = css.length := List.length_map _
    have h6' := t6 _ _ h6
    have X6' := X6.same t6
    have hD0 : (upd H6 D (.lst [])) D = some (.lst []) := upd_same
    generalize eHd : upd H6 D (.lst []) = Hd at t6 h6' X6' hD0 ⊢
    refine ⟨.ref r, rfl, .inr ⟨r, _, rfl, .inr (SqT.of h6'), ?_⟩⟩
    rw [lx]
    refine ⟨_, rfl, by omega, by omega, for_it walk_range (fun i σ' H' => ∃ y3 y4 acc, σ' = [some (.ref st), some (.ref r), some (.ref D), y3, y4, none] ∧ Kp D Hd H' ∧ H' D = some (.lst acc) ∧ R1.Al (IsPr H') acc ((List.range i).flatMap (prsAt css))) ⟨none, none, [], rfl, Kp.refl _ _, hD0, R1.Al.nil⟩ (fun _ _ _ _ _ => trivial) ?_ ?_⟩
    · rintro i x' σ' _ H' hi ⟨y3, y4, acc, rfl, kd, hD, hA⟩ ⟨rfl, rfl⟩
      have hi' : i < css.length := by omega
      have g1 : css[i]? = some css[i] := List.getElem?_eq_getElem hi'
      have hr' := kd _ _ nDr h6'
      refine ⟨_, rfl, .inl ⟨_, 1, rfl, rfl, .ref r, rfl, .inr ⟨r, _, rfl, .inr (SqT.of hr'), ?_⟩⟩⟩
      rw [lx]
      refine ⟨_, _, rfl, ⟨by omega, by omega, by omega, by omega⟩, for_it walk_range (fun u σ' H2 => ∃ y4 acc, σ' = [some (.ref st), some (.ref r), some (.ref D), some (.int (0 + (i : Int))), y4, none] ∧ Kp D Hd H2 ∧ H2 D = some (.lst acc) ∧ R1.Al (IsPr H2) acc ((List.range i).flatMap (prsAt css) ++ (prsAt css i).take u)) ⟨y4, acc, rfl, kd, hD, by simpa using hA⟩ (fun _ _ _ _ _ => trivial) ?_ ?_⟩
      · rintro u x2 σ' _ H2 hu ⟨y4', acc2, rfl, kd2, hD2, hA2⟩ ⟨rfl, rfl⟩
        have hu' : i + 1 + u < css.length := by omega
        have g2 : css[i + 1 + u]? = some css[i + 1 + u] := List.getElem?_eq_getElem hu'
        have hr2 := kd2 _ _ nDr h6'
        refine ⟨.ref D, rfl, .inl ⟨rfl, _, SqL.of hD2⟩, .ref r, rfl, _, rfl, .inr (.inl ⟨r, _, _, tx css[i], rfl, rfl, SqT.of hr2, atI_i (j := i) (by rw [List.getElem?_map, g1]; rfl) (by omega), ?_⟩)⟩
        refine ⟨.ref r, rfl, _, rfl, .inr (.inl ⟨r, _, _, tx css[i + 1 + u], rfl, rfl, SqT.of hr2, atI_i (j := i + 1 + u) (by rw [List.getElem?_map, g2]; rfl) (by omega), ?_⟩)⟩
        refine ⟨Nat.le_of_lt (small1000 (by simp)), fun pt npt => ?_⟩
        have tP : Same H2 (upd H2 pt (.tup [tx css[i], tx css[i + 1 + u]])) := same_upd npt
        have hD3 := tP _ _ hD2
        have hpt : (upd H2 pt (.tup [tx css[i], tx css[i + 1 + u]])) pt = some (.tup [tx css[i], tx css[i + 1 + u]]) := upd_same
        have npD : pt ≠ D := fun e => by rw [e] at npt; rw [npt] at hD2; cases hD2
        have la : acc2.length ≤ 1000 := by
          have e := hA2.1
          have e2 : ((List.range i).flatMap (prsAt css)).length ≤ 9 := by
            have h3 : ∀ m, m ≤ 3 → ((List.range m).flatMap (prsAt css)).length ≤ m * 3 := by
              intro m
              induction m with
              | zero => intro _; simp
              | succ m ih =>
                intro hm
                rw [List.range_succ, List.flatMap_append, List.length_append]
                have h1 := ih (by omega)
                have h2 : ([m].flatMap (prsAt css)).length ≤ 3 := by
                  have : (prsAt css m).length ≤ 3 := by unfold prsAt; simp; omega
                  simpa using this
                omega
            have := h3 i (by omega)
            omega
          have e3 : (prsAt css i).length ≤ 3 := by unfold prsAt; simp; omega
          rw [List.length_append, List.length_take] at e
          omega
        refine ⟨D, acc2, _, rfl, rfl, hD3, small1000 la, _, _, rfl, (kd2.trans (same_kp tP)).put, upd_same, ?_⟩
        have gp : (prsAt css i)[u]? = some (css[i], css[i + 1 + u]) := by
          unfold prsAt
          rw [List.getElem?_map, List.getElem?_drop, g2]
          simp [List.getD, g1]
        have et : (prsAt css i).take (u + 1) = (prsAt css i).take u ++ [(css[i], css[i + 1 + u])] := by rw [List.take_add_one, gp]; rfl
        rw [et, ← List.append_assoc]
        refine R1.Al.snoc (hA2.mono fun x r h => IsPr.kp (D := D) ((Kp.refl _ _).put) hD3 (h.same tP)) ⟨pt, rfl, ?_⟩
        rw [upd_ne npD]; exact hpt
      · rintro σ' H2 ⟨y4', acc2, rfl, kd2, hD2, hA2⟩
        refine ⟨_, y4', acc2, rfl, kd2, hD2, ?_⟩
        rw [List.range_succ, List.flatMap_append]
        have lp : (prsAt css i).length = css.length - (i + 1) := by unfold prsAt; simp
        rw [List.take_of_length_le (by rw [lp]; omega)] at hA2
        simpa using hA2
    · rintro σ' H7 ⟨y3, y4, acc, rfl, kd, hD, hA⟩
      have e3 : (css.length : Int).toNat = css.length := by omega
      rw [e3] at hA
      have hA0 : R1.Al (IsPr H7) acc (prs css) := hA
      have X7 := X6'.kpD kd nD1 nD2
      have S7 := X7.s
      have hr7 := kd _ _ nDr h6'
      have nD0 : H D = none := k06.free S nD nD1
      have k07 : Kp st H H7 := fun b o hb e => kd b o (ne_of_none e nD0) (t6 _ _ (k06 b o hb e))
      have nrs : r ≠ st := fun e => by
        obtain ⟨sc', ns, i, b, s, l, hne, hst, _⟩ := S7.x
        rw [e, hst] at hr7; cases hr7
      refine ⟨.ref st, rfl, .ref r, rfl, st, r, css, rfl, S7, SqT.of hr7, nrs, by omega, p6, o6, fun H8 p k8 S8 hB8 => ?_⟩
      have hr8 := k8 _ _ nrs hr7
      have hD8 := k8 _ _ nD1 hD
      obtain ⟨x, v, rr, hp, hB⟩ := hB8
      have hA8 : R1.Al (IsPr H8) acc (prs css) := by
        obtain ⟨sc', ns, i, b, s, l, hne, hst, _⟩ := S7.x
        exact hA0.mono fun x r h => IsPr.kp k8 hst h
      have nms : ∀ {H' : Hp}, H' r = some (.tup (css.map tx)) → NamesIs K H' (.ref r) none := fun {H'} hh => names_all (SqT.of hh) (by omega) o6 (by rw [asc_of p6, decide_eq_true (by omega)]; rfl)
      refine ⟨.ref r, rfl, .ref r, none, rfl, nms hr8, fun p1 H9 n1 s9 h9 => ⟨Nat.zero_le _, fun p2 n2 => ?_⟩⟩
      have t9 : Same H9 (upd H9 p2 (.lst [])) := same_upd n2
      refine .inr (nil_ne (t9 _ _ h9) upd_same ⟨false, rfl, iteF ?_⟩)
      have s8a := s9.trans t9
      generalize upd H9 p2 (.lst []) = Ha at s8a ⊢
      obtain ⟨hb1, hb2⟩ := hB Ha s8a
      refine ixv 0 rfl (SqL.of (s8a _ _ hp)) rfl ⟨x, some rr, rfl, hb1, fun p3 Hb n3 sb hb => ?_⟩
      have s8b := s8a.trans sb
      refine ixv 1 rfl (SqL.of (s8b _ _ hp)) rfl ⟨Nat.le_of_lt (small1000 (by simp)), fun p4 n4 => ?_⟩
      have tb : Same Hb (upd Hb p4 (.lst [v])) := same_upd n4
      have s8c := s8b.trans tb
      refine ⟨_, _, rfl, (sm_one (n := 5) (tb _ _ hb) upd_same ((hB _ s8c).2).up), true, rfl, iteF ?_⟩
      generalize upd Hb p4 (.lst [v]) = Hc at s8c ⊢
      refine ⟨.ref r, rfl, .ref r, none, rfl, nms (s8c _ _ hr8), fun p5 Hd2 n5 sd hd2 => ⟨Nat.zero_le _, fun p6' n6' => ?_⟩⟩
      have td : Same Hd2 (upd Hd2 p6' (.lst [])) := same_upd n6'
      refine .inr (nil_eq (td _ _ hd2) upd_same ⟨true, rfl, iteT ?_⟩)
      have s8e := (s8c.trans sd).trans td
      generalize upd Hd2 p6' (.lst []) = He at s8e ⊢
      refine ⟨.ref r, rfl, r, css, rfl, SqT.of (s8e _ _ hr8), by omega, fun p7 xs Hf sf n7 h7 hA7 => ⟨.ref D, rfl, _, _, rfl, ?_, q Hf ((k07.trans k8).trans (same_kp (s8e.trans sf))) (S8.same (s8e.trans sf))⟩⟩
      have s8f := s8e.trans sf
      refine sm_lst (n := 5) (SqL.of h7) (SqL.of (s8f _ _ hD8)) hA7 (hA8.mono fun x r h => h.same s8f) ?_ fun x y r _ h1 h2 => sm_pr h1 h2
      rw [← hA7.1]
      have e := hA8.1
      rw [hA7.1, ← e]
      have : acc.length ≤ 1000000 := by
        rw [e]
        have h3 : ∀ m, m ≤ 3 → ((List.range m).flatMap (prsAt css)).length ≤ m * 3 := by
          intro m
          induction m with
          | zero => intro _; simp
          | succ m ih =>
            intro hm
            rw [List.range_succ, List.flatMap_append, List.length_append]
            have h1 := ih (by omega)
            have h2 : ([m].flatMap (prsAt css)).length ≤ 3 := by
              have : (prsAt css m).length ≤ 3 := by unfold prsAt; simp; omega
              simpa using this
            omega
        have := h3 css.length (by omega)
        unfold prs
        omega
      exact this
end
end K0


namespace R1
open PySem PySem.Spec PyProof.Rows L2
theorem ix_seqK {X : Cx} {K : PySem.W.Frag} (hK : X.K = K) : IxR X (rIx K) := by subst hK; exact ix_seq
end R1
namespace K0
open PySem PySem.Spec PyProof.Rows L2
section
variable {P : Program} {w : World} {K : PySem.W.Frag} {mg : Str → Option Value} {base : Heap} {a : Ad}
abbrev RI : Hp → V → Int → Prop := fun _ x k => x = V.int k
abbrev SK := { s : Str // PyData.canLay0 (.str s) = true }
abbrev RS : Hp → V → SK → Prop := fun _ x k => x = V.str k.1
def SpMk (K : PySem.W.Frag) : Sp := fun vs H Q E => (spMarkG K RI vs H Q E ∨ spMarkG K RS vs H Q E) ∨ spMarkG K IsTupD vs H Q E
def SpLw (K : PySem.W.Frag) : Sp := fun vs H Q E => (spMarkedL K RI vs H Q E ∨ spMarkedL K RS vs H Q E) ∨ spMarkedL K IsTupD vs H Q E
structure KindOk (K : PySem.W.Frag) {κ : Type} [DecidableEq κ] (R : Hp → V → κ → Prop) : Prop where
  m : ∀ vs H Q E, spMarkG K R vs H Q E → SpMk K vs H Q E
  l : ∀ vs H Q E, spMarkedL K R vs H Q E → SpLw K vs H Q E
  same : ∀ H H' x k, Same H H' → R H x k → R H' x k
  kp : ∀ H H' D l x k, Kp D H H' → H D = some (.lst l) → R H x k → R H' x k
  sm : ∀ H x y k, R H x k → R H y k → Sm K 5 H x y
def Menu (K : PySem.W.Frag) (H : Hp) (ms : List V) : Prop := ∃ (κ : Type) (dec : DecidableEq κ) (R : Hp → V → κ → Prop) (k0 : List κ), @KindOk K κ dec R ∧ R1.Al (R H) ms k0 ∧ ms.length = 4
theorem koI : KindOk K RI := ⟨fun _ _ _ _ h => .inl (.inl h), fun _ _ _ _ h => .inl (.inl h), fun _ _ _ _ _ e => e, fun _ _ _ _ _ _ _ _ e => e, fun _ x y k e1 e2 => by rw [e1, e2]; exact .int k⟩
theorem koS : KindOk K RS := ⟨fun _ _ _ _ h => .inl (.inr h), fun _ _ _ _ h => .inl (.inr h), fun _ _ _ _ _ e => e, fun _ _ _ _ _ _ _ _ e => e, fun _ x y k e1 e2 => by rw [e1, e2]; exact .str k.1⟩
def IsTupB (H : Hp) (x : V) (k : List Int) : Prop := IsTupD H x k ∧ k.length ≤ 10
theorem koT : KindOk K IsTupB := ⟨fun _ _ _ _ ⟨p, xs, ks, e, hS, hA, r⟩ => .inr ⟨p, xs, ks, e, hS, hA.mono fun _ _ h => h.1, r⟩, fun _ _ _ _ ⟨p, xs, ks, e, hS, hA, r⟩ => .inr ⟨p, xs, ks, e, hS, hA.mono fun _ _ h => h.1, r⟩, fun _ _ _ _ s ⟨⟨b, e, h⟩, l⟩ => ⟨⟨b, e, s _ _ h⟩, l⟩, fun _ _ D l _ _ k hD ⟨⟨b, e, h⟩, l'⟩ => ⟨⟨b, e, k _ _ (fun z => by rw [z, hD] at h; cases h) h⟩, l'⟩, fun H x y k ⟨⟨b, e1, h1⟩, l1⟩ ⟨⟨c, e2, h2⟩, _⟩ => by
  subst e1 e2
  refine .tup (xs := k.map V.int) (SqT.of h1) (SqT.of h2) rfl (by rw [List.length_map]; omega) fun i x y hx hy => ?_
  rw [hx] at hy
  cases hy
  rw [List.getElem?_map] at hx
  cases e : k[i]? with
  | none => rw [e] at hx; cases hx
  | some j => rw [e] at hx; obtain rfl : V.int j = x := Option.some.inj hx; exact .int j⟩
/-- two tuples of ints that stand for the same marks -/
theorem sm_nv {H : Hp} {n : Nat} {p q : Addr} {ms : List Nat} (hp : H p = some (.tup (nvals ms))) (hq : H q = some (.tup (nvals ms))) (hl : ms.length ≤ 1000000) : Sm K (n + 2) H (.ref p) (.ref q) := by
  rw [nvals_i] at hp hq
  exact sm_tup (SqT.of hp) (SqT.of hq) (by unfold ivals; simpa using hl)
def menuS : List SK := [⟨Str.ofString "a", by decide +kernel⟩, ⟨Str.ofString "", by decide +kernel⟩, ⟨Str.ofString "b1", by decide +kernel⟩, ⟨Str.ofString "a1", by decide +kernel⟩]
theorem al_map {α : Type} (g : α → V) (l : List α) : R1.Al (fun x r => x = g r) (l.map g) l := ⟨by simp, fun i x r hx hr => by
  rw [List.getElem?_map, hr] at hx
  exact (Option.some.inj hx).symm⟩
theorem ok_marksRight (T : Top K mg a) (G_l_draw : FnOk P w K mg base CX0 1 a.f_l_draw a.d_l_draw ["_law_state_here", "_law_many"] spDrawX) (G_l_alike : FnOk P w K mg base CX0 6 a.f_l_alike a.d_l_alike ["_law_actual", "_law_due"] (spAl (Sm K 6)))
    (G_marked : FnOk P w K mg base CX0 1 a.f_marked a.d_marked ["keys"] (SpMk K)) (G_l_marked : FnOk P w K mg base CX0 1 a.f_l_marked a.d_l_marked ["_law_keys"] (SpLw K)) : FnOk P w K mg base CX0 7 a.f_l_marks_right a.d_l_marks_right ["_law_state_here"] spRight := by
  refine T.F_l_marks_right.ok sc_l_marks_right (fun vs H Q E h => ?_) (fun cdv A outer s H vs Q E hr h => ?_)
  · obtain ⟨_, rfl, _⟩ := h
    rfl
  · obtain ⟨st, rfl, S, q⟩ := h
    refine ⟨_, (pss_cons (ps_set (i := 1) sc_l_marks_right.nd rfl (.inr rfl) (pe_ix ix_seq (pe_tup (pa_cons (pe_tup (pa_cons pe_int (pa_cons pe_int (pa_cons (pe_un un_neg pe_int) (pa_cons pe_int pa_nil))))) (pa_cons (pe_tup (pa_cons pe_str (pa_cons pe_str (pa_cons pe_str (pa_cons pe_str pa_nil))))) (pa_cons (pe_tup (pa_cons (pe_tup (pa_cons pe_int (pa_cons pe_int pa_nil))) (pa_cons (pe_tup (pa_cons pe_int (pa_cons pe_int pa_nil))) (pa_cons (pe_tup (pa_cons pe_int pa_nil)) (pa_cons (pe_tup (pa_cons pe_int (pa_cons pe_int pa_nil))) pa_nil))))) pa_nil)))) (pe_call G_l_draw (hr.mono (by decide)) (by rfl) T.m_l_draw T.F_l_draw.kp T.b_l_draw .nil pass0 (pa_cons (pv 0) (pa_cons pe_int pa_nil))) (fun _ _ => rfl)))
    (pss_cons (ps_setLc (own := [("_law_k", 5)]) (i := 2) rfl sc_l_marks_right.nd rfl rfl (sw_true rfl rfl rfl (by decide +kernel)) (pi_range1 (by rfl) T.z_range (pa_cons (pe_call G_l_draw (hr.mono (by decide)) (by rfl) T.m_l_draw T.F_l_draw.kp T.b_l_draw .nil pass0 (pa_cons (pv 0) (pa_cons pe_int pa_nil))) pa_nil)) (blkOk_by (own := [("_law_k", 5)]) (N := ["_law_state_here", "_law_menu", "_law_keys", "_law_due", "_law_handed", "_law_k"]) (sc := defScope s_l_marks_right) (by decide +kernel)) (fun _ _ _ _ _ => (pg_name (i := 5) sc_l_marks_right.nd rfl (.inl rfl))) (fun _ _ _ _ _ => pts_nil) (fun _ _ _ _ _ => (pe_ix (R1.ix_seqK (K := K) rfl) (pv 1) (pe_call G_l_draw (hr.mono (by decide)) (by rfl) T.m_l_draw T.F_l_draw.kp T.b_l_draw .nil pass0 (pa_cons (pv 0) (pa_cons pe_int pa_nil))) (fun _ _ => rfl))))
    (pss_cons (ps_set (i := 3) sc_l_marks_right.nd rfl (.inl rfl) (pe_call G_l_marked (hr.mono (by decide)) (by rfl) T.m_l_marked T.F_l_marked.kp T.b_l_marked .nil pass0 (pa_cons (pv 2) pa_nil)))
    (pss_cons (ps_set (i := 4) sc_l_marks_right.nd rfl (.inl rfl) (pe_callTy call_list_of (by rfl) T.z_list (by decide +kernel) (pa_cons (pv 2) pa_nil)))
    (pss_cons (ps_if (PW.pt (pw_or (pt_not (pt_val (pe_call G_l_alike (hr.mono (by decide)) (by rfl) T.m_l_alike T.F_l_alike.kp T.b_l_alike .nil pass0 (pa_cons (pe_call G_marked (hr.mono (by decide)) (by rfl) T.m_marked T.F_marked.kp T.b_marked .nil pass0 (pa_cons (pv 4) pa_nil)) (pa_cons (pv 3) pa_nil))))) (pw_or1 (pt_not (pt_val (pe_call G_l_alike (hr.mono (by decide)) (by rfl) T.m_l_alike T.F_l_alike.kp T.b_l_alike .nil pass0 (pa_cons (pv 4) (pa_cons (pv 2) pa_nil))))))))
      (pss_one (ps_ret pe_bl))
      pss_nil)
    (pss_one (ps_ret (pe_call G_l_alike (hr.mono (by decide)) (by rfl) T.m_l_alike T.F_l_alike.kp T.b_l_alike .nil pass0 (pa_cons (pe_call G_marked (hr.mono (by decide)) (by rfl) T.m_marked T.F_marked.kp T.b_marked .nil pass0 (pa_cons (pe_callTy call_tuple_of (by rfl) T.z_tuple (by decide +kernel) (pa_cons (pv 2) pa_nil)) pa_nil)) (pa_cons (pv 3) pa_nil)))))))))), ?_⟩
    obtain ⟨sc, X⟩ := S.x
    have e1 : Str.ofString "a" = ⟨#[97]⟩ := by decide +kernel
    refine ⟨1, rfl, Nat.le_of_lt (small1000 (by simp)), fun p1 n1 => ⟨Nat.le_of_lt (small1000 (by simp)), fun p2 n2 => ⟨Nat.le_of_lt (small1000 (by simp)), fun q1 m1 => ⟨Nat.le_of_lt (small1000 (by simp)), fun q2 m2 => ⟨Nat.le_of_lt (small1000 (by simp)), fun q3 m3 => ⟨Nat.le_of_lt (small1000 (by simp)), fun q4 m4 => ⟨Nat.le_of_lt (small1000 (by simp)), fun p3 n3 => ⟨Nat.le_of_lt (small1000 (by simp)), fun pt nt => ?_⟩⟩⟩⟩⟩⟩⟩⟩
    have s1 := same_upd (o := .tup [.int 0, .int 7, .int (-1), .int 3]) n1
    have s2 := same_upd (o := .tup [.str (Str.ofString "a"), .str (Str.ofString ""), .str (Str.ofString "b1"), .str (Str.ofString "a1")]) n2
    have s3 := same_upd (o := .tup [.int 0, .int 1]) m1
    have s4 := same_upd (o := .tup [.int 1, .int 0]) m2
    have s5 := same_upd (o := .tup [.int 0]) m3
    have s6 := same_upd (o := .tup [.int 0, .int 0]) m4
    have s7 := same_upd (o := .tup [.ref q1, .ref q2, .ref q3, .ref q4]) n3
    have s8 := same_upd (o := .tup [.ref p1, .ref p2, .ref p3]) nt
    have sA := ((((((s1.trans s2).trans s3).trans s4).trans s5).trans s6).trans s7).trans s8
    have np1 : p1 ≠ st := (X.ne n1).1
    have np2 : p2 ≠ st := ((X.same s1).ne n2).1
    have nq1 : q1 ≠ st := ((X.same (s1.trans s2)).ne m1).1
    have nq2 : q2 ≠ st := ((X.same ((s1.trans s2).trans s3)).ne m2).1
    have nq3 : q3 ≠ st := ((X.same (((s1.trans s2).trans s3).trans s4)).ne m3).1
    have nq4 : q4 ≠ st := ((X.same ((((s1.trans s2).trans s3).trans s4).trans s5)).ne m4).1
    have np3 : p3 ≠ st := ((X.same (((((s1.trans s2).trans s3).trans s4).trans s5).trans s6)).ne n3).1
    have npt : pt ≠ st := ((X.same ((((((s1.trans s2).trans s3).trans s4).trans s5).trans s6).trans s7)).ne nt).1
    refine ⟨.ref st, rfl, st, sc, 3, rfl, X.same sA, by decide, by decide, fun H9 v k9 X9 a9 b9 => ?_⟩
    have f1 := k9 _ _ np1 (s8 _ _ (s7 _ _ (s6 _ _ (s5 _ _ (s4 _ _ (s3 _ _ (s2 _ _ upd_same)))))))
    have f2 := k9 _ _ np2 (s8 _ _ (s7 _ _ (s6 _ _ (s5 _ _ (s4 _ _ (s3 _ _ upd_same))))))
    have g1 := k9 _ _ nq1 (s8 _ _ (s7 _ _ (s6 _ _ (s5 _ _ (s4 _ _ upd_same)))))
    have g2 := k9 _ _ nq2 (s8 _ _ (s7 _ _ (s6 _ _ (s5 _ _ upd_same))))
    have g3 := k9 _ _ nq3 (s8 _ _ (s7 _ _ (s6 _ _ upd_same)))
    have g4 := k9 _ _ nq4 (s8 _ _ (s7 _ _ upd_same))
    have f3 := k9 _ _ np3 (s8 _ _ upd_same)
    have ft := k9 _ _ npt upd_same
    have k09 := (same_kp (st := st) sA).trans k9
    obtain ⟨m, rfl⟩ : ∃ j : Nat, v = j := ⟨v.toNat, by omega⟩
    obtain ⟨pm, ms, hx, hpm, hM⟩ : ∃ pm ms, ([.ref p1, .ref p2, .ref p3] : List V)[m]? = some (.ref pm) ∧ H9 pm = some (.tup ms) ∧ Menu K H9 ms := by
      rcases (by omega : m = 0 ∨ m = 1 ∨ m = 2) with rfl | rfl | rfl
      · exact ⟨p1, _, rfl, f1, Int, _, RI, [0, 7, -1, 3], koI, al_map V.int [0, 7, -1, 3], rfl⟩
      · exact ⟨p2, _, rfl, f2, SK, _, RS, menuS, koS, al_map (fun k : SK => V.str k.1) menuS, rfl⟩
      · exact ⟨p3, _, rfl, f3, List Int, _, IsTupB, [[0, 1], [1, 0], [0], [0, 0]], koT, (((R1.Al.nil.snoc (r := [0, 1]) (⟨⟨q1, rfl, g1⟩, by simp⟩ : IsTupB H9 (.ref q1) [0, 1])).snoc (r := [1, 0]) (⟨⟨q2, rfl, g2⟩, by simp⟩ : IsTupB H9 (.ref q2) [1, 0])).snoc (r := [0]) (⟨⟨q3, rfl, g3⟩, by simp⟩ : IsTupB H9 (.ref q3) [0])).snoc (r := [0, 0]) (⟨⟨q4, rfl, g4⟩, by simp⟩ : IsTupB H9 (.ref q4) [0, 0]), rfl⟩
    obtain ⟨κ, dec, R, k0, KO, hA0, l4⟩ := hM
    refine .inr (.inl ⟨pt, _, (m : Int), .ref pm, rfl, rfl, SqT.of ft, atI_nat hx, ?_⟩)
    have npm : pm ≠ st := fun e => by
      obtain ⟨ns, i, b, s, l, hne, hst, _⟩ := X9
      rw [e, hst] at hpm; cases hpm
    refine ⟨.ref st, rfl, st, sc, 9, rfl, X9, by decide, by decide, fun Hc n kc Xc ac bc => ?_⟩
    have hpc := kc _ _ npm hpm
    have hAc : R1.Al (R Hc) ms k0 := by
      obtain ⟨ns, i, b, s, l, hne, hst, _⟩ := X9
      exact hA0.mono fun x k h => KO.kp _ _ st _ _ _ kc hst h
    refine ⟨n, rfl, by omega, by omega, fun D nD => R1.walk_it walk_range (fun u H' => Kp st Hc H' ∧ StaX H' st sc ∧ ∃ xs ks, H' D = some (.lst xs) ∧ ks.length = u ∧ R1.Al (R H') xs ks) ⟨same_kp (same_upd nD), Xc.same (same_upd nD), [], [], upd_same, rfl, R1.Al.nil⟩ (fun _ _ _ _ => trivial) ?_ ?_⟩
    · rintro u x _ H1 hu ⟨k1, X1, xs, ks, hD, lk, hA⟩ ⟨rfl, rfl⟩
      have lx : xs.length = u := hA.1.trans lk
      have hu9 : u < 9 := by omega
      have nDst : D ≠ st := (Xc.ne nD).1
      have nDsc : D ≠ sc := (Xc.ne nD).2
      refine ⟨rfl, .ref pm, rfl, .ref st, rfl, st, sc, 4, rfl, X1, by decide, by decide, fun H2 v2 k2 X2 a2 b2 => ?_⟩
      obtain ⟨j, rfl⟩ : ∃ j : Nat, v2 = j := ⟨v2.toNat, by omega⟩
      have k12 := k1.trans k2
      have hpm2 := k12 _ _ npm hpc
      have hjm : j < ms.length := by omega
      have hmj : ms[j]? = some ms[j] := List.getElem?_eq_getElem hjm
      have hAc2 : R1.Al (R H2) ms k0 := by
        obtain ⟨ns, i, b, s, l, hne, hst, _⟩ := Xc
        exact hAc.mono fun x k h => KO.kp _ _ st _ _ _ k12 hst h
      obtain ⟨kj, hkj, hRj⟩ := hAc2.at hmj
      have hD2 := k2 _ _ nDst hD
      have hA2 : R1.Al (R H2) xs ks := by
        obtain ⟨ns, i, b, s, l, hne, hst, _⟩ := X1
        exact hA.mono fun x k h => KO.kp _ _ st _ _ _ k2 hst h
      refine .inr (.inl ⟨pm, ms, (j : Int), ms[j], rfl, rfl, SqT.of hpm2, atI_nat hmj, xs, hD2, small1000 (by omega), ?_⟩)
      refine ⟨fun b o hb e => ?_, X2.upd nDst nDsc, _, ks ++ [kj], upd_same, by simp [lk], ?_⟩
      · rw [upd_ne (ne_of_none e nD)]
        exact k12 b o hb e
      · exact R1.Al.snoc (hA2.mono fun x r h => KO.kp _ _ D _ _ _ ((Kp.refl _ _).put) hD2 h) (KO.kp _ _ D _ _ _ ((Kp.refl _ _).put) hD2 hRj)
    · rintro H1 ⟨k1, X1, xs, ks, hD, lk, hA⟩
      have lk9 : ks.length ≤ 9 := by omega
      have lx : xs.length = ks.length := hA.1
      refine ⟨.ref D, rfl, ?_⟩
      dsimp only [tNil]
      refine KO.l _ _ _ _ ⟨D, xs, ks, rfl, SqL.of hD, hA, by omega, fun r H2 nr s2 h2 => ?_⟩
      refine ⟨.ref D, rfl, D, xs, rfl, .inl (SqL.of (s2 _ _ hD)), fun l nl => ?_⟩
      have t2 : Same H2 (upd H2 l (.lst xs)) := same_upd nl
      have hl : (upd H2 l (.lst xs)) l = some (.lst xs) := upd_same
      have s12 := s2.trans t2
      have h2' := t2 _ _ h2
      generalize upd H2 l (.lst xs) = H3 at s12 hl h2' ⊢
      refine ⟨.ref l, rfl, ?_⟩
      dsimp only [tNil]
      refine KO.m _ _ _ _ ⟨l, xs, ks, rfl, .inl (SqL.of hl), hA.mono fun x k h => KO.same _ _ _ _ s12 h, by omega, fun r4 H4 n4 s4 h4 => ?_⟩
      have lm : (marksOf ks).length ≤ 1000000 := by unfold marksOf; simp; omega
      have s14 := s12.trans s4
      refine ⟨_, rfl, _, _, rfl, sm_nv (n := 4) h4 (s4 _ _ h2') lm, true, rfl, iteF ⟨_, rfl, _, rfl, _, _, rfl, .lst (SqL.of (s4 _ _ hl)) (SqL.of (s14 _ _ hD)) rfl (by omega) (fun i x y hx hy => ?_), true, rfl, iteF ?_⟩⟩
      · rw [hx] at hy
        cases hy
        obtain ⟨k, hk, hR⟩ := hA.at hx
        have := KO.same _ _ _ _ s14 hR
        exact KO.sm _ _ _ _ this this
      · refine ⟨.ref D, rfl, D, xs, rfl, .inl ⟨SqL.of (s14 _ _ hD), fun t nt => ?_⟩⟩
        have t4 : Same H4 (upd H4 t (.tup xs)) := same_upd nt
        have ht : (upd H4 t (.tup xs)) t = some (.tup xs) := upd_same
        have s15 := s14.trans t4
        have h5 := (s4.trans t4) _ _ h2'
        generalize upd H4 t (.tup xs) = H5 at s15 ht h5 ⊢
        dsimp only [tNil]
        refine KO.m _ _ _ _ ⟨t, xs, ks, rfl, .inr (SqT.of ht), hA.mono fun x k h => KO.same _ _ _ _ s15 h, by omega, fun r6 H6 n6 s6 h6 => ?_⟩
        refine ⟨_, rfl, _, _, rfl, sm_nv (n := 4) h6 (s6 _ _ h5) lm, ?_⟩
        exact q H6 (((k09.trans kc).trans k1).trans (same_kp (s15.trans s6))) (X1.same (s15.trans s6)).s
end
end K0


namespace K0
open PySem PySem.Spec PyProof.Rows L2
section
variable {P : Program} {w : World} {K : PySem.W.Frag} {mg : Str → Option Value} {base : Heap} {a : Ad}
theorem sm_parts {H : Hp} {p q : Addr} {xs ys : List V} {n : Nat} (hn : n ≤ 6) (hp : H p = some (.lst xs)) (hq : H q = some (.lst ys)) (hA : R1.Al (IsTup K H) xs (parts n)) (hB : R1.Al (IsTup K H) ys (parts n)) : Sm K 6 H (.ref p) (.ref q) := by
  obtain ⟨b1, b2⟩ := parts_small n (by omega)
  exact sm_lst (n := 5) (SqL.of hp) (SqL.of hq) hA hB (by omega) fun x y r hr h1 h2 => sm_isTup (n := 3) h1 h2 (by have := (b2 r hr).1; omega)
theorem ok_partsRight (T : Top K mg a) (G_l_draw : FnOk P w K mg base CX0 1 a.f_l_draw a.d_l_draw ["_law_state_here", "_law_many"] spDraw) (G_l_alike : FnOk P w K mg base CX0 6 a.f_l_alike a.d_l_alike ["_law_actual", "_law_due"] (spAl (Sm K 6)))
    (G_l_partitions : FnOk P w K mg base CX0 1 a.f_l_partitions a.d_l_partitions ["_law_count"] (spPartsL K)) (G_partitions : FnOk P w K mg base CX0 2 a.f_partitions a.d_partitions ["count"] (spParts K)) (G_block_count : FnOk P w K mg base CX0 1 a.f_block_count a.d_block_count ["marks"] (spBlk K))
    (G_l_marked : FnOk P w K mg base CX0 1 a.f_l_marked a.d_l_marked ["_law_keys"] (spMarkedL K IsTupD)) (G_meet : FnOk P w K mg base CX0 2 a.f_meet a.d_meet ["first", "second"] (spMeet K)) : FnOk P w K mg base CX0 7 a.f_l_partitions_right a.d_l_partitions_right ["_law_state_here"] spRight := by
  refine T.F_l_partitions_right.ok sc_l_partitions_right (fun vs H Q E h => ?_) (fun cdv A outer s H vs Q E hr h => ?_)
  · obtain ⟨_, rfl, _⟩ := h
    rfl
  · obtain ⟨st, rfl, S, q⟩ := h
    refine ⟨_, (pss_cons (ps_set (i := 1) sc_l_partitions_right.nd rfl (.inl rfl) (pe_call G_l_draw (hr.mono (by decide)) (by rfl) T.m_l_draw T.F_l_draw.kp T.b_l_draw .nil pass0 (pa_cons (pv 0) (pa_cons pe_int pa_nil))))
    (pss_cons (ps_set (i := 2) sc_l_partitions_right.nd rfl (.inl rfl) (pe_call G_l_partitions (hr.mono (by decide)) (by rfl) T.m_l_partitions T.F_l_partitions.kp T.b_l_partitions .nil pass0 (pa_cons (pv 1) pa_nil)))
    (pss_cons (ps_set (i := 3) sc_l_partitions_right.nd rfl (.inl rfl) (pe_call G_partitions (hr.mono (by decide)) (by rfl) T.m_partitions T.F_partitions.kp T.b_partitions .nil pass0 (pa_cons (pv 1) pa_nil)))
    (pss_cons (ps_if (pt_not (pt_val (pe_call G_l_alike (hr.mono (by decide)) (by rfl) T.m_l_alike T.F_l_alike.kp T.b_l_alike .nil pass0 (pa_cons (pv 3) (pa_cons (pv 2) pa_nil)))))
      (pss_one (ps_ret pe_bl))
      pss_nil)
    (pss_cons (ps_expr (pe_bm0 PySem.F.plainAttrs_list PySem.F.slot_list_clear PySem.F.type_list_clear mt_clear (pv 3) ))
    (pss_cons (ps_if (pt_not (pt_val (pe_call G_l_alike (hr.mono (by decide)) (by rfl) T.m_l_alike T.F_l_alike.kp T.b_l_alike .nil pass0 (pa_cons (pe_call G_partitions (hr.mono (by decide)) (by rfl) T.m_partitions T.F_partitions.kp T.b_partitions .nil pass0 (pa_cons (pv 1) pa_nil)) (pa_cons (pv 2) pa_nil)))))
      (pss_one (ps_ret pe_bl))
      pss_nil)
    (pss_cons (ps_for PassesOwn.never rfl (R1.PI.or (pi_list (pv 2)) (pi_tup (pv 2))) (pg_name (i := 4) sc_l_partitions_right.nd rfl (.inl rfl))
      (pss_one (ps_if (pt_not (pt_val (pe_call G_l_alike (hr.mono (by decide)) (by rfl) T.m_l_alike T.F_l_alike.kp T.b_l_alike .nil pass0 (pa_cons (pe_call G_block_count (hr.mono (by decide)) (by rfl) T.m_block_count T.F_block_count.kp T.b_block_count .nil pass0 (pa_cons (pv 4) pa_nil)) (pa_cons (R1.pe_lenSetX rfl (by rfl) T.z_len (by rfl) T.z_set (pv 4)) pa_nil)))))
        (pss_one (ps_ret pe_bl))
        pss_nil)))
    (pss_cons (ps_for PassesOwn.never rfl (pi_range1 (by rfl) T.z_range (pa_cons pe_int pa_nil)) (pg_name (i := 5) sc_l_partitions_right.nd rfl (.inl rfl))
      (pss_cons (ps_set (i := 6) sc_l_partitions_right.nd rfl (.inr rfl) (pe_ix ix_seq (pv 2) (pe_call G_l_draw (hr.mono (by decide)) (by rfl) T.m_l_draw T.F_l_draw.kp T.b_l_draw .nil pass0 (pa_cons (pv 0) (pa_cons (pe_callB (CallR.or call_len_str call_len_seq) (by rfl) T.z_len (by decide +kernel) (pa_cons (pv 2) pa_nil)) pa_nil))) (fun _ _ => rfl)))
      (pss_cons (ps_set (i := 7) sc_l_partitions_right.nd rfl (.inr rfl) (pe_ix ix_seq (pv 2) (pe_call G_l_draw (hr.mono (by decide)) (by rfl) T.m_l_draw T.F_l_draw.kp T.b_l_draw .nil pass0 (pa_cons (pv 0) (pa_cons (pe_callB (CallR.or call_len_str call_len_seq) (by rfl) T.z_len (by decide +kernel) (pa_cons (pv 2) pa_nil)) pa_nil))) (fun _ _ => rfl)))
      (pss_cons (ps_set (i := 8) sc_l_partitions_right.nd rfl (.inl rfl) (pe_call G_l_marked (hr.mono (by decide)) (by rfl) T.m_l_marked T.F_l_marked.kp T.b_l_marked .nil pass0 (pa_cons (pe_lc (own := [("_law_k", 9)]) rfl sc_l_partitions_right.nd (pi_range1 (by rfl) T.z_range (pa_cons (pv 1) pa_nil)) (blkOk_by (own := [("_law_k", 9)]) (N := ["_law_state_here", "_law_count", "_law_rows", "_law_found", "_law_row", "_law_step", "_law_first", "_law_second", "_law_due", "_law_k"]) (sc := defScope s_l_partitions_right) (by decide +kernel)) (fun _ _ _ _ _ => (pg_name (i := 9) sc_l_partitions_right.nd rfl (.inl rfl))) (fun _ _ _ _ _ => pts_nil) (fun _ _ _ _ _ => (pe_tup (pa_cons (pe_ix (R1.ix_seqK (K := K) rfl) (pv 6) (pv 9) (fun _ _ => rfl)) (pa_cons (pe_ix (R1.ix_seqK (K := K) rfl) (pv 7) (pv 9) (fun _ _ => rfl)) pa_nil))))) pa_nil)))
      (pss_one (ps_if (pt_not (pt_val (pe_call G_l_alike (hr.mono (by decide)) (by rfl) T.m_l_alike T.F_l_alike.kp T.b_l_alike .nil pass0 (pa_cons (pe_call G_meet (hr.mono (by decide)) (by rfl) T.m_meet T.F_meet.kp T.b_meet .nil pass0 (pa_cons (pv 6) (pa_cons (pv 7) pa_nil))) (pa_cons (pv 8) pa_nil)))))
        (pss_one (ps_ret pe_bl))
        pss_nil))))))
    (pss_one (ps_ret pe_bl)))))))))), ?_⟩
    refine ⟨.ref st, rfl, st, 7, rfl, S, by decide, by decide, fun H1 v k1 S1 a1 b1 => ?_⟩
    obtain ⟨n, rfl⟩ : ∃ j : Nat, v = j := ⟨v.toNat, by omega⟩
    have hn : n ≤ 6 := by omega
    obtain ⟨c1, c2⟩ := parts_small n (by omega)
    refine ⟨_, rfl, n, rfl, hn, fun p xs H2 s2 np hp hA => ?_⟩
    refine ⟨_, rfl, n, rfl, hn, fun p3 xs3 H3 s3 np3 hp3 hA3 => ?_⟩
    have hp' := s3 _ _ hp
    have hA' := hA.mono fun x r h => h.same s3
    refine ⟨_, rfl, _, rfl, _, _, rfl, sm_parts hn hp3 hp' hA3 hA', true, rfl, iteF ?_⟩
    refine ⟨.ref p3, rfl, .inl ⟨rfl, _, SqL.of hp3⟩, p3, xs3, rfl, rfl, hp3, ?_⟩
    obtain ⟨sc, X2⟩ := (S1.same s2).x
    obtain ⟨n31, n32⟩ := X2.ne np3
    have npp : p ≠ p3 := fun e => by rw [e] at hp; rw [hp] at np3; cases np3
    have X4 : StaX (upd H3 p3 (.lst [])) st sc := (X2.same s3).upd n31 n32
    have hp4 : (upd H3 p3 (.lst [])) p = some (.lst xs) := by rw [upd_ne npp]; exact hp'
    have k34 : Kp p3 H3 (upd H3 p3 (.lst [])) := (Kp.refl _ _).put
    have hA4 : R1.Al (IsTup K (upd H3 p3 (.lst []))) xs (parts n) := hA'.mono fun x r h => IsTup.kp k34 hp3 h
    have n30 : H p3 = none := (k1.trans (same_kp s2)).free S np3 n31
    have k04 : Kp st H (upd H3 p3 (.lst [])) := fun b o hb e => by
      rw [upd_ne (ne_of_none e n30)]
      exact s3 _ _ (s2 _ _ (k1 _ _ hb e))
    generalize upd H3 p3 (.lst []) = H4 at X4 hp4 hA4 k04 ⊢
    refine ⟨_, rfl, n, rfl, hn, fun p5 xs5 H5 s5 np5 hp5 hA5 => ?_⟩
    have hp5' := s5 _ _ hp4
    have hA5' := hA4.mono fun x r h => h.same s5
    refine ⟨_, rfl, _, _, rfl, sm_parts hn hp5 hp5' hA5 hA5', true, rfl, iteF ?_⟩
    have X5 := X4.same s5
    have k05 := k04.trans (same_kp s5)
    refine .inl ⟨.ref p, rfl, p, rfl, ⟨_, SqL.of hp5'⟩, for_it (walk_list (xs := xs)) (fun u σ' H' => ∃ y4, σ' = [some (.ref st), some (.int (n : Int)), some (.ref p), some (.ref p3), y4, none, none, none, none, none] ∧ Same H5 H') ⟨none, rfl, Same.refl _⟩ ?_ ?_ ?_⟩
    · rintro u σ' H' _ ⟨_, _, sm⟩
      exact sm.seq (SqL.of hp5')
    · rintro u x σ' _ H' hu ⟨y4, rfl, sm⟩ ⟨rfl, hx⟩
      obtain ⟨ms, hms, b, rfl, hb⟩ := hA5'.at hx
      have hb' := SameT sm hb
      rw [nvals_i] at hb'
      have hm := List.mem_of_getElem? hms
      have lm := (c2 ms hm).1
      refine ⟨_, rfl, b, ivals ms, rfl, .inl hb', _, rfl, b, ivals ms, rfl, .inr hb', by unfold ivals; simp; omega, _, _, rfl, ?_, true, rfl, iteF ⟨_, rfl, sm⟩⟩
      rw [blk_eq, blk_dist n (by omega) ms hm]
      exact .int _
    · rintro σ' H6 ⟨y4, rfl, s6⟩
      have hp6 := s6 _ _ hp5'
      have hA6 := hA5'.mono fun x r h => h.same s6
      have X6 := X5.same s6
      have k06 := k05.trans (same_kp s6)
      have nps : p ≠ st := fun e => by
        obtain ⟨ns, i, b, s, l, hne, hst, hsc, rest⟩ := X2
        rw [e] at np
        obtain ⟨_, _, _, _, _, _, _, hh, _⟩ := S1.ex
        rw [hh] at np; cases np
      have l1 : 1 ≤ (parts n).length := by
        have : (List.range 7).all (fun k => decide (1 ≤ (parts k).length)) = true := by decide +kernel
        exact of_decide_eq_true (List.all_eq_true.mp this n (List.mem_range.mpr (by omega)))
      have lx : xs.length = (parts n).length := hA.1
      refine ⟨6, rfl, by omega, by omega, for_it walk_range (fun i σ' H' => ∃ y4 y5 y6 y7 y8, σ' = [some (.ref st), some (.int (n : Int)), some (.ref p), some (.ref p3), y4, y5, y6, y7, y8, none] ∧ Kp st H6 H' ∧ Sta H' st) ⟨y4, none, none, none, none, rfl, Kp.refl _ _, X6.s⟩ (fun _ _ _ _ _ => trivial) ?_ ?_⟩
      · rintro i x σ' _ H7 hi ⟨y4', y5, y6, y7, y8, rfl, k7, S7⟩ ⟨rfl, rfl⟩
        have hp7 := k7 _ _ nps hp6
        refine ⟨.ref p, rfl, .ref st, rfl, .ref p, rfl, .inr ⟨p, xs, rfl, .inl (SqL.of hp7), st, _, rfl, S7, by omega, by omega, fun H8 v8 k8 S8 a8 b8 => ?_⟩⟩
        obtain ⟨j1, rfl⟩ : ∃ j : Nat, v8 = j := ⟨v8.toNat, by omega⟩
        have hp8 := k8 _ _ nps hp7
        have hj1 : xs[j1]? = some xs[j1] := List.getElem?_eq_getElem (by omega)
        refine .inl ⟨p, xs, (j1 : Int), xs[j1], rfl, rfl, SqL.of hp8, atI_nat hj1, ?_⟩
        refine ⟨.ref p, rfl, .ref st, rfl, .ref p, rfl, .inr ⟨p, xs, rfl, .inl (SqL.of hp8), st, _, rfl, S8, by omega, by omega, fun H9 v9 k9 S9 a9 b9 => ?_⟩⟩
        obtain ⟨j2, rfl⟩ : ∃ j : Nat, v9 = j := ⟨v9.toNat, by omega⟩
        have hp9 := k9 _ _ nps hp8
        have hj2 : xs[j2]? = some xs[j2] := List.getElem?_eq_getElem (by omega)
        refine .inl ⟨p, xs, (j2 : Int), xs[j2], rfl, rfl, SqL.of hp9, atI_nat hj2, ?_⟩
        have k69 := (k7.trans k8).trans k9
        have hA9 : R1.Al (IsTup K H9) xs (parts n) := by
          obtain ⟨ns, i, b, s, l, hne, hst, _⟩ := X6
          exact hA6.mono fun x r h => IsTup.kp k69 hst h
        obtain ⟨ms, hms, b1', e1, hb1⟩ := hA9.at hj1
        obtain ⟨ks, hks, b2', e2, hb2⟩ := hA9.at hj2
        rw [e1, e2]
        have lm := (c2 ms (List.mem_of_getElem? hms)).1
        have lk := (c2 ks (List.mem_of_getElem? hks)).1
        have lmt : (mtKeys ms ks).length = n := by unfold mtKeys; simp; omega
        refine ⟨_, rfl, n, rfl, by omega, by omega, fun D nD => R1.walk_it walk_range (fun u H' => Same H9 H' ∧ ∃ acc, H' D = some (.lst acc) ∧ R1.Al (IsTupD H') acc ((mtKeys ms ks).take u)) ⟨same_upd nD, [], upd_same, R1.Al.nil⟩ (fun _ _ _ _ => trivial) ?_ ?_⟩
        · rintro u x _ Ha hu ⟨sa, acc, hD, hB⟩ ⟨rfl, rfl⟩
          have hun : u < n := by omega
          have gm : ms[u]? = some (ms[u]'(by omega)) := List.getElem?_eq_getElem _
          have gk : ks[u]? = some (ks[u]'(by omega)) := List.getElem?_eq_getElem _
          refine ⟨rfl, _, rfl, _, rfl, .inr (.inl ⟨b1', _, _, .int ((ms[u]'(by omega) : Nat) : Int), rfl, rfl, SameT sa hb1, atI_i (j := u) (by unfold nvals; rw [List.getElem?_map, gm]; rfl) (by omega), ?_⟩)⟩
          refine ⟨_, rfl, _, rfl, .inr (.inl ⟨b2', _, _, .int ((ks[u]'(by omega) : Nat) : Int), rfl, rfl, SameT sa hb2, atI_i (j := u) (by unfold nvals; rw [List.getElem?_map, gk]; rfl) (by omega), ?_⟩)⟩
          refine ⟨Nat.le_of_lt (small1000 (by simp)), fun pt npt => ?_⟩
          have tP : Same Ha (upd Ha pt (.tup [.int ((ms[u]'(by omega) : Nat) : Int), .int ((ks[u]'(by omega) : Nat) : Int)])) := same_upd npt
          have hD2 := tP _ _ hD
          have npD : pt ≠ D := fun e => by rw [e] at npt; rw [npt] at hD; cases hD
          have la : acc.length ≤ 1000 := by rw [hB.1, List.length_take]; omega
          refine ⟨acc, hD2, small1000 la, Same.mut (sa.trans tP) nD, _, upd_same, ?_⟩
          have gz : (mtKeys ms ks)[u]? = some [((ms[u]'(by omega) : Nat) : Int), ((ks[u]'(by omega) : Nat) : Int)] := by
            unfold mtKeys
            have gg : (ms.zip ks)[u]? = some (ms[u]'(by omega), ks[u]'(by omega)) := List.getElem?_zip_eq_some.mpr ⟨gm, gk⟩
            rw [List.getElem?_map, gg]; rfl
          have et : (mtKeys ms ks).take (u + 1) = (mtKeys ms ks).take u ++ [[((ms[u]'(by omega) : Nat) : Int), ((ks[u]'(by omega) : Nat) : Int)]] := by rw [List.take_add_one, gz]; rfl
          rw [et]
          refine R1.Al.snoc (hB.mono fun x r ⟨b, e, h⟩ => ⟨b, e, ?_⟩) ⟨pt, rfl, ?_⟩
          · have h2 := tP _ _ h
            rw [upd_ne (fun z => by rw [z, hD] at h; cases h)]
            exact h2
          · rw [upd_ne npD, upd_same]; rfl
        · rintro Ha ⟨sa, acc, hD, hB⟩
          have e3 : (n : Int).toNat = n := by omega
          rw [e3, ← lmt, List.take_length] at hB
          refine ⟨D, acc, mtKeys ms ks, rfl, SqL.of hD, hB, by omega, fun r Hb nr sb hb => ?_⟩
          have sab := sa.trans sb
          refine ⟨_, rfl, _, rfl, b1', b2', ms, ks, rfl, SameT sab hb1, SameT sab hb2, by omega, by omega, fun r2 Hc nr2 sc2 hc => ?_⟩
          refine ⟨_, rfl, _, _, rfl, sm_nv (n := 4) hc (sc2 _ _ hb) (by unfold marksOf; simp; omega), true, rfl, iteF ?_⟩
          exact ⟨_, _, _, _, _, rfl, k69.trans (same_kp (sab.trans sc2)), S9.same (sab.trans sc2)⟩
      · rintro σ' H7 ⟨y4', y5, y6, y7, y8, rfl, k7, S7⟩
        exact q H7 (k06.trans k7) S7
end
end K0


namespace K0
open PySem PySem.Spec PyProof.Rows L2
section
variable {P : Program} {w : World} {K : PySem.W.Frag} {mg : Str → Option Value} {base : Heap} {a : Ad}
theorem sn {H : Hp} {p p2 : Addr} {o : HO} (n : H p = none) (_ : (upd H p o) p2 = none) : Same H (upd H p o) := same_upd n
theorem an {H : Hp} {p p2 : Addr} {o : HO} (_ : H p = none) (_ : (upd H p o) p2 = none) : (upd H p o) p = some o := upd_same
def BadC (K : PySem.W.Frag) (st : Addr) (H : Hp) (x : V) (n : Nat) : Prop := ∀ H', Kp st H H' → CellIs K H' x n false ∧ Sm K 5 H' x x
theorem BadC.kp {st : Addr} {H H' : Hp} {x : V} {n : Nat} (h : BadC K st H x n) (k : Kp st H H') : BadC K st H' x n := fun H2 k2 => h H2 (k.trans k2)
theorem sm_prim {H : Hp} {n : Nat} {x : V} (h : Prim x) : Sm K (n + 1) H x x := by
  cases x with
  | int i => exact .int i
  | bl b => exact .bl b
  | str s => exact .str s
  | non => exact .non
  | _ => exact h.elim
theorem sm_selfT {H : Hp} {n : Nat} {p : Addr} {xs : List V} (h : SqT K H p xs) (hl : xs.length ≤ 1000) (hs : ∀ y ∈ xs, Sm K n H y y) : Sm K (n + 1) H (.ref p) (.ref p) :=
  .tup h h rfl (by omega) fun i x y hx hy => by
    rw [hx] at hy
    cases hy
    exact hs _ (List.mem_of_getElem? hx)
theorem sm_selfL {H : Hp} {n : Nat} {p : Addr} {xs : List V} (h : SqL K H p xs) (hl : xs.length ≤ 1000) (hs : ∀ y ∈ xs, Sm K n H y y) : Sm K (n + 1) H (.ref p) (.ref p) :=
  .lst h h rfl (by omega) fun i x y hx hy => by
    rw [hx] at hy
    cases hy
    exact hs _ (List.mem_of_getElem? hx)
theorem bc_not {st : Addr} {H : Hp} {x : V} {n : Nat} {t : String} (h : ∀ H' : Hp, TyX K H' x (.type t)) (hk : kitB t "tuple" = some false) (hp : Prim x) : BadC K st H x n := fun H' _ => ⟨.inl ⟨⟨t, h H', hk⟩, rfl⟩, sm_prim hp⟩
theorem bc_len {st q : Addr} {H : Hp} {xs : List V} {n : Nat} (hq : H q = some (.tup xs)) (hs : q ≠ st) (h2 : xs.length ≠ 2) (hl : xs.length ≤ 1000) (hy : ∀ H', Kp st H H' → ∀ y ∈ xs, Sm K 4 H' y y) : BadC K st H (.ref q) n := fun H' k =>
  ⟨.inr (.inl ⟨q, xs, rfl, SqT.of (k _ _ hs hq), h2, rfl⟩), sm_selfT (SqT.of (k _ _ hs hq)) hl (hy H' k)⟩
theorem bc_two {st q : Addr} {H : Hp} {s m : V} {n : Nat} (hq : H q = some (.tup [s, m])) (hs : q ≠ st) (hp : Prim s) (h : ∀ H', Kp st H H' → ∃ r, MK K H' m r ∧ isCell s r n = false ∧ Sm K 4 H' m m) : BadC K st H (.ref q) n := fun H' k => by
  obtain ⟨r, h1, h2, h3⟩ := h H' k
  refine ⟨.inr (.inr ⟨q, s, m, r, rfl, SqT.of (k _ _ hs hq), hp, h1, h2.symm⟩), sm_selfT (SqT.of (k _ _ hs hq)) (by simp) fun y hy => ?_⟩
  rcases List.mem_cons.mp hy with rfl | hy
  · exact sm_prim hp
  · rw [List.mem_singleton.mp hy]; exact h3
theorem cell_noI {s : V} {r : Option (List V)} {n : Nat} (h : isI s = false) : isCell s r n = false := by unfold isCell; rw [h]; rfl
theorem cell_bad {s : V} {ys : List V} {n : Nat} (h : ys.all isI = false) : isCell s (some ys) n = false := by
  unfold isCell cellTail isPart
  simp [h]
theorem cell_none {s : V} {n : Nat} : isCell s none n = false := by
  unfold isCell cellTail
  simp
theorem prim_nv {ms : List Nat} {y : V} (h : y ∈ nvals ms) : Prim y := by
  unfold nvals at h
  obtain ⟨k, _, rfl⟩ := List.mem_map.mp h
  trivial
theorem cutV_mem {xs : List V} {lo hi : Option Int} {y : V} (h : y ∈ cutV xs lo hi) : y ∈ xs := by
  unfold cutV at h
  exact List.mem_of_mem_drop (List.mem_of_mem_take h)
def spNoCell (K : PySem.W.Frag) : Sp := fun vs H Q _ => ∃ (st c0 m : Addr) (s n : Nat) (ms : List Nat), vs = [.ref st, .ref c0] ∧ Sta H st ∧ SqT K H c0 [.int (s : Int), .ref m] ∧ SqT K H m (nvals ms) ∧ s ≤ 3 ∧ ms.length ≤ 10 ∧ ∀ H' x, Kp st H H' → Sta H' st → BadC K st H' x n → Q x H'
theorem ok_noCell (T : Top K mg a) (G_l_draw : FnOk P w K mg base CX0 1 a.f_l_draw a.d_l_draw ["_law_state_here", "_law_many"] spDraw) : FnOk P w K mg base CX0 2 a.f_l_no_cell a.d_l_no_cell ["_law_state_here", "_law_cell"] (spNoCell K) := by
  refine T.F_l_no_cell.ok sc_l_no_cell (fun vs H Q E h => ?_) (fun cdv A outer s H vs Q E hr h => ?_)
  · obtain ⟨_, _, _, _, _, _, rfl, _⟩ := h
    rfl
  · obtain ⟨st, c0, m, s, n, ms, rfl, S, hC, hM, hs3, hl, q⟩ := h
    refine ⟨_, (pss_cons (ps_asg (pv 1) (pg_tup rfl (pgs_cons (pg_name (i := 2) sc_l_no_cell.nd rfl (.inl rfl)) (pgs_cons (pg_name (i := 3) sc_l_no_cell.nd rfl (.inl rfl)) pgs_nil))))
    (pss_cons (ps_set (i := 4) sc_l_no_cell.nd rfl (.inl rfl) (pe_tup (pa_cons pe_non (pa_cons pe_int (pa_cons pe_str (pa_cons (pe_tup pa_nil) (pa_cons (pe_tup (pa_cons (pv 2) pa_nil)) (pa_cons (pe_tup (pa_cons (pv 2) (pa_cons (pv 3) (pa_cons pe_int pa_nil)))) (pa_cons (pe_tup (pa_cons (pe_callTy call_str_int (by rfl) T.z_str (by decide +kernel) (pa_cons (pv 2) pa_nil)) (pa_cons (pv 3) pa_nil))) (pa_cons (pe_tup (pa_cons pe_non (pa_cons (pv 3) pa_nil))) pa_nil))))))))))
    (pss_cons (ps_set (i := 5) sc_l_no_cell.nd rfl (.inl rfl) (pe_tup (pa_cons (pe_tup (pa_cons (pv 2) (pa_cons (pe_callTy call_list_of (by rfl) T.z_list (by decide +kernel) (pa_cons (pv 3) pa_nil)) pa_nil))) (pa_cons (pe_tup (pa_cons (pv 2) (pa_cons (pe_op op_catA (pe_slice sl_tupA (pv 3) po_none (po_some (pe_un un_neg pe_int))) (pe_tup (pa_cons pe_str pa_nil))) pa_nil))) (pa_cons (pe_tup (pa_cons (pv 2) (pa_cons (pe_op op_catA (pe_slice sl_tupA (pv 3) po_none (po_some (pe_un un_neg pe_int))) (pe_tup (pa_cons pe_non pa_nil))) pa_nil))) (pa_cons (pe_tup (pa_cons (pv 1) pa_nil)) pa_nil))))))
    (C8.pss_cut (ps_if (PW.pt (pw_and (pt_cmpR (OpR.or op_eq (op_eqD hr.units)) (pv 2) pe_int (nomark _)) (pw_and1 (pt_cmpR (OpR.or op_eq (op_eqD hr.units)) (pe_call G_l_draw (hr.mono (by decide)) (by rfl) T.m_l_draw T.F_l_draw.kp T.b_l_draw .nil pass0 (pa_cons (pv 0) (pa_cons pe_int pa_nil))) pe_int (nomark _)))))
      (pss_one (ps_ret (pe_tup (pa_cons pe_bl (pa_cons (pv 3) pa_nil)))))
      pss_nil)
    (C8.pss_cut (ps_if (PW.pt (pw_and (pt_cmpR op_gt (pe_callB (CallR.or call_len_str call_len_seq) (by rfl) T.z_len (by decide +kernel) (pa_cons (pv 3) pa_nil)) pe_int (nomark _)) (pw_and1 (pt_cmpR (OpR.or op_eq (op_eqD hr.units)) (pe_call G_l_draw (hr.mono (by decide)) (by rfl) T.m_l_draw T.F_l_draw.kp T.b_l_draw .nil pass0 (pa_cons (pv 0) (pa_cons pe_int pa_nil))) pe_int (nomark _)))))
      (pss_one (ps_ret (pe_tup (pa_cons (pv 2) (pa_cons (pe_op op_catA (pe_tup (pa_cons pe_bl pa_nil)) (pe_slice sl_tupA (pv 3) (po_some pe_int) po_none)) pa_nil)))))
      pss_nil)
    (pss_one (ps_ret (pe_ix ix_seq (pe_op op_catA (pv 4) (pv 5)) (pe_call G_l_draw (hr.mono (by decide)) (by rfl) T.m_l_draw T.F_l_draw.kp T.b_l_draw .nil pass0 (pa_cons (pv 0) (pa_cons pe_int pa_nil))) (fun _ _ => rfl))))))))), ?_⟩
    obtain ⟨sc, X⟩ := S.x
    have lnv : (nvals ms).length = ms.length := by unfold nvals; simp
    refine ⟨.ref c0, rfl, c0, _, rfl, hC, rfl, _, _, rfl, _, _, rfl, rfl, ?_⟩
    refine ⟨Nat.zero_le _, fun q3 m3 => ⟨_, rfl, Nat.le_of_lt (small1000 (by simp)), fun q4 m4 => ⟨_, rfl, _, rfl, Nat.le_of_lt (small1000 (by simp)), fun q5 m5 => ⟨_, rfl, _, rfl, log_small rfl (by omega), _, rfl, Nat.le_of_lt (small1000 (by simp)), fun q6 m6 => ⟨_, rfl, Nat.le_of_lt (small1000 (by simp)), fun q7 m7 => ⟨Nat.le_of_lt (small1000 (by simp)), fun pm mm => ?_⟩⟩⟩⟩⟩⟩
    have s37 := (((sn m3 m4).trans (sn m4 m5)).trans (sn m5 m6)).trans (sn m6 m7)
    have s3m := s37.trans (sn m7 mm)
    refine ⟨_, rfl, _, rfl, m, _, rfl, .inr (SameT (s3m.trans (same_upd mm)) hM), fun l8 m8 => ⟨Nat.le_of_lt (small1000 (by simp [lnv])), fun q8 m8' => ?_⟩⟩
    have sU8 := ((s3m.trans (sn mm m8)).trans (sn m8 m8')).trans (same_upd (o := .tup [.int (s : Int), .ref l8]) m8')
    refine ⟨_, rfl, _, rfl, ?_⟩
    dsimp only [tNoPart]
    refine ⟨1, rfl, -1, rfl, cutA (SameT sU8 hM) fun H9 r9 s9 h9 => ⟨Nat.le_of_lt (small1000 (by simp)), fun z9 mz9 => ?_⟩⟩
    have t9 := same_upd (o := .tup [.str (Str.ofString "0")]) mz9
    have lc : ∀ lo hi, (cutV (nvals ms) lo hi).length ≤ 10 := fun lo hi => Nat.le_trans (cutV_length _ _ _) (by omega)
    refine catA (SameT t9 h9) (SqT.of upd_same) (by have := lc none (some (-1)); simp; omega) fun H10 r10 s10 h10 => ⟨Nat.le_of_lt (small1000 (by simp)), fun q9 m9 => ?_⟩
    have sH9 := sU8.trans s9
    have sH10 := (sH9.trans t9).trans s10
    have tq9 := same_upd (o := .tup [.int (s : Int), .ref r10]) m9
    refine ⟨_, rfl, _, rfl, ?_⟩
    dsimp only [tNoPart]
    refine ⟨1, rfl, -1, rfl, cutA (SameT (sH10.trans tq9) hM) fun H11 r11 s11 h11 => ⟨Nat.le_of_lt (small1000 (by simp)), fun z10 mz10 => ?_⟩⟩
    have t11 := same_upd (o := .tup [.non]) mz10
    refine catA (SameT t11 h11) (SqT.of upd_same) (by have := lc none (some (-1)); simp; omega) fun H12 r12 s12 h12 => ⟨Nat.le_of_lt (small1000 (by simp)), fun q10 m10 => ⟨_, rfl, Nat.le_of_lt (small1000 (by simp)), fun q11 m11 => ⟨Nat.le_of_lt (small1000 (by simp)), fun po mo => ?_⟩⟩⟩
    have sH11 := (sH10.trans tq9).trans s11
    have sH12 := (sH11.trans t11).trans s12
    have e10 := same_upd (o := .tup [.int (s : Int), .ref r12]) m10
    have e11 := same_upd (o := .tup [.ref c0]) m11
    have eo := same_upd (o := .tup [.ref q8, .ref q9, .ref q10, .ref q11]) mo
    have s12f := (e10.trans e11).trans eo
    have s10f := ((tq9.trans s11).trans t11).trans (s12.trans s12f)
    have s9f := (t9.trans s10).trans s10f
    have n3 : q3 ≠ st := (X.ne m3).1
    have n4 : q4 ≠ st := ((X.same (sn m3 m4)).ne m4).1
    have n5 : q5 ≠ st := ((X.same ((sn m3 m4).trans (sn m4 m5))).ne m5).1
    have n6 : q6 ≠ st := ((X.same (((sn m3 m4).trans (sn m4 m5)).trans (sn m5 m6))).ne m6).1
    have n7 : q7 ≠ st := ((X.same s37).ne m7).1
    have nm : pm ≠ st := ((X.same s3m).ne mm).1
    have nl8 : l8 ≠ st := ((X.same (s3m.trans (sn mm m8))).ne m8).1
    have n8 : q8 ≠ st := ((X.same ((s3m.trans (sn mm m8)).trans (sn m8 m8'))).ne m8').1
    have n9 : q9 ≠ st := ((X.same sH10).ne m9).1
    have n10 : q10 ≠ st := ((X.same sH12).ne m10).1
    have n11 : q11 ≠ st := ((X.same (sH12.trans e10)).ne m11).1
    have no : po ≠ st := ((X.same ((sH12.trans e10).trans e11)).ne mo).1
    have f3 := s9f _ _ (s9 _ _ (same_upd m8' _ _ (sn m8 m8' _ _ (sn mm m8 _ _ (sn m7 mm _ _ (sn m6 m7 _ _ (sn m5 m6 _ _ (sn m4 m5 _ _ (an m3 m4)))))))))
    have f4 := s9f _ _ (s9 _ _ (same_upd m8' _ _ (sn m8 m8' _ _ (sn mm m8 _ _ (sn m7 mm _ _ (sn m6 m7 _ _ (sn m5 m6 _ _ (an m4 m5))))))))
    have f5 := s9f _ _ (s9 _ _ (same_upd m8' _ _ (sn m8 m8' _ _ (sn mm m8 _ _ (sn m7 mm _ _ (sn m6 m7 _ _ (an m5 m6)))))))
    have f6 := s9f _ _ (s9 _ _ (same_upd m8' _ _ (sn m8 m8' _ _ (sn mm m8 _ _ (sn m7 mm _ _ (an m6 m7))))))
    have f7 := s9f _ _ (s9 _ _ (same_upd m8' _ _ (sn m8 m8' _ _ (sn mm m8 _ _ (an m7 mm)))))
    have fm := s9f _ _ (s9 _ _ (same_upd m8' _ _ (sn m8 m8' _ _ (an mm m8))))
    have fl := s9f _ _ (s9 _ _ (same_upd m8' _ _ (an m8 m8')))
    have f8 := s9f _ _ (s9 _ _ upd_same)
    have f9 := ((s11.trans t11).trans (s12.trans s12f)) _ _ (show (upd H10 q9 (.tup [.int (s : Int), .ref r10])) q9 = _ from upd_same)
    have g10 := SameT s10f h10
    have g12 := SameT s12f h12
    have f10 := eo _ _ (e11 _ _ (show (upd H12 q10 (.tup [.int (s : Int), .ref r12])) q10 = _ from upd_same))
    have f11 := eo _ _ (show (upd (upd H12 q10 (.tup [.int (s : Int), .ref r12])) q11 (.tup [.ref c0])) q11 = _ from upd_same)
    have fo : (upd (upd (upd H12 q10 (.tup [.int (s : Int), .ref r12])) q11 (.tup [.ref c0])) po (.tup [.ref q8, .ref q9, .ref q10, .ref q11])) po = _ := upd_same
    have sf := sH12.trans s12f
    have S0 := S.same sf
    have kf := same_kp (st := st) sf
    generalize upd (upd (upd H12 q10 (.tup [.int (s : Int), .ref r12])) q11 (.tup [.ref c0])) po (.tup [.ref q8, .ref q9, .ref q10, .ref q11]) = Hf at f3 f4 f5 f6 f7 fm fl f8 f9 g10 g12 f10 f11 fo S0 kf ⊢
    have hMk : ∀ {H' : Hp}, Kp st H H' → SqT K H' m (nvals ms) := fun k => SqT.kpS S k hM
    have smM : ∀ {H' : Hp} (j : Nat), Kp st H H' → Sm K (j + 2) H' (.ref m) (.ref m) := fun j k => sm_selfT (hMk k) (by omega) fun y hy => sm_prim (prim_nv hy)
    have mkM : ∀ {H' : Hp}, Kp st H H' → MK K H' (.ref m) (some (nvals ms)) := fun k => .inr ⟨m, _, rfl, rfl, hMk k, fun y hy => prim_nv hy, by omega⟩
    have mkB : ∀ {H' : Hp} {r : Addr} {z : V} {lo hi : Option Int}, Prim z → isI z = false → SqT K H' r (cutV (nvals ms) lo hi ++ [z]) → MK K H' (.ref r) (some (cutV (nvals ms) lo hi ++ [z])) ∧ isCell (.int (s : Int)) (some (cutV (nvals ms) lo hi ++ [z])) n = false ∧ Sm K 4 H' (.ref r) (.ref r) := fun {H' r z lo hi} hz hi' hr' => by
      have hp : ∀ y ∈ cutV (nvals ms) lo hi ++ [z], Prim y := fun y hy => by
        rcases List.mem_append.mp hy with h | h
        · exact prim_nv (cutV_mem h)
        · rw [List.mem_singleton.mp h]; exact hz
      have hl' : (cutV (nvals ms) lo hi ++ [z]).length ≤ 1000 := by have := lc lo hi; simp; omega
      exact ⟨.inr ⟨r, _, rfl, rfl, hr', hp, hl'⟩, cell_bad (by rw [List.all_append]; simp [hi']), sm_selfT hr' hl' fun y hy => sm_prim (hp y hy)⟩
    have sB : ∀ v ∈ ([.non, .int 3, .str (Str.ofString "cell"), .ref q3, .ref q4, .ref q5, .ref q6, .ref q7, .ref q8, .ref q9, .ref q10, .ref q11] : List V), BadC K st Hf v n := by
      intro v hv
      simp only [List.mem_cons, List.not_mem_nil, or_false] at hv
      rcases hv with rfl | rfl | rfl | rfl | rfl | rfl | rfl | rfl | rfl | rfl | rfl | rfl
      · exact bc_not (fun _ => .base .non) (by decide +kernel) trivial
      · exact bc_not (fun _ => .base (.int 3)) (by decide +kernel) trivial
      · exact bc_not (fun _ => .base (.str _)) (by decide +kernel) trivial
      · exact bc_len f3 n3 (by simp) (by simp) fun H' k y hy => by simp at hy
      · refine bc_len f4 n4 (by simp) (by simp) fun H' k y hy => ?_
        rw [List.mem_singleton.mp hy]; exact .int _
      · refine bc_len f5 n5 (by simp) (by simp) fun H' k y hy => ?_
        simp only [List.mem_cons, List.not_mem_nil, or_false] at hy
        rcases hy with rfl | rfl | rfl
        · exact .int _
        · exact smM 2 (kf.trans k)
        · exact .int _
      · exact bc_two f6 n6 trivial fun H' k => ⟨_, mkM (kf.trans k), cell_noI rfl, smM 2 (kf.trans k)⟩
      · exact bc_two f7 n7 trivial fun H' k => ⟨_, mkM (kf.trans k), cell_noI rfl, smM 2 (kf.trans k)⟩
      · refine bc_two f8 n8 trivial fun H' k => ⟨none, .inl ⟨rfl, "list", tyx_l (SqL.of (k _ _ nl8 fl)), by decide +kernel⟩, cell_none, sm_selfL (SqL.of (k _ _ nl8 fl)) (by omega) fun y hy => sm_prim (prim_nv hy)⟩
      · exact bc_two f9 n9 trivial fun H' k => ⟨_, mkB (z := .str (Str.ofString "0")) trivial rfl (SqT.kpS S0 k g10)⟩
      · exact bc_two f10 n10 trivial fun H' k => ⟨_, mkB (z := .non) trivial rfl (SqT.kpS S0 k g12)⟩
      · refine bc_len f11 n11 (by simp) (by simp) fun H' k y hy => ?_
        rw [List.mem_singleton.mp hy]
        refine sm_selfT (SqT.kpS S (kf.trans k) hC) (by simp) fun y hy => ?_
        rcases List.mem_cons.mp hy with rfl | hy
        · exact .int _
        · rw [List.mem_singleton.mp hy]; exact smM 1 (kf.trans k)
    refine ⟨fun σ' H' => σ' = [some (.ref st), some (.ref c0), some (.int (s : Int)), some (.ref m), some (.ref pm), some (.ref po)] ∧ Kp st Hf H' ∧ Sta H' st, ?_, ?_⟩
    · refine ⟨_, rfl, eqi (ite2 (fun e1 => ?_) (fun e1 => ?_))⟩
      · refine ⟨.ref st, rfl, st, 2, rfl, S0, by decide, by decide, fun Hd v kd Sd ad bd => eqi (ite2 (fun e2 => ?_) (fun e2 => ?_))⟩
        · refine ⟨_, rfl, Nat.le_of_lt (small1000 (by simp)), fun p np => ?_⟩
          have t := same_upd (o := .tup [.bl true, .ref m]) np
          have nps : p ≠ st := by
            obtain ⟨sc', X'⟩ := Sd.x
            exact (X'.ne np).1
          have kk := (kf.trans kd).trans (same_kp t)
          exact q _ _ kk (Sd.same t) (bc_two upd_same nps trivial fun H' k => ⟨_, mkM (kk.trans k), cell_noI rfl, smM 2 (kk.trans k)⟩)
        · exact ⟨rfl, kd, Sd⟩
      · exact iteF ⟨rfl, Kp.refl _ _, S0⟩
    · rintro σ' H' ⟨rfl, k1, S1⟩
      refine ⟨fun σ' H' => σ' = [some (.ref st), some (.ref c0), some (.int (s : Int)), some (.ref m), some (.ref pm), some (.ref po)] ∧ Kp st Hf H' ∧ Sta H' st, ?_, ?_⟩
      · refine ⟨_, rfl, .inr ⟨m, _, rfl, .inr (hMk (kf.trans k1)), _, 0, rfl, rfl, _, rfl, ite2 (fun e1 => ?_) (fun e1 => ?_)⟩⟩
        · refine ⟨.ref st, rfl, st, 4, rfl, S1, by decide, by decide, fun Hd v kd Sd ad bd => eqi (ite2 (fun e2 => ?_) (fun e2 => ?_))⟩
          · refine ⟨_, rfl, Nat.le_of_lt (small1000 (by simp)), fun pz nz => ⟨_, rfl, 1, rfl, ?_⟩⟩
            dsimp only [tNoPart]
            have tz := same_upd (o := .tup [.bl false]) nz
            have kd1 := (kf.trans k1).trans kd
            refine cutA (SameT tz (hMk kd1)) fun Hx rx sx hx => ?_
            refine catA (SqT.of (sx _ _ upd_same)) hx (by have := lc (some 1) none; simp; omega) fun Hy ry sy hy => ⟨Nat.le_of_lt (small1000 (by simp)), fun p np => ?_⟩
            have t := same_upd (o := .tup [.int (s : Int), .ref ry]) np
            have sd := ((tz.trans sx).trans sy).trans t
            have Sp := Sd.same sd
            have nps : p ≠ st := by
              obtain ⟨sc', X'⟩ := (Sd.same ((tz.trans sx).trans sy)).x
              exact (X'.ne np).1
            refine q _ _ (kd1.trans (same_kp sd)) Sp (bc_two upd_same nps trivial fun H2 k2 => ?_)
            have hr2 := SqT.kpS Sp k2 (SameT t hy)
            have hp : ∀ y ∈ [.bl false] ++ cutV (nvals ms) (some 1) none, Prim y := fun y hy => by
              rcases List.mem_append.mp hy with h | h
              · rw [List.mem_singleton.mp h]; trivial
              · exact prim_nv (cutV_mem h)
            have hl' : ([V.bl false] ++ cutV (nvals ms) (some 1) none).length ≤ 1000 := by have := lc (some 1) none; simp; omega
            exact ⟨_, .inr ⟨ry, _, rfl, rfl, hr2, hp, hl'⟩, cell_bad (by simp [isI]), sm_selfT hr2 hl' fun y hy => sm_prim (hp y hy)⟩
          · exact ⟨rfl, k1.trans kd, Sd⟩
        · exact iteF ⟨rfl, k1, S1⟩
      · rintro σ' H2 ⟨rfl, k2, S2⟩
        have pm2 := k2 _ _ nm fm
        have po2 := k2 _ _ no fo
        refine ⟨_, rfl, _, rfl, catA (SqT.of pm2) (SqT.of po2) (by simp) fun H3 r3 s3 h3 => ?_⟩
        have S3 := S2.same s3
        refine ⟨.ref st, rfl, st, 12, rfl, S3, by decide, by decide, fun H4 v k4 S4 a4 b4 => ?_⟩
        obtain ⟨j, rfl⟩ : ∃ j : Nat, v = j := ⟨v.toNat, by omega⟩
        have h4 := SqT.kpS S3 k4 h3
        have kk := (k2.trans (same_kp s3)).trans k4
        have hj : j < ([.non, .int 3, .str (Str.ofString "cell"), .ref q3, .ref q4, .ref q5, .ref q6, .ref q7, .ref q8, .ref q9, .ref q10, .ref q11] : List V).length := by simp; omega
        refine .inr (.inl ⟨r3, _, (j : Int), ([.non, .int 3, .str (Str.ofString "cell"), .ref q3, .ref q4, .ref q5, .ref q6, .ref q7, .ref q8, .ref q9, .ref q10, .ref q11] : List V)[j], rfl, rfl, h4, atI_nat (List.getElem?_eq_getElem hj), q _ _ (kf.trans kk) S4 ((sB _ (List.getElem_mem hj)).kp kk)⟩)
end
end K0


namespace K0
open PySem PySem.Spec PyProof.Rows L2
section
variable {P : Program} {w : World} {K : PySem.W.Frag} {mg : Str → Option Value} {base : Heap} {a : Ad}
def IsCI (K : PySem.W.Frag) (H : Hp) (x : V) (c : Int × List Int) : Prop := ∃ p b, x = V.ref p ∧ SqT K H p [.int c.1, .ref b] ∧ SqT K H b (c.2.map V.int)
def encC (c : Int × List Int) : PyData := .tuple [.int c.1, .tuple (c.2.map PyData.int)]
theorem kdC : Kd K (IsCI K) encC where
  dp := fun H x k ⟨p, b, e, h1, h2⟩ => by subst e; exact .tup h1 (.cons (.int _) (.cons (.tup h2 (dp_ints _)) .nil))
  same := fun _ _ _ _ s ⟨p, b, e, h1, h2⟩ => ⟨p, b, e, SameT s h1, SameT s h2⟩
  kp := fun _ _ D l _ _ k h ⟨p, b, e, h1, h2⟩ => ⟨p, b, e, SqT.kp k h h1, SqT.kp k h h2⟩
  eq := fun j k => by
    unfold encC
    simp only [PyData.eqv, PyData.eqvAll, eqv_ints, Bool.and_true]
    rw [Bool.eq_iff_iff, Bool.and_eq_true, beq_iff_eq, decide_eq_true_eq, decide_eq_true_eq, Prod.ext_iff]
  lay := fun k => by
    refine ⟨?_, ?_⟩
    · unfold encC
      simp [PyData.canLay0, PyData.canLayAll0, PySem.W.ke_canLayAll0]
    · unfold encC
      have := depInts k.2
      simp only [PyData.depth, PyData.depthAll]
      omega
theorem IsCell.ci {H : Hp} {x : V} {c : Nat × List Nat} (h : IsCell K H x c) : IsCI K H x ((c.1 : Int), ivals c.2) := by
  obtain ⟨p, b, e, h1, h2⟩ := h
  rw [nvals_i] at h2
  exact ⟨p, b, e, h1, h2⟩
def cellsI (n : Nat) : List (Int × List Int) := (cellsN n).map fun c => ((c.1 : Int), ivals c.2)
theorem in_cells (n : Nat) (s : Int) (t : List Int) : (s, t) ∈ cellsI n ↔ inCells n s t = true := by
  unfold inCells cellsI
  rw [List.any_eq_true, List.mem_map]
  constructor
  · rintro ⟨c, hc, e⟩
    refine ⟨c, hc, ?_⟩
    rw [Bool.and_eq_true, decide_eq_true_eq, decide_eq_true_eq]
    exact ⟨congrArg Prod.fst e, congrArg Prod.snd e⟩
  · rintro ⟨c, hc, e⟩
    rw [Bool.and_eq_true, decide_eq_true_eq, decide_eq_true_eq] at e
    exact ⟨c, hc, by rw [e.1, e.2]⟩
theorem dec_x {p : Prop} (i : Decidable p) : @decide p i = true ↔ p := decide_eq_true_iff
theorem any_in (K : PySem.W.Frag) (n : Nat) (s : Int) (t : List Int) : (((cellsI n).map encC).any fun z => PyData.eqv z (encC (s, t))) = inCells n s t := by
  have h := any_enc (kdC (K := K)) (cellsI n) (s, t)
  rw [h, Bool.eq_iff_iff]
  exact (dec_x _).trans (in_cells n s t)
theorem cells_facts : ∀ n, n ≤ 3 → (cellsN n).length ≤ 30 ∧ 1 ≤ (cellsN n).length ∧ ∀ c ∈ cellsN n, c.1 ≤ 3 ∧ c.2.length = n ∧ cellB n c.1 (ivals c.2) = true := by
  have : (List.range 4).all (fun n => decide ((cellsN n).length ≤ 30) && decide (1 ≤ (cellsN n).length) && (cellsN n).all fun c => decide (c.1 ≤ 3) && decide (c.2.length = n) && cellB n c.1 (ivals c.2)) = true := by decide +kernel
  intro n hn
  have h := List.all_eq_true.mp this n (List.mem_range.mpr (by omega))
  simp only [Bool.and_eq_true, decide_eq_true_eq] at h
  refine ⟨h.1.1, h.1.2, fun c hc => ?_⟩
  have h2 := List.all_eq_true.mp h.2 c hc
  simp only [Bool.and_eq_true, decide_eq_true_eq] at h2
  exact ⟨h2.1.1, h2.1.2, h2.2⟩
theorem sm_cells {H : Hp} {p q : Addr} {xs ys : List V} {n : Nat} (hn : n ≤ 3) (hp : H p = some (.lst xs)) (hq : H q = some (.lst ys)) (hA : R1.Al (IsCell K H) xs (cellsN n)) (hB : R1.Al (IsCell K H) ys (cellsN n)) : Sm K 6 H (.ref p) (.ref q) := by
  obtain ⟨b1, _, b2⟩ := cells_facts n hn
  exact sm_lst (n := 5) (SqL.of hp) (SqL.of hq) hA hB (by omega) fun x y r hr h1 h2 => sm_isCell (n := 2) h1 h2 (by have := (b2 r hr).2.1; omega)
theorem al_ci {H : Hp} {xs : List V} {n : Nat} (h : R1.Al (IsCell K H) xs (cellsN n)) : R1.Al (IsCI K H) xs (cellsI n) := by
  refine ⟨by unfold cellsI; rw [List.length_map]; exact h.1, fun i x k hx hk => ?_⟩
  unfold cellsI at hk
  rw [List.getElem?_map] at hk
  cases e : (cellsN n)[i]? with
  | none => rw [e] at hk; cases hk
  | some c =>
    rw [e] at hk
    obtain rfl : ((c.1 : Int), ivals c.2) = k := Option.some.inj hk
    exact (h.2 i x c hx e).ci
theorem tups_facts : ∀ m, m ≤ 3 → ∀ t ∈ tups m, t.length = m := fun m hm t ht => (tups_small m hm).2 t ht
theorem ok_cellsRight (T : Top K mg a) (G_l_draw : FnOk P w K mg base CX0 1 a.f_l_draw a.d_l_draw ["_law_state_here", "_law_many"] spDraw) (G_l_alike : FnOk P w K mg base CX0 6 a.f_l_alike a.d_l_alike ["_law_actual", "_law_due"] (spAl (Sm K 6)))
    (G_l_cells : FnOk P w K mg base CX0 2 a.f_l_cells a.d_l_cells ["_law_count"] (spCellsL K)) (G_cells_over : FnOk P w K mg base CX0 3 a.f_cells_over a.d_cells_over ["count"] (spCells K)) (G_l_tuples : FnOk P w K mg base CX0 1 a.f_l_tuples a.d_l_tuples ["_law_choices", "_law_count"] (spTuples K))
    (G_l_cell_error : FnOk P w K mg base CX0 5 a.f_l_cell_error a.d_l_cell_error ["_law_cell", "_law_count"] (spCellErr K)) (G_l_no_cell : FnOk P w K mg base CX0 2 a.f_l_no_cell a.d_l_no_cell ["_law_state_here", "_law_cell"] (spNoCell K)) : FnOk P w K mg base CX0 7 a.f_l_cells_right a.d_l_cells_right ["_law_state_here"] spRight := by
  refine T.F_l_cells_right.ok sc_l_cells_right (fun vs H Q E h => ?_) (fun cdv A outer s H vs Q E hr h => ?_)
  · obtain ⟨_, rfl, _⟩ := h
    rfl
  · obtain ⟨st, rfl, S, q⟩ := h
    refine ⟨_, (pss_cons (ps_for PassesOwn.never rfl (pi_range1 (by rfl) T.z_range (pa_cons pe_int pa_nil)) (pg_name (i := 1) sc_l_cells_right.nd rfl (.inl rfl))
      (pss_cons (ps_set (i := 2) sc_l_cells_right.nd rfl (.inl rfl) (pe_call G_l_cells (hr.mono (by decide)) (by rfl) T.m_l_cells T.F_l_cells.kp T.b_l_cells .nil pass0 (pa_cons (pv 1) pa_nil)))
      (pss_cons (ps_set (i := 3) sc_l_cells_right.nd rfl (.inl rfl) (pe_call G_cells_over (hr.mono (by decide)) (by rfl) T.m_cells_over T.F_cells_over.kp T.b_cells_over .nil pass0 (pa_cons (pv 1) pa_nil)))
      (pss_cons (ps_if (pt_not (pt_val (pe_call G_l_alike (hr.mono (by decide)) (by rfl) T.m_l_alike T.F_l_alike.kp T.b_l_alike .nil pass0 (pa_cons (pv 3) (pa_cons (pv 2) pa_nil)))))
        (pss_one (ps_ret pe_bl))
        pss_nil)
      (pss_cons (ps_expr (pe_bm PySem.F.plainAttrs_list PySem.F.slot_list_append PySem.F.type_list_append mt_append (pv 3) (pa_cons pe_non pa_nil)))
      (pss_one (ps_if (pt_not (pt_val (pe_call G_l_alike (hr.mono (by decide)) (by rfl) T.m_l_alike T.F_l_alike.kp T.b_l_alike .nil pass0 (pa_cons (pe_call G_cells_over (hr.mono (by decide)) (by rfl) T.m_cells_over T.F_cells_over.kp T.b_cells_over .nil pass0 (pa_cons (pv 1) pa_nil)) (pa_cons (pv 2) pa_nil)))))
        (pss_one (ps_ret pe_bl))
        pss_nil)))))))
    (pss_cons (ps_set (i := 1) sc_l_cells_right.nd rfl (.inl rfl) (pe_call G_l_draw (hr.mono (by decide)) (by rfl) T.m_l_draw T.F_l_draw.kp T.b_l_draw .nil pass0 (pa_cons (pv 0) (pa_cons pe_int pa_nil))))
    (pss_cons (ps_set (i := 2) sc_l_cells_right.nd rfl (.inl rfl) (pe_call G_l_cells (hr.mono (by decide)) (by rfl) T.m_l_cells T.F_l_cells.kp T.b_l_cells .nil pass0 (pa_cons (pv 1) pa_nil)))
    (pss_cons (ps_set (i := 4) sc_l_cells_right.nd rfl (.inl rfl) (pe_op op_sub (pe_call G_l_draw (hr.mono (by decide)) (by rfl) T.m_l_draw T.F_l_draw.kp T.b_l_draw .nil pass0 (pa_cons (pv 0) (pa_cons pe_int pa_nil))) pe_int))
    (pss_cons (ps_for PassesOwn.never rfl (R1.PI.or (pi_list (pe_call G_l_tuples (hr.mono (by decide)) (by rfl) T.m_l_tuples T.F_l_tuples.kp T.b_l_tuples .nil pass0 (pa_cons (pe_tup (pa_cons (pe_un un_neg pe_int) (pa_cons pe_int (pa_cons pe_int (pa_cons pe_int (pa_cons pe_int pa_nil)))))) (pa_cons (pe_ix ix_seq (pe_tup (pa_cons (pv 1) (pa_cons (pv 1) (pa_cons (pv 1) (pa_cons (pe_op op_mod (pe_callTy (CallR.or call_int1 call_int_str) (by rfl) T.z_int (by decide +kernel) (pa_cons (pe_op (OpR.or op_add (OpR.or op_add_str (OpR.or op_cat op_catT))) (pv 1) pe_int) pa_nil)) pe_int) pa_nil))))) (pe_call G_l_draw (hr.mono (by decide)) (by rfl) T.m_l_draw T.F_l_draw.kp T.b_l_draw .nil pass0 (pa_cons (pv 0) (pa_cons pe_int pa_nil))) (fun _ _ => rfl)) pa_nil)))) (pi_tup (pe_call G_l_tuples (hr.mono (by decide)) (by rfl) T.m_l_tuples T.F_l_tuples.kp T.b_l_tuples .nil pass0 (pa_cons (pe_tup (pa_cons (pe_un un_neg pe_int) (pa_cons pe_int (pa_cons pe_int (pa_cons pe_int (pa_cons pe_int pa_nil)))))) (pa_cons (pe_ix ix_seq (pe_tup (pa_cons (pv 1) (pa_cons (pv 1) (pa_cons (pv 1) (pa_cons (pe_op op_mod (pe_callTy (CallR.or call_int1 call_int_str) (by rfl) T.z_int (by decide +kernel) (pa_cons (pe_op (OpR.or op_add (OpR.or op_add_str (OpR.or op_cat op_catT))) (pv 1) pe_int) pa_nil)) pe_int) pa_nil))))) (pe_call G_l_draw (hr.mono (by decide)) (by rfl) T.m_l_draw T.F_l_draw.kp T.b_l_draw .nil pass0 (pa_cons (pv 0) (pa_cons pe_int pa_nil))) (fun _ _ => rfl)) pa_nil))))) (pg_name (i := 5) sc_l_cells_right.nd rfl (.inl rfl))
      (pss_cons (ps_set (i := 6) sc_l_cells_right.nd rfl (.inl rfl) (pe_lst (pa_cons (pe_tup (pa_cons (pv 4) (pa_cons (pv 5) pa_nil))) pa_nil)))
      (C8.pss_cut (ps_if (pt_cmpR (op_inD hr.units65) (pe_tup (pa_cons (pv 4) (pa_cons (pv 5) pa_nil))) (pv 2) rfl)
        (pss_one (ps_set (i := 6) sc_l_cells_right.nd rfl (.inl rfl) (pe_lst pa_nil)))
        pss_nil)
      (pss_one (ps_if (pt_not (pt_val (pe_call G_l_alike (hr.mono (by decide)) (by rfl) T.m_l_alike T.F_l_alike.kp T.b_l_alike .nil pass0 (pa_cons (pe_call G_l_cell_error (hr.mono (by decide)) (by rfl) T.m_l_cell_error T.F_l_cell_error.kp T.b_l_cell_error .nil pass0 (pa_cons (pe_tup (pa_cons (pv 4) (pa_cons (pv 5) pa_nil))) (pa_cons (pv 1) pa_nil))) (pa_cons (pv 6) pa_nil)))))
        (pss_one (ps_ret pe_bl))
        pss_nil)))))
    (pss_cons (ps_set (i := 7) sc_l_cells_right.nd rfl (.inl rfl) (pe_ix ix_seq (pv 2) (pe_call G_l_draw (hr.mono (by decide)) (by rfl) T.m_l_draw T.F_l_draw.kp T.b_l_draw .nil pass0 (pa_cons (pv 0) (pa_cons (pe_callB (CallR.or call_len_str call_len_seq) (by rfl) T.z_len (by decide +kernel) (pa_cons (pv 2) pa_nil)) pa_nil))) (fun _ _ => rfl)))
    (pss_cons (ps_set (i := 8) sc_l_cells_right.nd rfl (.inl rfl) (pe_call G_l_no_cell (hr.mono (by decide)) (by rfl) T.m_l_no_cell T.F_l_no_cell.kp T.b_l_no_cell .nil pass0 (pa_cons (pv 0) (pa_cons (pv 7) pa_nil))))
    (pss_one (ps_ret (pe_and (pe_call G_l_alike (hr.mono (by decide)) (by rfl) T.m_l_alike T.F_l_alike.kp T.b_l_alike .nil pass0 (pa_cons (pe_call G_l_cell_error (hr.mono (by decide)) (by rfl) T.m_l_cell_error T.F_l_cell_error.kp T.b_l_cell_error .nil pass0 (pa_cons (pv 8) (pa_cons (pv 1) pa_nil))) (pa_cons (pe_lst (pa_cons (pv 8) pa_nil)) pa_nil))) (pe_one (pe_cmpR (OpR.or op_eq (op_eqD hr.units)) (pe_call G_l_cell_error (hr.mono (by decide)) (by rfl) T.m_l_cell_error T.F_l_cell_error.kp T.b_l_cell_error .nil pass0 (pa_cons (pv 7) (pa_cons (pv 1) pa_nil))) (pe_lst pa_nil) (nomark _))))))))))))), ?_⟩
    refine ⟨4, rfl, by omega, by omega, for_it walk_range (fun i σ' H' => ∃ y1 y2 y3, σ' = [some (.ref st), y1, y2, y3, none, none, none, none, none] ∧ Kp st H H' ∧ Sta H' st) ⟨none, none, none, rfl, Kp.refl _ _, S⟩ (fun _ _ _ _ _ => trivial) ?_ ?_⟩
    · rintro i x σ' _ H1 hi ⟨y1, y2, y3, rfl, k1, S1⟩ ⟨rfl, rfl⟩
      have hi3 : i ≤ 3 := by omega
      have ei : (0 + (i : Int)) = (i : Int) := by omega
      refine ⟨_, rfl, i, congrArg (fun z => [V.int z]) ei, hi3, fun p xs H2 s2 np hp hA => ?_⟩
      refine ⟨_, rfl, i, congrArg (fun z => [V.int z]) ei, by omega, fun p3 xs3 H3 s3 np3 hp3 hA3 => ?_⟩
      have hp' := s3 _ _ hp
      have hA' := hA.mono fun x r h => h.same s3
      refine ⟨_, rfl, _, rfl, _, _, rfl, sm_cells hi3 hp3 hp' hA3 hA', true, rfl, iteF ?_⟩
      obtain ⟨b1, b2, b3⟩ := cells_facts i hi3
      have l3 : xs3.length ≤ 1000 := by rw [hA3.1]; omega
      refine ⟨.ref p3, rfl, .inl ⟨rfl, _, SqL.of hp3⟩, p3, xs3, _, rfl, rfl, hp3, small1000 l3, ?_⟩
      obtain ⟨sc, X2⟩ := (S1.same s2).x
      obtain ⟨n31, n32⟩ := X2.ne np3
      have npp : p ≠ p3 := fun e => by rw [e] at hp; rw [hp] at np3; cases np3
      have X4 : StaX (upd H3 p3 (.lst (xs3 ++ [.non]))) st sc := (X2.same s3).upd n31 n32
      have hp4 : (upd H3 p3 (.lst (xs3 ++ [.non]))) p = some (.lst xs) := by rw [upd_ne npp]; exact hp'
      have k34 : Kp p3 H3 (upd H3 p3 (.lst (xs3 ++ [.non]))) := (Kp.refl _ _).put
      have hA4 : R1.Al (IsCell K (upd H3 p3 (.lst (xs3 ++ [.non])))) xs (cellsN i) := hA'.mono fun x r h => IsCell.kp k34 hp3 h
      have n30 : H p3 = none := (k1.trans (same_kp s2)).free S np3 n31
      have k04 : Kp st H (upd H3 p3 (.lst (xs3 ++ [.non]))) := fun b o hb e => by
        rw [upd_ne (ne_of_none e n30)]
        exact s3 _ _ (s2 _ _ (k1 _ _ hb e))
      generalize upd H3 p3 (.lst (xs3 ++ [.non])) = H4 at X4 hp4 hA4 k04 ⊢
      refine ⟨_, rfl, i, congrArg (fun z => [V.int z]) ei, by omega, fun p5 xs5 H5 s5 np5 hp5 hA5 => ?_⟩
      refine ⟨_, rfl, _, _, rfl, sm_cells hi3 hp5 (s5 _ _ hp4) hA5 (hA4.mono fun x r h => h.same s5), true, rfl, iteF ?_⟩
      exact ⟨_, _, _, rfl, k04.trans (same_kp s5), (X4.same s5).s⟩
    · rintro σ' H1 ⟨y1, y2, y3, rfl, k1, S1⟩
      refine ⟨.ref st, rfl, st, 4, rfl, S1, by decide, by decide, fun H2 v k2 S2 a2 b2 => ?_⟩
      obtain ⟨n, rfl⟩ : ∃ j : Nat, v = j := ⟨v.toNat, by omega⟩
      have hn : n ≤ 3 := by omega
      obtain ⟨b1, b2, b3⟩ := cells_facts n hn
      refine ⟨_, rfl, n, rfl, hn, fun p xs H3 s3 np hp hA => ?_⟩
      have S3 := S2.same s3
      refine ⟨.ref st, rfl, st, 6, rfl, S3, by decide, by decide, fun H4 vz k4 S4 a4 b4 => ⟨_, 1, rfl, rfl, ?_⟩⟩
      have nps : p ≠ st := by
        obtain ⟨sc, X⟩ := S2.x
        exact (X.ne np).1
      have hp4 := k4 _ _ nps hp
      have hA4 : R1.Al (IsCell K H4) xs (cellsN n) := by
        obtain ⟨sc, ns, i, b, s, l, hne, hst, _⟩ := S3.x
        exact hA.mono fun x r h => IsCell.kp k4 hst h
      have k04 := ((k1.trans k2).trans (same_kp s3)).trans k4
      have emod : ((n : Int) + 1) % 4 = (((n + 1) % 4 : Nat) : Int) := by push_cast; rfl
      refine .inl ⟨1, rfl, Nat.le_of_lt (small1000 (by simp)), fun pc npc => ⟨_, rfl, _, rfl, _, rfl, _, rfl, .inl ⟨_, 1, rfl, rfl, .inl (.inl ⟨_, rfl, _, 4, rfl, rfl, by (show (0 : Int) < _; decide), Nat.le_of_lt (small1000 (by simp)), fun pi npi => ?_⟩)⟩⟩⟩
      have tc := sn npc npi
      have npcs : pc ≠ st := by
        obtain ⟨sc, X⟩ := S4.x
        exact (X.ne npc).1
      have npis : pi ≠ st := by
        obtain ⟨sc, X⟩ := (S4.same tc).x
        exact (X.ne npi).1
      have ti := same_upd (o := .tup [.int (n : Int), .int (n : Int), .int (n : Int), .int (((n : Int) + 1) % 4)]) npi
      have fc := ti _ _ (an npc npi)
      have fi : (upd (upd H4 pc (.tup [.int (-1), .int 0, .int 1, .int 2, .int 3])) pi (.tup [.int (n : Int), .int (n : Int), .int (n : Int), .int (((n : Int) + 1) % 4)])) pi = _ := upd_same
      have s4i := tc.trans ti
      refine ⟨.ref st, rfl, st, 4, rfl, S4.same s4i, by decide, by decide, fun H5 vj k5 S5 a5 b5 => ?_⟩
      obtain ⟨j, rfl⟩ : ∃ j : Nat, vj = j := ⟨vj.toNat, by omega⟩
      have fc5 := k5 _ _ npcs fc
      have fi5 := k5 _ _ npis fi
      obtain ⟨mm, hx, hmm⟩ : ∃ mm : Nat, ([.int (n : Int), .int (n : Int), .int (n : Int), .int (((n : Int) + 1) % 4)] : List V)[j]? = some (.int (mm : Int)) ∧ (mm = n ∨ mm = (n + 1) % 4) := by
        rcases (by omega : j = 0 ∨ j = 1 ∨ j = 2 ∨ j = 3) with rfl | rfl | rfl | rfl
        · exact ⟨n, rfl, .inl rfl⟩
        · exact ⟨n, rfl, .inl rfl⟩
        · exact ⟨n, rfl, .inl rfl⟩
        · exact ⟨(n + 1) % 4, by rw [emod]; rfl, .inr rfl⟩
      have hm3 : mm ≤ 3 := by omega
      have k45 := (same_kp (st := st) s4i).trans k5
      have k05 := k04.trans k45
      have hp5 := k45 _ _ nps hp4
      have hA5 : R1.Al (IsCell K H5) xs (cellsN n) := by
        obtain ⟨sc, ns, i, b, s, l, hne, hst, _⟩ := S4.x
        exact hA4.mono fun x r h => IsCell.kp k45 hst h
      refine .inr (.inl ⟨pi, _, (j : Int), .int (mm : Int), rfl, rfl, SqT.of fi5, atI_nat hx, pc, mm, rfl, SqT.of fc5, hm3, fun pt xt H6 s6 npt hpt hAt => ?_⟩)
      obtain ⟨z, hz⟩ : ∃ z, z = vz - 1 := ⟨_, rfl⟩
      have hzm : z ∈ ([-1, 0, 1, 2, 3, 4] : List Int) := by
        rcases (by omega : z = -1 ∨ z = 0 ∨ z = 1 ∨ z = 2 ∨ z = 3 ∨ z = 4) with h | h | h | h | h | h <;> rw [h] <;> simp
      have hp6 := s6 _ _ hp5
      have hA6 := hA5.mono fun x r h => h.same s6
      have S6 := S5.same s6
      refine ⟨pt, rfl, ⟨_, SqL.of hpt⟩, for_it (walk_list (xs := xt)) (fun u σ' H' => ∃ y5 y6, σ' = [some (.ref st), some (.int (n : Int)), some (.ref p), y3, some (.int z), y5, y6, none, none] ∧ Same H6 H') ⟨none, none, by rw [hz]; rfl, Same.refl _⟩ ?_ ?_ ?_⟩
      · rintro u σ' H' _ ⟨_, _, _, sm⟩
        exact sm.seq (SqL.of hpt)
      · rintro u x σ' _ H' hu ⟨y5, y6, rfl, sm⟩ ⟨rfl, hx'⟩
        obtain ⟨t, ht, b, rfl, hb⟩ := hAt.at hx'
        have htm := List.mem_of_getElem? ht
        have lt := tups_facts mm hm3 t htm
        have hb' := SameT sm hb
        refine ⟨_, rfl, _, rfl, Nat.le_of_lt (small1000 (by simp)), fun pq npq => ⟨Nat.le_of_lt (small1000 (by simp)), fun pd npd => ?_⟩⟩
        have tq := sn npq npd
        have td := same_upd (o := .lst [V.ref pq]) npd
        have fq := td _ _ (an npq npd)
        have fd : (upd (upd H' pq (.tup [.int z, .ref b])) pd (.lst [.ref pq])) pd = _ := upd_same
        have sqd := tq.trans td
        generalize upd (upd H' pq (.tup [.int z, .ref b])) pd (.lst [.ref pq]) = H7 at sqd fq fd ⊢
        refine ⟨fun σ' H2 => ∃ pe, σ' = [some (.ref st), some (.int (n : Int)), some (.ref p), y3, some (.int z), some (.ref b), some (.ref pe), none, none] ∧ Same H7 H2 ∧ H2 pe = some (.lst (if inCells n z t = true then [] else [.ref pq])), ?_, ?_⟩
        · refine ⟨_, rfl, _, rfl, Nat.le_of_lt (small1000 (by simp)), fun pr npr => ?_⟩
          have tr := same_upd (o := .tup [.int z, .ref b]) npr
          have sr := (sm.trans sqd).trans tr
          have hci := al_ci (hA6.mono fun x r h => h.same sr)
          refine ⟨.ref p, rfl, encC (z, t), (cellsI n).map encC, (kdC (K := K)).dp _ _ _ ⟨pr, b, rfl, SqT.of upd_same, SameT (sqd.trans tr) hb'⟩, .lst (SqL.of (sr _ _ hp6)) (dpall (kdC (K := K)) hci.1 hci.2), shaped_1 (kdC (K := K)) _, shaped_l (kdC (K := K)) _, _, rfl, ?_⟩
          rw [any_in K]
          cases hin : inCells n z t with
          | true => exact iteT ⟨Nat.zero_le _, fun pe npe => ⟨pe, rfl, tr.trans (same_upd npe), by rw [upd_same]; rfl⟩⟩
          | false => exact iteF ⟨pd, rfl, tr, tr _ _ fd⟩
        · rintro σ' H2 ⟨pe, rfl, s2, hpe⟩
          refine ⟨_, rfl, _, rfl, Nat.le_of_lt (small1000 (by simp)), fun pw npw => ?_⟩
          have tw := same_upd (o := .tup [.int z, .ref b]) npw
          have s2w := s2.trans tw
          have hprim : ∀ y ∈ t.map V.int, Prim y := fun y hy => by
            obtain ⟨k, _, rfl⟩ := List.mem_map.mp hy
            trivial
          have ecB : cellB n z t = inCells n z t := cell_in n hn mm hmm t htm z hzm
          have hbw := SameT (sqd.trans s2w) hb'
          refine ⟨_, rfl, .ref pw, n, cellB n z t, rfl, .inr (.inr ⟨pw, .int z, .ref b, some (t.map V.int), rfl, SqT.of upd_same, trivial, .inr ⟨b, _, rfl, rfl, hbw, hprim, by rw [List.length_map]; omega⟩, (isCell_B n z t).symm⟩), fun pz Hz nz sz hz2 => ⟨_, rfl, _, _, rfl, ?_, true, rfl, iteF ⟨_, _, rfl, ((sm.trans sqd).trans s2w).trans sz⟩⟩⟩
          rw [ecB] at hz2
          have hpez := (tw.trans sz) _ _ hpe
          cases hin : inCells n z t with
          | true =>
            rw [hin] at hz2 hpez
            exact .lst (xs := []) (ys := []) (SqL.of hz2) (SqL.of hpez) rfl (by simp) fun i x y hx _ => by simp at hx
          | false =>
            rw [hin] at hz2 hpez
            have hbz := SameT sz hbw
            have g1 := sz _ _ (show (upd H2 pw (.tup [.int z, .ref b])) pw = _ from upd_same)
            have g2 := (s2w.trans sz) _ _ fq
            refine sm_one (n := 5) hz2 hpez (.tup (SqT.of g1) (SqT.of g2) rfl (by simp) fun i x y hx hy => ?_)
            rw [hx] at hy
            cases hy
            match i, hx with
            | 0, hx => cases hx; exact .int _
            | 1, hx => cases hx; exact sm_selfT hbz (by rw [List.length_map]; omega) fun y hy => sm_prim (hprim y hy)
            | i + 2, hx => simp at hx
      · rintro σ' H7 ⟨y5, y6, rfl, s7⟩
        have hp7 := s7 _ _ hp6
        have hA7 := hA6.mono fun x r h => h.same s7
        have S7 := S6.same s7
        have lx : xs.length = (cellsN n).length := hA.1
        refine ⟨.ref p, rfl, .ref st, rfl, .ref p, rfl, .inr ⟨p, xs, rfl, .inl (SqL.of hp7), st, _, rfl, S7, by omega, by omega, fun H8 v8 k8 S8 a8 b8 => ?_⟩⟩
        obtain ⟨j2, rfl⟩ : ∃ j : Nat, v8 = j := ⟨v8.toNat, by omega⟩
        have hp8 := k8 _ _ nps hp7
        have hj2 : xs[j2]? = some xs[j2] := List.getElem?_eq_getElem (by omega)
        refine .inl ⟨p, xs, (j2 : Int), xs[j2], rfl, rfl, SqL.of hp8, atI_nat hj2, ?_⟩
        have hA8 : R1.Al (IsCell K H8) xs (cellsN n) := by
          obtain ⟨sc, ns, i, b, s, l, hne, hst, _⟩ := S7.x
          exact hA7.mono fun x r h => IsCell.kp k8 hst h
        obtain ⟨c, hc, pcl, bm, ec, h1, h2⟩ := hA8.at hj2
        rw [ec]
        obtain ⟨c1, c2, c3⟩ := b3 c (List.mem_of_getElem? hc)
        refine ⟨.ref st, rfl, _, rfl, st, pcl, bm, c.1, n, c.2, rfl, S8, h1, h2, c1, by omega, fun H9 x k9 S9 hB => ?_⟩
        obtain ⟨hb1, hb2⟩ := hB H9 (Kp.refl _ _)
        refine ⟨_, rfl, _, rfl, x, n, false, rfl, hb1, fun p1 Ha n1 sa ha => ⟨_, rfl, Nat.le_of_lt (small1000 (by simp)), fun p2 n2 => ?_⟩⟩
        have t2 := same_upd (o := .lst [x]) n2
        have s9a := sa.trans t2
        have hb3 := (hB _ (same_kp s9a)).2
        refine ⟨_, _, rfl, sm_one (n := 5) (t2 _ _ ha) upd_same hb3, true, rfl, iteT ?_⟩
        have g1 := SameT s9a (SqT.kpS S8 k9 h1)
        have g2 := SameT s9a (SqT.kpS S8 k9 h2)
        refine ⟨_, rfl, _, rfl, .ref pcl, n, true, rfl, .inr (.inr ⟨pcl, .int (c.1 : Int), .ref bm, some (nvals c.2), rfl, g1, trivial, .inr ⟨bm, _, rfl, rfl, g2, fun y hy => prim_nv hy, by unfold nvals; rw [List.length_map]; omega⟩, ?_⟩), fun p3 Hb n3 sb hb => ⟨Nat.zero_le _, fun p4 n4 => ?_⟩⟩
        · rw [nvals_i, isCell_B, c3]
        · have t4 := same_upd (o := .lst []) n4
          have s9e := (s9a.trans sb).trans t4
          refine .inr (nil_eq (t4 _ _ hb) upd_same ?_)
          exact q _ (((k05.trans (same_kp (s6.trans s7))).trans k8).trans (k9.trans (same_kp s9e))) (S9.same s9e)
end
end K0


namespace K0
open PySem PySem.Spec PyProof.Rows L2
section
variable {P : Program} {w : World} {K : PySem.W.Frag} {mg : Str → Option Value} {base : Heap} {a : Ad}
abbrev kc (c : List Nat) : Key := .inr ⟨c.toArray⟩
structure RenOk (css fs : List (List Nat)) (kvs : List (Key × V)) (u : Nat) : Prop where
  nd : (kvs.map (·.1)).Nodup
  fl : ∀ p ∈ kvs, flatB p.2 = true
  ky : ∀ p ∈ kvs, ∃ c ∈ css.take u, p.1 = kc c
  ln : kvs.length ≤ u
  get : ∀ j c f, j < u → css[j]? = some c → fs[j]? = some f → (valV kvs (kc c)).getD (tx c) = tx f
theorem kc_inj {c d : List Nat} (h : kc c = kc d) : c = d := by
  have := Sum.inr.inj h
  simpa using this
theorem name_ok {c : List Nat} (h : isNameL c = true) : PyData.canLay0 (encT c) = true := by
  unfold isNameL at h
  simp only [Bool.and_eq_true, decide_eq_true_eq] at h
  have lw : ∀ x, Lw x = true → x < 0x110000 := fun x hx => by
    unfold Lw at hx
    simp only [Bool.and_eq_true, decide_eq_true_eq] at hx
    omega
  have dg : ∀ x, Dg x = true → x < 0x110000 := fun x hx => by
    unfold Dg at hx
    simp only [Bool.and_eq_true, decide_eq_true_eq] at hx
    omega
  cases c with
  | nil => simp at h
  | cons a r =>
    simp only [List.headD_cons, List.drop_succ_cons, List.drop_zero] at h
    unfold encT
    simp only [PyData.canLay0, PyData.strOk, List.all_toArray, List.all_cons, Bool.and_eq_true, decide_eq_true_eq]
    exact ⟨lw a h.2.1, List.all_eq_true.mpr fun x hx => decide_eq_true (dg x (List.all_eq_true.mp h.2.2 x hx))⟩
theorem z9_is : (.inr (Str.ofString "z9") : Key) = kc [122, 57] := by decide +kernel
theorem nodup_take {α : Type} {l : List α} {u : Nat} {c : α} (h : l.Nodup) (e : l[u]? = some c) : ¬ c ∈ l.take u := by
  intro hm
  obtain ⟨j, hj⟩ := List.mem_iff_getElem?.mp hm
  have hlt : j < u := by
    have := (List.getElem?_eq_some_iff.mp hj).1
    rw [List.length_take] at this
    omega
  rw [List.getElem?_take_of_lt hlt] at hj
  have := (List.getElem?_inj (List.getElem?_eq_some_iff.mp hj).1 h).mp (hj.trans e.symm)
  omega
theorem RenOk.new {css fs : List (List Nat)} {kvs : List (Key × V)} {u : Nat} {c : List Nat} (R : RenOk css fs kvs u) (h : css.Nodup) (e : css[u]? = some c) : valV kvs (kc c) = none := by
  cases hv : valV kvs (kc c) with
  | none => rfl
  | some v =>
    obtain ⟨p, hp, ep⟩ := List.mem_map.mp (valV_in hv)
    obtain ⟨d, hd, ed⟩ := R.ky p hp
    rw [ep] at ed
    rw [← kc_inj ed] at hd
    exact absurd hd (nodup_take h e)
theorem RenOk.skip {css fs : List (List Nat)} {kvs : List (Key × V)} {u : Nat} {c : List Nat} (R : RenOk css fs kvs u) (h : css.Nodup) (e : css[u]? = some c) (hf : fs.length = u) : RenOk css (fs ++ [c]) kvs (u + 1) where
  nd := R.nd
  fl := R.fl
  ky := fun p hp => by
    obtain ⟨d, hd, ed⟩ := R.ky p hp
    exact ⟨d, by rw [List.take_add_one]; exact List.mem_append_left _ hd, ed⟩
  ln := Nat.le_succ_of_le R.ln
  get := fun j d f hj hd hf' => by
    rcases Nat.lt_or_ge j u with hl | hl
    · rw [List.getElem?_append_left (by omega)] at hf'
      exact R.get j d f hl hd hf'
    · have : j = u := by omega
      subst this
      rw [← hf, List.getElem?_append_right (Nat.le_refl _)] at hf'
      rw [e] at hd
      cases hd
      have : c = f := by simpa using hf'
      rw [R.new h e, ← this]
      rfl
theorem RenOk.put {css fs : List (List Nat)} {kvs : List (Key × V)} {u : Nat} {c t : List Nat} (R : RenOk css fs kvs u) (h : css.Nodup) (e : css[u]? = some c) (hf : fs.length = u) : RenOk css (fs ++ [t]) (putK kvs (kc c) (tx t)) (u + 1) where
  nd := nd_putK _ R.nd (R.new h e)
  fl := fun p hp => by
    rw [L2.putK_new _ (R.new h e)] at hp
    rcases List.mem_append.mp hp with hp | hp
    · exact R.fl p hp
    · rw [List.mem_singleton.mp hp]; rfl
  ky := fun p hp => by
    rw [List.take_add_one, e]
    rw [L2.putK_new _ (R.new h e)] at hp
    rcases List.mem_append.mp hp with hp | hp
    · obtain ⟨d, hd, ed⟩ := R.ky p hp
      exact ⟨d, List.mem_append_left _ hd, ed⟩
    · rw [List.mem_singleton.mp hp]
      exact ⟨c, List.mem_append_right _ (by simp), rfl⟩
  ln := Nat.le_trans (length_putK _ _ _) (Nat.succ_le_succ R.ln)
  get := fun j d f hj hd hf' => by
    rw [valV_put]
    rcases Nat.lt_or_ge j u with hl | hl
    · rw [List.getElem?_append_left (by omega)] at hf'
      rw [if_neg (fun z => ?_)]
      · exact R.get j d f hl hd hf'
      · have := kc_inj z
        rw [← this] at e
        have := (List.getElem?_inj (List.getElem?_eq_some_iff.mp hd).1 h).mp (hd.trans e.symm)
        omega
    · have : j = u := by omega
      subst this
      rw [← hf, List.getElem?_append_right (Nat.le_refl _)] at hf'
      rw [e] at hd
      cases hd
      have : t = f := by simpa using hf'
      rw [if_pos rfl, ← this]
      rfl
theorem sorted_strs {H : Hp} {p : Addr} {css : List (List Nat)} {Q : VK} (h : SqL K H p (css.map tx)) (q : ∀ l, H l = none → Q (.ref l) (upd H l (.lst ((R1.sortK encT css).map tx)))) : R0.rSortD K [.ref p] H Q := by
  have hA : R1.Al (fun x c => x = tx c) (css.map tx) css := ⟨by simp, fun i x c hx hc => by
    rw [List.getElem?_map, hc] at hx
    exact (Option.some.inj hx).symm⟩
  have hk : ∀ d ∈ css.map encT, ∃ c, d = encT c := fun d hd => by
    obtain ⟨c, _, rfl⟩ := List.mem_map.mp hd
    exact ⟨c, rfl⟩
  have hS := R1.sort_al encT hA
  have eS : R0.sortV (css.map tx) (css.map encT) = (R1.sortK encT css).map tx := al_eq (g := tx) hS.1 hS.2
  refine ⟨p, _, css.map encT, rfl, h, ?_, fun d hd d' hd' => ?_, .inr fun d hd => ?_, fun d hd => ?_, fun l nl => ?_⟩
  · have : ∀ cs : List (List Nat), DpAll K H (cs.map tx) (cs.map encT) := fun cs => dp_strs cs
    exact this css
  · obtain ⟨_, rfl⟩ := hk d hd
    obtain ⟨_, rfl⟩ := hk d' hd'
    exact encT_alike _ _
  · obtain ⟨_, rfl⟩ := hk d hd
    exact ⟨by simp [encT], by simp [encT]⟩
  · obtain ⟨_, rfl⟩ := hk d hd
    simp [encT, PyData.depth]
  · rw [eS]
    exact q l nl
theorem erase_map {α β : Type} (f : α → β) : ∀ (ws : List α) (j : Nat), (ws.map f).eraseIdx j = (ws.eraseIdx j).map f
  | [], _ => rfl
  | _ :: _, 0 => rfl
  | w :: ws, j + 1 => congrArg (f w :: ·) (erase_map f ws j)
theorem pop_perm {α : Type} : ∀ (ws : List α) (j : Nat) (h : j < ws.length), (ws[j] :: ws.eraseIdx j).Perm ws
  | [], j, h => absurd h (Nat.not_lt_zero j)
  | w :: ws, 0, h => List.Perm.refl _
  | w :: ws, j + 1, h => (List.Perm.swap w (ws[j]'(Nat.lt_of_succ_lt_succ h)) (ws.eraseIdx j)).trans (List.Perm.cons w (pop_perm ws j (Nat.lt_of_succ_lt_succ h)))
/-- one taken out of a list -/
theorem perm_pop {α : Type} {ns ws : List α} {j : Nat} (h : j < ws.length) : ((ns ++ [ws[j]]) ++ ws.eraseIdx j).Perm (ns ++ ws) := by
  rw [List.append_assoc]
  exact List.Perm.append_left ns (pop_perm ws j h)
def spRen : Sp := fun vs H Q _ => ∃ (st : Addr) (n : Nat), vs = [.ref st, .int (n : Int)] ∧ Sta H st ∧ n ≤ 6 ∧ ∀ (H' : Hp) (p pn pd pf : Addr) (css fs : List (List Nat)) (kvs : List (Key × V)), Kp st H H' → Sta H' st → p ≠ st → pn ≠ st → pd ≠ st → pf ≠ st → H' p = some (.lst [.ref pn, .ref pd, .ref pf]) → H' pn = some (.lst (css.map tx)) → H' pd = some (.dK kvs) → H' pf = some (.lst (fs.map tx)) → css.length = n → fs.length = n → css.Nodup → fs.Nodup → (kvs.map (·.1)).Nodup → (∀ p ∈ kvs, flatB p.2 = true) → (∀ (j : Nat) (c f : List Nat), css[j]? = some c → fs[j]? = some f → (valV kvs (kc c)).getD (tx c) = tx f) → (∀ c ∈ fs, PyData.canLay0 (encT c) = true) → Q (.ref p) H'
theorem ok_renaming (T : Top K mg a) (G_l_draw : FnOk P w K mg base CX0 1 a.f_l_draw a.d_l_draw ["_law_state_here", "_law_many"] spDrawX) (G_l_styled : FnOk P w K mg base CX0 3 a.f_l_styled a.d_l_styled ["_law_feed", "_law_count"] spStyled) : FnOk P w K mg base CX0 4 a.f_l_renaming a.d_l_renaming ["_law_state_here", "_law_count"] spRen := by
  refine T.F_l_renaming.ok sc_l_renaming (fun vs H Q E h => ?_) (fun cdv A outer s H vs Q E hr h => ?_)
  · obtain ⟨_, _, rfl, _⟩ := h
    rfl
  · obtain ⟨st, n, rfl, S, hn, q⟩ := h
    refine ⟨_, (pss_cons (ps_set (i := 2) sc_l_renaming.nd rfl (.inl rfl) (pe_callTy call_list_of (by rfl) T.z_list (by decide +kernel) (pa_cons (pe_call G_l_styled (hr.mono (by decide)) (by rfl) T.m_l_styled T.F_l_styled.kp T.b_l_styled .nil pass0 (pa_cons (pv 0) (pa_cons pe_int pa_nil))) pa_nil)))
    (pss_cons (ps_set (i := 3) sc_l_renaming.nd rfl (.inl rfl) (pe_callTy call_list_of (by rfl) T.z_list (by decide +kernel) (pa_cons (pv 2) pa_nil)))
    (pss_cons (ps_set (i := 4) sc_l_renaming.nd rfl (.inl rfl) (pe_lst pa_nil))
    (pss_cons (ps_for PassesOwn.never rfl (pi_range1 (by rfl) T.z_range (pa_cons (pv 1) pa_nil)) (pg_name (i := 5) sc_l_renaming.nd rfl (.inl rfl))
      (pss_one (ps_expr (pe_bm PySem.F.plainAttrs_list PySem.F.slot_list_append PySem.F.type_list_append mt_append (pv 4) (pa_cons (pe_bm PySem.F.plainAttrs_list PySem.F.slot_list_pop PySem.F.type_list_pop mt_popAt (pv 2) (pa_cons (pe_call G_l_draw (hr.mono (by decide)) (by rfl) T.m_l_draw T.F_l_draw.kp T.b_l_draw .nil pass0 (pa_cons (pv 0) (pa_cons (pe_callB (CallR.or call_len_str call_len_seq) (by rfl) T.z_len (by decide +kernel) (pa_cons (pv 2) pa_nil)) pa_nil))) pa_nil)) pa_nil)))))
    (pss_cons (ps_set (i := 4) sc_l_renaming.nd rfl (.inl rfl) (pe_callB (R0.cr_sortD hr.units) (by rfl) T.z_sorted (by decide +kernel) (pa_cons (pv 4) pa_nil)))
    (pss_cons (ps_set (i := 6) sc_l_renaming.nd rfl (.inl rfl) (pe_lst pa_nil))
    (pss_cons (ps_set (i := 7) sc_l_renaming.nd rfl (.inl rfl) pe_dnewK)
    (pss_cons (ps_for PassesOwn.never rfl (pi_list (pv 4)) (pg_name (i := 8) sc_l_renaming.nd rfl (.inl rfl))
      (pss_cons (ps_set (i := 9) sc_l_renaming.nd rfl (.inl rfl) (pe_bm PySem.F.plainAttrs_list PySem.F.slot_list_pop PySem.F.type_list_pop mt_popAt (pv 3) (pa_cons (pe_call G_l_draw (hr.mono (by decide)) (by rfl) T.m_l_draw T.F_l_draw.kp T.b_l_draw .nil pass0 (pa_cons (pv 0) (pa_cons (pe_callB (CallR.or call_len_str call_len_seq) (by rfl) T.z_len (by decide +kernel) (pa_cons (pv 3) pa_nil)) pa_nil))) pa_nil)))
      (pss_cons (ps_expr (pe_bm PySem.F.plainAttrs_list PySem.F.slot_list_append PySem.F.type_list_append mt_append (pv 6) (pa_cons (pv 9) pa_nil)))
      (pss_one (ps_if (PW.pt (pw_or (pt_cmpR (OpR.or op_ne (op_neD hr.units)) (pv 9) (pv 8) (nomark _)) (pw_or1 (pt_cmpR (OpR.or op_eq (op_eqD hr.units)) (pe_call G_l_draw (hr.mono (by decide)) (by rfl) T.m_l_draw T.F_l_draw.kp T.b_l_draw .nil pass0 (pa_cons (pv 0) (pa_cons pe_int pa_nil))) pe_int (nomark _)))))
        (pss_one (ps_asg (pv 9) (pg_sub (pv 7) (pv 8) (set_dict (hu_of hr)))))
        pss_nil)))))
    (C8.pss_cut (ps_if (pt_cmpR (OpR.or op_eq (op_eqD hr.units)) (pe_call G_l_draw (hr.mono (by decide)) (by rfl) T.m_l_draw T.F_l_draw.kp T.b_l_draw .nil pass0 (pa_cons (pv 0) (pa_cons pe_int pa_nil))) pe_int (nomark _))
      (pss_one (ps_asg pe_str (pg_sub (pv 7) pe_str (set_dict (hu_of hr)))))
      pss_nil)
    (pss_one (ps_ret (pe_lst (pa_cons (pv 4) (pa_cons (pv 7) (pa_cons (pv 6) pa_nil))))))))))))))), ?_⟩
    refine ⟨.ref st, rfl, st, 6, rfl, S, by omega, fun H1 tp pool k1 S1 n1 h1 l1 p1 o1 z1 => ?_⟩
    refine ⟨tp, _, rfl, .inr (SqT.of h1), fun W nW => ?_⟩
    refine ⟨.ref W, rfl, W, _, rfl, .inl (SqL.of upd_same), fun Tg nTg => ?_⟩
    refine ⟨Nat.zero_le _, fun N nN => ?_⟩
    have tW := sn nW nTg
    have tT := sn nTg nN
    have tN := same_upd (o := .lst []) nN
    have hW := tN _ _ (tT _ _ (an nW nTg))
    have hT := tN _ _ (an nTg nN)
    have hN : (upd (upd (upd H1 W (.lst (pool.map tx))) Tg (.lst (pool.map tx))) N (.lst [])) N = _ := upd_same
    obtain ⟨sc, X1⟩ := S1.x
    have sWT := tW.trans tT
    have nT1 : H1 Tg = none := tW.free nTg
    have nN1 : H1 N = none := sWT.free nN
    obtain ⟨W1, W2⟩ := X1.ne nW
    obtain ⟨T1, T2⟩ := X1.ne nT1
    obtain ⟨N1, N2⟩ := X1.ne nN1
    have nW0 := k1.free S nW W1
    have nT0 := k1.free S nT1 T1
    have nN0 := k1.free S nN1 N1
    have dWT : W ≠ Tg := ne_of_none (an nW nTg) nTg
    have dWN : W ≠ N := ne_of_none (tT _ _ (an nW nTg)) nN
    have dTN : Tg ≠ N := ne_of_none (an nTg nN) nN
    have s13 := sWT.trans tN
    have X3 := X1.same s13
    have k3 := k1.trans (same_kp s13)
    generalize upd (upd (upd H1 W (.lst (pool.map tx))) Tg (.lst (pool.map tx))) N (.lst []) = H3 at hW hT hN X3 k3 ⊢
    refine ⟨.int (n : Int), rfl, (n : Int), rfl, by omega, by omega, for_it walk_range (fun i σ' H' => ∃ y5 ns ws, σ' = [some (.ref st), some (.int (n : Int)), some (.ref W), some (.ref Tg), some (.ref N), y5, none, none, none, none] ∧ Kp st H H' ∧ StaX H' st sc ∧ H' N = some (.lst (ns.map tx)) ∧ H' W = some (.lst (ws.map tx)) ∧ H' Tg = some (.lst (pool.map tx)) ∧ ns.length = i ∧ (ns ++ ws).Perm pool) ⟨none, [], pool, rfl, k3, X3, hN, hW, hT, rfl, List.Perm.refl _⟩ (fun _ _ _ _ _ => trivial) ?_ ?_⟩
    · rintro i x σ' _ H4 hi ⟨y5, ns, ws, rfl, k4, X4, hN4, hW4, hT4, ln, pm⟩ ⟨rfl, rfl⟩
      have lw : ws.length + ns.length = 6 := by
        have := pm.length_eq
        rw [List.length_append] at this
        omega
      refine ⟨.ref N, rfl, .inl ⟨rfl, _, SqL.of hN4⟩, .ref W, rfl, .inl ⟨rfl, _, SqL.of hW4⟩, .ref st, rfl, .ref W, rfl, .inr ⟨W, _, rfl, .inl (SqL.of hW4), ?_⟩⟩
      rw [List.length_map]
      refine ⟨st, sc, _, rfl, X4, by omega, by omega, fun H5 v5 k5 X5 a5 b5 => ?_⟩
      obtain ⟨j, rfl⟩ : ∃ j : Nat, v5 = j := ⟨v5.toNat, by omega⟩
      have hj : j < ws.length := by omega
      refine ⟨W, ws.map tx, (j : Int), j, tx ws[j], rfl, rfl, k5 _ _ W1 hW4, by omega, by omega, ?_, by rw [List.getElem?_map, List.getElem?_eq_getElem hj]; rfl, ?_⟩
      · rw [List.length_map]
        exact seqIndex_of (by omega) (by omega)
      have hN5 := k5 _ _ N1 hN4
      rw [erase_map]
      have hj5 : (upd H5 W (.lst ((ws.eraseIdx j).map tx))) N = some (.lst (ns.map tx)) := by rw [upd_ne (Ne.symm dWN)]; exact hN5
      refine ⟨N, _, _, rfl, rfl, hj5, small1000 (by rw [List.length_map]; omega), _, ns ++ [ws[j]], ws.eraseIdx j, rfl, fun b u hb e => ?_, (X5.upd W1 W2).upd N1 N2, ?_, ?_, ?_, by simp; omega, (perm_pop hj).trans pm⟩
      · rw [upd_ne (ne_of_none e nN0), upd_ne (ne_of_none e nW0)]
        exact k5 _ _ hb (k4 _ _ hb e)
      · rw [upd_same, List.map_append]; rfl
      · rw [upd_ne dWN, upd_same]
      · rw [upd_ne dTN, upd_ne (Ne.symm dWT)]
        exact k5 _ _ T1 hT4
    · rintro σ' H4 ⟨y5, ns, ws, rfl, k4, X4, hN4, hW4, hT4, ln, pm⟩
      have ln' : ns.length = n := by omega
      have pnd : pool.Nodup := p1.imp fun h e => by rw [e] at h; exact List.lt_irrefl _ h
      have nnd : ns.Nodup := (List.nodup_append.mp (pm.nodup_iff.mpr pnd)).1
      refine ⟨.ref N, rfl, ?_⟩
      dsimp only [tNil]
      refine sorted_strs (SqL.of hN4) fun M nM => ⟨Nat.zero_le _, fun F nF => fun D nD => ?_⟩
      have cl : (R1.sortK encT ns).length = n := by rw [R1.sortK_len]; exact ln'
      have cnd : (R1.sortK encT ns).Nodup := (show (R1.sortK encT ns).Perm ns from List.mergeSort_perm ns _).nodup_iff.mpr nnd
      have cz : ∀ c ∈ R1.sortK encT ns, c.headD 0 < 122 := fun c hc => z1 c (pm.mem_iff.mp (List.mem_append_left _ (R1.sortK_sub hc)))
      generalize R1.sortK encT ns = css at nM nF nD cl cnd cz ⊢
      have tM := sn nM nF
      have tF := sn nF nD
      have tD := same_upd (o := .dK []) nD
      have hM := tD _ _ (tF _ _ (an nM nF))
      have hF := tD _ _ (an nF nD)
      have hD : (upd (upd (upd H4 M (.lst (css.map tx))) F (.lst [])) D (.dK [])) D = _ := upd_same
      have dMF : M ≠ F := ne_of_none (an nM nF) nF
      have dMD : M ≠ D := ne_of_none (tF _ _ (an nM nF)) nD
      have dFD : F ≠ D := ne_of_none (an nF nD) nD
      have nF4 : H4 F = none := tM.free nF
      have nD4 : H4 D = none := (tM.trans tF).free nD
      obtain ⟨M1, M2⟩ := X4.ne nM
      obtain ⟨F1, F2⟩ := X4.ne nF4
      obtain ⟨D1, D2⟩ := X4.ne nD4
      have dTM : Tg ≠ M := ne_of_none hT4 nM
      have dTF : Tg ≠ F := ne_of_none hT4 nF4
      have dTD : Tg ≠ D := ne_of_none hT4 nD4
      have nF0 := k4.free S nF4 F1
      have nT0' : H Tg = none := nT0
      have nD0 := k4.free S nD4 D1
      have sA := (tM.trans tF).trans tD
      have X5 := X4.same sA
      have k5 := k4.trans (same_kp sA)
      have hT5 := sA _ _ hT4
      generalize upd (upd (upd H4 M (.lst (css.map tx))) F (.lst [])) D (.dK []) = H5 at hM hF hD X5 k5 hT5 ⊢
      refine ⟨.ref M, rfl, M, rfl, ⟨_, SqL.of hM⟩, for_it (walk_list (xs := css.map tx)) (fun u σ' H' => ∃ y8 y9 fs ts kvs, σ' = [some (.ref st), some (.int (n : Int)), some (.ref W), some (.ref Tg), some (.ref M), y5, some (.ref F), some (.ref D), y8, y9] ∧ Kp st H H' ∧ StaX H' st sc ∧ H' M = some (.lst (css.map tx)) ∧ H' Tg = some (.lst (ts.map tx)) ∧ H' F = some (.lst (fs.map tx)) ∧ H' D = some (.dK kvs) ∧ fs.length = u ∧ (fs ++ ts).Perm pool ∧ RenOk css fs kvs u) ⟨none, none, [], pool, [], rfl, k5, X5, hM, hT5, hF, hD, rfl, List.Perm.refl _, ⟨List.nodup_nil, by simp, by simp, Nat.le_refl _, fun j _ _ h => absurd h (Nat.not_lt_zero j)⟩⟩ ?_ ?_ ?_⟩
      · rintro u σ' H' _ ⟨_, _, _, _, _, _, _, _, hM', _⟩
        exact SqL.of hM'
      · rintro u x σ' _ H6 hu ⟨y8, y9, fs, ts, kvs, rfl, k6, X6, hM6, hT6, hF6, hD6, lf, pm6, R⟩ ⟨rfl, hx⟩
        have hu' : u < n := by rw [List.length_map] at hu; omega
        have lt : ts.length + fs.length = 6 := by
          have := pm6.length_eq
          rw [List.length_append] at this
          omega
        obtain ⟨c, hc⟩ : ∃ c, css[u]? = some c := ⟨css[u]'(by omega), List.getElem?_eq_getElem _⟩
        obtain rfl : tx c = x := by rw [List.getElem?_map, hc] at hx; exact Option.some.inj hx
        refine ⟨.ref Tg, rfl, .inl ⟨rfl, _, SqL.of hT6⟩, .ref st, rfl, .ref Tg, rfl, .inr ⟨Tg, _, rfl, .inl (SqL.of hT6), ?_⟩⟩
        rw [List.length_map]
        refine ⟨st, sc, _, rfl, X6, by omega, by omega, fun H7 v7 k7 X7 a7 b7 => ?_⟩
        obtain ⟨j, rfl⟩ : ∃ j : Nat, v7 = j := ⟨v7.toNat, by omega⟩
        have hj : j < ts.length := by omega
        refine ⟨Tg, ts.map tx, (j : Int), j, tx ts[j], rfl, rfl, k7 _ _ T1 hT6, by omega, by omega, ?_, by rw [List.getElem?_map, List.getElem?_eq_getElem hj]; rfl, ?_⟩
        · rw [List.length_map]
          exact seqIndex_of (by omega) (by omega)
        rw [erase_map]
        have hF7 : (upd H7 Tg (.lst ((ts.eraseIdx j).map tx))) F = some (.lst (fs.map tx)) := by rw [upd_ne (Ne.symm dTF)]; exact k7 _ _ F1 hF6
        refine ⟨.ref F, rfl, .inl ⟨rfl, _, SqL.of hF7⟩, _, rfl, F, _, _, rfl, rfl, hF7, small1000 (by rw [List.length_map]; omega), ?_⟩
        have k07 : Kp st H (upd (upd H7 Tg (.lst ((ts.eraseIdx j).map tx))) F (.lst (fs.map tx ++ [tx ts[j]]))) := fun b u hb e => by
          rw [upd_ne (ne_of_none e nF0), upd_ne (ne_of_none e nT0')]
          exact k7 _ _ hb (k6 _ _ hb e)
        have X8 := (X7.upd (o := .lst ((ts.eraseIdx j).map tx)) T1 T2).upd (o := .lst (fs.map tx ++ [tx ts[j]])) F1 F2
        have hM8 : (upd (upd H7 Tg (.lst ((ts.eraseIdx j).map tx))) F (.lst (fs.map tx ++ [tx ts[j]]))) M = some (.lst (css.map tx)) := by
          rw [upd_ne dMF, upd_ne (Ne.symm dTM)]
          exact k7 _ _ M1 hM6
        have hT8 : (upd (upd H7 Tg (.lst ((ts.eraseIdx j).map tx))) F (.lst (fs.map tx ++ [tx ts[j]]))) Tg = some (.lst ((ts.eraseIdx j).map tx)) := by
          rw [upd_ne dTF, upd_same]
        have hF8 : (upd (upd H7 Tg (.lst ((ts.eraseIdx j).map tx))) F (.lst (fs.map tx ++ [tx ts[j]]))) F = some (.lst ((fs ++ [ts[j]]).map tx)) := by
          rw [upd_same, List.map_append]; rfl
        have hD8 : (upd (upd H7 Tg (.lst ((ts.eraseIdx j).map tx))) F (.lst (fs.map tx ++ [tx ts[j]]))) D = some (.dK kvs) := by
          rw [upd_ne (Ne.symm dFD), upd_ne (Ne.symm dTD)]
          exact k7 _ _ D1 hD6
        generalize upd (upd H7 Tg (.lst ((ts.eraseIdx j).map tx))) F (.lst (fs.map tx ++ [tx ts[j]])) = H8 at k07 X8 hM8 hT8 hF8 hD8 ⊢
        have pm8 : ((fs ++ [ts[j]]) ++ ts.eraseIdx j).Perm pool := (perm_pop hj).trans pm6
        have R8 := R.put (t := ts[j]) cnd hc lf
        have lf8 : (fs ++ [ts[j]]).length = u + 1 := by simp; omega
        have put : ∀ H9, Kp st H8 H9 → StaX H9 st sc → DPut H9 D (tx c) (tx ts[j]) (upd H9 D (.dK (putK kvs (kc c) (tx ts[j])))) ∧ Kp st H (upd H9 D (.dK (putK kvs (kc c) (tx ts[j])))) := fun H9 k9 X9 => ⟨DPut.k (k := kc c) (k9 _ _ D1 hD8) (small1000 (by have := R.ln; omega)), fun b u hb e => by
          rw [upd_ne (ne_of_none e nD0)]
          exact k9 _ _ hb (k07 _ _ hb e)⟩
        refine ⟨_, rfl, _, rfl, nes ?_⟩
        refine ite2 (fun e => ?_) (fun e => ?_)
        · obtain ⟨d9, k9⟩ := put H8 (Kp.refl _ _) X8
          refine iteT ⟨_, rfl, .ref D, rfl, _, rfl, D, _, rfl, d9, ?_⟩
          exact ⟨_, _, _, _, _, rfl, k9, X8.upd D1 D2, by rw [upd_ne dMD]; exact hM8, by rw [upd_ne dTD]; exact hT8, by rw [upd_ne dFD]; exact hF8, upd_same, lf8, pm8, R8⟩
        · refine ⟨.ref st, rfl, st, sc, 2, rfl, X8, by decide, by decide, fun H9 v k9 X9 a9 b9 => ?_⟩
          refine eqi (ite2 (fun e0 => ?_) (fun e0 => ?_))
          · obtain ⟨d9, k9'⟩ := put H9 k9 X9
            refine ⟨_, rfl, .ref D, rfl, _, rfl, D, _, rfl, d9, ?_⟩
            exact ⟨_, _, _, _, _, rfl, k9', X9.upd D1 D2, by rw [upd_ne dMD]; exact k9 _ _ M1 hM8, by rw [upd_ne dTD]; exact k9 _ _ T1 hT8, by rw [upd_ne dFD]; exact k9 _ _ F1 hF8, upd_same, lf8, pm8, R8⟩
          · have ec : ts[j] = c := by
              have h : ({ cps := ts[j].toArray } : Str) = ⟨c.toArray⟩ := by
                apply Decidable.byContradiction
                intro z
                exact e (by rw [decide_eq_false z]; rfl)
              simpa using h
            refine ⟨_, _, _, _, _, rfl, k07.trans k9, X9, k9 _ _ M1 hM8, k9 _ _ T1 hT8, k9 _ _ F1 hF8, k9 _ _ D1 hD8, lf8, pm8, ?_⟩
            rw [ec]
            exact R.skip cnd hc lf
      · rintro σ' H6 ⟨y8, y9, fs, ts, kvs, rfl, k6, X6, hM6, hT6, hF6, hD6, lf, pm6, R⟩
        rw [List.length_map, cl] at lf R
        refine ⟨fun σ' H' => ∃ y8 y9 kv2, σ' = [some (.ref st), some (.int (n : Int)), some (.ref W), some (.ref Tg), some (.ref M), y5, some (.ref F), some (.ref D), y8, y9] ∧ Kp st H H' ∧ StaX H' st sc ∧ H' M = some (.lst (css.map tx)) ∧ H' F = some (.lst (fs.map tx)) ∧ H' D = some (.dK kv2) ∧ (kv2.map (·.1)).Nodup ∧ (∀ p ∈ kv2, flatB p.2 = true) ∧ (∀ (j : Nat) (c f : List Nat), css[j]? = some c → fs[j]? = some f → (valV kv2 (kc c)).getD (tx c) = tx f), ?_, ?_⟩
        · refine ⟨.ref st, rfl, st, sc, 2, rfl, X6, by decide, by decide, fun H7 v k7 X7 a7 b7 => ?_⟩
          refine eqi (ite2 (fun e0 => ?_) (fun e0 => ?_))
          · have hz : valV kvs (.inr (Str.ofString "z9")) = none := by
              cases hv : valV kvs (.inr (Str.ofString "z9")) with
              | none => rfl
              | some v =>
                obtain ⟨p, hp, ep⟩ := List.mem_map.mp (valV_in hv)
                obtain ⟨d, hd, ed⟩ := R.ky p hp
                rw [ep, z9_is] at ed
                have e9 : [122, 57] = d := kc_inj ed
                have := cz d (List.mem_of_mem_take hd)
                rw [← e9] at this
                exact absurd this (by decide)
            refine ⟨.ref D, rfl, D, _, rfl, DPut.k (k := .inr (Str.ofString "z9")) (k7 _ _ D1 hD6) (small1000 (by have := R.ln; omega)), ?_⟩
            refine ⟨_, _, _, rfl, fun b u hb e => ?_, X7.upd D1 D2, by rw [upd_ne dMD]; exact k7 _ _ M1 hM6, by rw [upd_ne dFD]; exact k7 _ _ F1 hF6, upd_same, nd_putK _ R.nd hz, fun p hp => ?_, fun j c f hc hf => ?_⟩
            · rw [upd_ne (ne_of_none e nD0)]
              exact k7 _ _ hb (k6 _ _ hb e)
            · rw [L2.putK_new _ hz] at hp
              rcases List.mem_append.mp hp with hp | hp
              · exact R.fl p hp
              · rw [List.mem_singleton.mp hp]; rfl
            · have hjn : j < n := by have := (List.getElem?_eq_some_iff.mp hc).1; omega
              rw [valV_put, if_neg fun z => ?_]
              · exact R.get j c f hjn hc hf
              · rw [z9_is] at z
                have e9 : c = [122, 57] := kc_inj z
                have := cz c (List.mem_of_getElem? hc)
                rw [e9] at this
                exact absurd this (by decide)
          · exact ⟨_, _, _, rfl, k6.trans k7, X7, k7 _ _ M1 hM6, k7 _ _ F1 hF6, k7 _ _ D1 hD6, R.nd, R.fl, fun j c f hc hf => R.get j c f (by have := (List.getElem?_eq_some_iff.mp hc).1; omega) hc hf⟩
        · rintro σ' H7 ⟨y8, y9, kv2, rfl, k7, X7, hM7, hF7, hD7, g1, g2, g3⟩
          refine ⟨_, rfl, _, rfl, _, rfl, Nat.le_of_lt (small1000 (by simp)), fun p np => ?_⟩
          have tp := same_upd (o := .lst [.ref M, .ref D, .ref F]) np
          exact q _ p M D F css fs kv2 (k7.trans (same_kp tp)) ((X7.same tp).s) (X7.ne np).1 M1 D1 F1 upd_same (tp _ _ hM7) (tp _ _ hD7) (tp _ _ hF7) cl lf cnd (List.nodup_append.mp (pm6.nodup_iff.mpr pnd)).1 g1 g2 g3 fun c hc => name_ok (o1 c (pm6.mem_iff.mp (List.mem_append_left _ hc))).1
end
end K0


namespace K0
open PySem PySem.Spec PyProof.Rows L2
theorem pos_at {κ : Type} [DecidableEq κ] {l : List κ} {i : Nat} {c : κ} (h : l.Nodup) (e : l[i]? = some c) : pos l c = i := by
  have g := pos_get l c (List.mem_of_getElem? e)
  exact (List.getElem?_inj (List.getElem?_eq_some_iff.mp g).1 h).mp (g.trans e.symm)
theorem encNm_alike (x y : List Nat × Nat) : PySem.W.alike (encNm x) (encNm y) = true := by simp [encNm, PySem.W.alike, PySem.W.alikeAll]
theorem encNm_ev (x y : List Nat × Nat) (h : PyData.eqv (encNm x) (encNm y) = true) : x = y := by
  obtain ⟨c, m⟩ := x
  obtain ⟨d, k⟩ := y
  unfold encNm at h
  simp only [PyData.eqv, PyData.eqvAll, Bool.and_eq_true, beq_iff_eq, and_true, Str.mk.injEq] at h
  obtain ⟨h1, h2⟩ := h
  have e1 : c = d := by simpa using h1
  have e2 : m = k := by omega
  rw [e1, e2]
/-- the marks, at the new names in their order -/
def dueAt (fs : List (List Nat)) (ms : List Nat) (c : List Nat) : Nat := ms.getD (pos fs c) 0
theorem zip_due {fs : List (List Nat)} {ms : List Nat} (nd : fs.Nodup) (hl : fs.length = ms.length) : fs.map (fun c => (c, dueAt fs ms c)) = fs.zip ms := by
  refine List.ext_getElem? fun i => ?_
  rw [List.getElem?_map]
  cases e : fs[i]? with
  | none =>
    have h1 : fs.length ≤ i := List.getElem?_eq_none_iff.mp e
    rw [(List.getElem?_eq_none_iff (l := fs.zip ms) (i := i)).mpr (by rw [List.length_zip]; omega)]
    rfl
  | some c =>
    have hi := (List.getElem?_eq_some_iff.mp e).1
    have g2 : ms[i]? = some (ms[i]'(by omega)) := List.getElem?_eq_getElem _
    have gg : (fs.zip ms)[i]? = some (c, ms[i]'(by omega)) := List.getElem?_zip_eq_some.mpr ⟨e, g2⟩
    rw [gg]
    show some (c, dueAt fs ms c) = _
    unfold dueAt
    rw [pos_at nd e, List.getD_eq_getElem?_getD, g2]
    rfl
theorem sort_due {fs : List (List Nat)} {ms : List Nat} (nd : fs.Nodup) (hl : fs.length = ms.length) : R1.sortK encNm (fs.zip ms) = (R1.sortK encT fs).map fun c => (c, dueAt fs ms c) := by
  have T : PySem.W.TotalLe (PySem.W.dataLe false encNm) := PySem.W.sortLe_total (listOrd itemOrd) false fun b => PySem.W.keyToks (encNm b)
  have T2 : PySem.W.TotalLe (PySem.W.dataLe false encT) := PySem.W.sortLe_total (listOrd itemOrd) false fun b => PySem.W.keyToks (encT b)
  have pm : (R1.sortK encT fs).Perm fs := List.mergeSort_perm fs _
  refine List.Perm.eq_of_pairwise (le := fun a b => PySem.W.dataLe false encNm a b = true) (fun a b _ _ h1 h2 => ?_) (PySem.W.sort_pairwise T (fs.zip ms)) ?_ ((List.mergeSort_perm (fs.zip ms) _).trans ?_)
  · have g1 : (!lexLt itemOrd (PySem.W.keyToks (encNm b)) (PySem.W.keyToks (encNm a))) = true := h1
    have g2 : (!lexLt itemOrd (PySem.W.keyToks (encNm a)) (PySem.W.keyToks (encNm b))) = true := h2
    exact encNm_ev a b (R1.toks_eq (encNm_alike a b) (lex_total _ _ (by simpa using g2) (by simpa using g1)))
  · rw [List.pairwise_map]
    have p1 : (R1.sortK encT fs).Pairwise (fun a b => PySem.W.dataLe false encT a b = true) := PySem.W.sort_pairwise T2 fs
    have p2 : (R1.sortK encT fs).Pairwise (fun a b => a ≠ b) := pm.nodup_iff.mpr nd
    refine (p1.and p2).imp fun {a b} ⟨h, ne⟩ => ?_
    have g : (!PySem.W.dataLt (encT b) (encT a)) = true := h
    have ev : PyData.eqv (.str ⟨b.toArray⟩) (.str ⟨a.toArray⟩) = false := by
      cases e : PyData.eqv (.str ⟨b.toArray⟩) (.str ⟨a.toArray⟩) with
      | false => rfl
      | true => exact absurd (encT_inj b a e) (Ne.symm ne)
    show (!PySem.W.dataLt (encNm (b, dueAt fs ms b)) (encNm (a, dueAt fs ms a))) = true
    unfold encNm
    rw [PySem.W.dataLt_pair (by simp [PySem.W.alike]) (by simp [PySem.W.alike]), ev, if_neg (by decide)]
    exact g
  · rw [← zip_due nd hl]
    exact pm.symm.map _
theorem renP_zip {g : List Nat → List Nat} {css fs : List (List Nat)} {ms : List Nat} (h : css.map g = fs) : renP g css ms = fs.zip ms := by
  unfold renP
  rw [← h, List.zip_map_left]
  rfl
theorem renL_due {g : List Nat → List Nat} {css fs : List (List Nat)} {ms : List Nat} (h : css.map g = fs) (nd : fs.Nodup) (hl : fs.length = ms.length) : renL g css ms = marksOf ((R1.sortK encT fs).map fun c => ((dueAt fs ms c : Nat) : Int)) := by
  unfold renL
  rw [renP_zip h, sort_due nd hl, List.map_map, List.map_map]
  rfl
/-- the new name of each, by the place -/
def gOf (css fs : List (List Nat)) (c : List Nat) : List Nat := fs.getD (pos css c) []
theorem gOf_map {css fs : List (List Nat)} (nd : css.Nodup) (hl : css.length = fs.length) : css.map (gOf css fs) = fs := by
  refine List.ext_getElem? fun i => ?_
  rw [List.getElem?_map]
  cases e : css[i]? with
  | none =>
    have h1 : css.length ≤ i := List.getElem?_eq_none_iff.mp e
    rw [(List.getElem?_eq_none_iff (l := fs) (i := i)).mpr (by omega)]
    rfl
  | some c =>
    have hi := (List.getElem?_eq_some_iff.mp e).1
    have g2 : fs[i]? = some (fs[i]'(by omega)) := List.getElem?_eq_getElem _
    rw [g2]
    show some (gOf css fs c) = _
    unfold gOf
    rw [pos_at nd e, List.getD_eq_getElem?_getD, g2]
    rfl
theorem gOf_val {css fs : List (List Nat)} {kvs : List (Key × V)} (nd : css.Nodup) (hl : css.length = fs.length) (h : ∀ (j : Nat) (c f : List Nat), css[j]? = some c → fs[j]? = some f → (valV kvs (kc c)).getD (tx c) = tx f) : ∀ c ∈ css, (valV kvs (kc c)).getD (tx c) = tx (gOf css fs c) := by
  intro c hc
  obtain ⟨i, e⟩ := List.mem_iff_getElem?.mp hc
  have hi := (List.getElem?_eq_some_iff.mp e).1
  have g2 : fs[i]? = some (fs[i]'(by omega)) := List.getElem?_eq_getElem _
  rw [h i c _ e g2]
  unfold gOf
  rw [pos_at nd e, List.getD_eq_getElem?_getD, g2]
  rfl
section
variable {K : PySem.W.Frag}
def WOk (ws : List (List Nat)) : Bool := PyData.canLayAll0 (ws.map fun c => PyData.str ⟨c.toArray⟩)
theorem row_lay {r : Row} (h : WOk r.2.2 = true) : (encRow r).canLay0 = true ∧ (encRow r).depth ≤ 5 := by
  refine ⟨?_, ?_⟩
  · unfold WOk at h
    unfold encRow
    simp only [PyData.canLay0, PyData.canLayAll0, PySem.W.ke_canLayAll0, h, Bool.and_true]
  · unfold encRow
    have h1 := depInts (ivals r.2.1)
    have h2 := depStrs r.2.2
    simp only [PyData.depth, PyData.depthAll]
    omega
theorem row_shaped {r : Row} (h : WOk r.2.2 = true) : SeqAt.shaped (encRow r) = true := by
  obtain ⟨h1, h2⟩ := row_lay h
  show (PyData.canLay0 (encRow r) && decide (PyData.depth (encRow r) ≤ 64)) = true
  rw [Bool.and_eq_true]
  exact ⟨h1, decide_eq_true (by omega)⟩
theorem rows_lay : ∀ {rs : List Row}, (∀ r ∈ rs, WOk r.2.2 = true) → PyData.canLayAll0 (rs.map encRow) = true ∧ PyData.depthAll (rs.map encRow) ≤ 5
  | [], _ => ⟨rfl, by simp [PyData.depthAll]⟩
  | k :: r, h => by
    obtain ⟨h1, h2⟩ := row_lay (h k (List.mem_cons_self ..))
    obtain ⟨h3, h4⟩ := rows_lay (rs := r) fun x hx => h x (List.mem_cons_of_mem _ hx)
    refine ⟨?_, ?_⟩
    · rw [List.map_cons, PyData.canLayAll0, h1, h3]; rfl
    · rw [List.map_cons, PyData.depthAll]
      exact Nat.max_le.mpr ⟨h2, h4⟩
theorem rows_shaped {rs : List Row} (h : ∀ r ∈ rs, WOk r.2.2 = true) : SeqAt.shaped (.list (rs.map encRow)) = true := by
  obtain ⟨h1, h2⟩ := rows_lay h
  have : PyData.depth (.list (rs.map encRow)) ≤ 64 := by simp only [PyData.depth]; omega
  show (PyData.canLay0 (.list (rs.map encRow)) && decide (PyData.depth (.list (rs.map encRow)) ≤ 64)) = true
  rw [Bool.and_eq_true]
  exact ⟨by simp only [PyData.canLay0]; exact h1, decide_eq_true this⟩
theorem strs_shaped {cs : List (List Nat)} (h : ∀ c ∈ cs, PyData.canLay0 (encT c) = true) : SeqAt.shaped (.list (cs.map encT)) = true := by
  have h1 : PyData.canLayAll0 (cs.map encT) = true := by
    induction cs with
    | nil => rfl
    | cons c r ih =>
      rw [List.map_cons, PyData.canLayAll0, h c (List.mem_cons_self ..), ih fun x hx => h x (List.mem_cons_of_mem _ hx)]; rfl
  have h2 : PyData.depthAll (cs.map encT) ≤ 1 := depStrs cs
  have : PyData.depth (.list (cs.map encT)) ≤ 64 := by simp only [PyData.depth]; omega
  show (PyData.canLay0 (.list (cs.map encT)) && decide (PyData.depth (.list (cs.map encT)) ≤ 64)) = true
  rw [Bool.and_eq_true]
  exact ⟨by simp only [PyData.canLay0]; exact h1, decide_eq_true this⟩
theorem str_shaped {c : List Nat} (h : PyData.canLay0 (encT c) = true) : SeqAt.shaped (encT c) = true := by
  show (PyData.canLay0 (encT c) && decide (PyData.depth (encT c) ≤ 64)) = true
  rw [Bool.and_eq_true]
  exact ⟨h, by simp [encT, PyData.depth]⟩
theorem sw_is : V.str (Str.ofString "w") = tx [119] := congrArg V.str (by decide +kernel)
theorem sa_is : V.str (Str.ofString "a") = tx [97] := congrArg V.str (by decide +kernel)
theorem any_rows (rs : List Row) (k : Row) : ((rs.map encRow).any fun z => PyData.eqv z (encRow k)) = decide (k ∈ rs) := by
  rw [Bool.eq_iff_iff, List.any_eq_true, decide_eq_true_eq]
  constructor
  · rintro ⟨z, hz, h⟩
    obtain ⟨j, hj, rfl⟩ := List.mem_map.mp hz
    rw [← encRow_inj j k h]; exact hj
  · intro h
    exact ⟨encRow k, List.mem_map.mpr ⟨k, h, rfl⟩, PySem.W.eqv_refl_alike _ (encRow_alike k k)⟩
theorem sm_row {H : Hp} {n : Nat} {x y : V} {r : Row} (h1 : IsRow K H x r) (h2 : IsRow K H y r) (l1 : r.2.1.length ≤ 50) (l2 : r.2.2.length ≤ 50) : Sm K (n + 4) H x y := by
  obtain ⟨p, c, m, t, rfl, a1, a2, a3, a4⟩ := h1
  obtain ⟨p', c', m', t', rfl, b1, b2, b3, b4⟩ := h2
  refine .tup a1 b1 rfl (by simp) fun i x y hx hy => ?_
  match i, hx, hy with
  | 0, hx, hy =>
    cases hx
    cases hy
    exact sm_isCell (n := n) (c := (r.1, r.2.1)) ⟨c, m, rfl, a2, a3⟩ ⟨c', m', rfl, b2, b3⟩ (by show r.2.1.length ≤ _; omega)
  | 1, hx, hy =>
    cases hx
    cases hy
    exact sm_strs (n := n + 1) a4 b4 (by omega)
  | i + 2, hx, hy => simp at hx
/-- the state of the loop over the rows -/
structure RD (H0 : Hp) (st sc p pn pd pf R M : Addr) : Prop where
  pst : p ≠ st
  nst : pn ≠ st
  dst : pd ≠ st
  fst : pf ≠ st
  rst : R ≠ st
  mst : M ≠ st
  rsc : R ≠ sc
  msc : M ≠ sc
  pR : p ≠ R
  nR : pn ≠ R
  dR : pd ≠ R
  fR : pf ≠ R
  pM : p ≠ M
  nM : pn ≠ M
  dM : pd ≠ M
  fM : pf ≠ M
  RM : R ≠ M
  r0 : H0 R = none
  m0 : H0 M = none
structure RR (K : PySem.W.Frag) (H0 H : Hp) (st sc p pn pd pf R M : Addr) (xs xr xm : List V) (n : Nat) (css fs : List (List Nat)) (kvs : List (Key × V)) (rs rm : List Row) : Prop where
  k : Kp st H0 H
  X : StaX H st sc
  hp : H p = some (.lst xs)
  hn : H pn = some (.lst (css.map tx))
  hd : H pd = some (.dK kvs)
  hf : H pf = some (.lst (fs.map tx))
  hR : H R = some (.lst xr)
  hM : H M = some (.lst xm)
  hA : R1.Al (IsCell K H) xs (cellsN n)
  bR : R1.Al (IsRow K H) xr rs
  bM : R1.Al (IsRow K H) xm rm
variable {H0 H H' : Hp} {st sc p pn pd pf R M : Addr} {xs xr xm : List V} {n : Nat} {css fs : List (List Nat)} {kvs : List (Key × V)} {rs rm : List Row}
theorem RR.same (r : RR K H0 H st sc p pn pd pf R M xs xr xm n css fs kvs rs rm) (s : Same H H') : RR K H0 H' st sc p pn pd pf R M xs xr xm n css fs kvs rs rm where
  k := r.k.trans (same_kp s)
  X := r.X.same s
  hp := s _ _ r.hp
  hn := s _ _ r.hn
  hd := s _ _ r.hd
  hf := s _ _ r.hf
  hR := s _ _ r.hR
  hM := s _ _ r.hM
  hA := r.hA.mono fun _ _ h => h.same s
  bR := r.bR.mono fun _ _ h => h.same s
  bM := r.bM.mono fun _ _ h => h.same s
theorem StaX.lst (X : StaX H st sc) : ∃ l, H st = some (.lst l) := by
  obtain ⟨ns, i, b, s, l, hne, hst, _⟩ := X
  exact ⟨_, hst⟩
theorem RR.draw (r : RR K H0 H st sc p pn pd pf R M xs xr xm n css fs kvs rs rm) (D : RD H0 st sc p pn pd pf R M) (k : Kp st H H') (X : StaX H' st sc) : RR K H0 H' st sc p pn pd pf R M xs xr xm n css fs kvs rs rm := by
  obtain ⟨l, hst⟩ := r.X.lst
  exact ⟨r.k.trans k, X, k _ _ D.pst r.hp, k _ _ D.nst r.hn, k _ _ D.dst r.hd, k _ _ D.fst r.hf, k _ _ D.rst r.hR, k _ _ D.mst r.hM, r.hA.mono fun _ _ h => h.kp k hst, r.bR.mono fun _ _ h => h.kp k hst, r.bM.mono fun _ _ h => h.kp k hst⟩
theorem RR.addR (r : RR K H0 H st sc p pn pd pf R M xs xr xm n css fs kvs rs rm) (D : RD H0 st sc p pn pd pf R M) {x : V} {w : Row} (h : IsRow K H x w) : RR K H0 (upd H R (.lst (xr ++ [x]))) st sc p pn pd pf R M xs (xr ++ [x]) xm n css fs kvs (rs ++ [w]) rm := by
  have k : Kp R H (upd H R (.lst (xr ++ [x]))) := (Kp.refl _ _).put
  exact ⟨fun b u hb e => by rw [upd_ne (ne_of_none e D.r0)]; exact r.k _ _ hb e, r.X.upd D.rst D.rsc, k _ _ D.pR r.hp, k _ _ D.nR r.hn, k _ _ D.dR r.hd, k _ _ D.fR r.hf, upd_same, k _ _ (Ne.symm D.RM) r.hM, r.hA.mono fun _ _ h => h.kp k r.hR, R1.Al.snoc (r.bR.mono fun _ _ h => h.kp k r.hR) (h.kp k r.hR), r.bM.mono fun _ _ h => h.kp k r.hR⟩
theorem RR.addM (r : RR K H0 H st sc p pn pd pf R M xs xr xm n css fs kvs rs rm) (D : RD H0 st sc p pn pd pf R M) {x : V} {w : Row} (h : IsRow K H x w) : RR K H0 (upd H M (.lst (xm ++ [x]))) st sc p pn pd pf R M xs xr (xm ++ [x]) n css fs kvs rs (rm ++ [w]) := by
  have k : Kp M H (upd H M (.lst (xm ++ [x]))) := (Kp.refl _ _).put
  exact ⟨fun b u hb e => by rw [upd_ne (ne_of_none e D.m0)]; exact r.k _ _ hb e, r.X.upd D.mst D.msc, k _ _ D.pM r.hp, k _ _ D.nM r.hn, k _ _ D.dM r.hd, k _ _ D.fM r.hf, k _ _ D.RM r.hR, upd_same, r.hA.mono fun _ _ h => h.kp k r.hM, r.bR.mono fun _ _ h => h.kp k r.hM, R1.Al.snoc (r.bM.mono fun _ _ h => h.kp k r.hM) (h.kp k r.hM)⟩
end
end K0


namespace K0
open PySem PySem.Spec PyProof.Rows L2
section
variable {P : Program} {w : World} {K : PySem.W.Frag} {mg : Str → Option Value} {base : Heap} {a : Ad}
theorem ok_renamedRight (T : Top K mg a) (G_l_draw : FnOk P w K mg base CX0 1 a.f_l_draw a.d_l_draw ["_law_state_here", "_law_many"] spDrawX) (G_l_alike : FnOk P w K mg base CX0 6 a.f_l_alike a.d_l_alike ["_law_actual", "_law_due"] (spAl (Sm K 6)))
    (G_l_cells : FnOk P w K mg base CX0 2 a.f_l_cells a.d_l_cells ["_law_count"] (spCellsL K)) (G_l_renaming : FnOk P w K mg base CX0 4 a.f_l_renaming a.d_l_renaming ["_law_state_here", "_law_count"] spRen)
    (G_l_marked : FnOk P w K mg base CX0 1 a.f_l_marked a.d_l_marked ["_law_keys"] (spMarkedL K fun _ x (k : Int) => x = V.int k)) (G_renamed_marks : FnOk P w K mg base CX0 2 a.f_renamed_marks a.d_renamed_marks ["names", "marks", "mapping"] (spRenM K)) (G_renamed_card : FnOk P w K mg base CX0 3 a.f_renamed_card a.d_renamed_card ["card", "names", "mapping"] (spRenC K)) : FnOk P w K mg base CX0 7 a.f_l_renamed_right a.d_l_renamed_right ["_law_state_here"] spRight := by
  refine T.F_l_renamed_right.ok sc_l_renamed_right (fun vs H Q E h => ?_) (fun cdv A outer s H vs Q E hr h => ?_)
  · obtain ⟨_, rfl, _⟩ := h
    rfl
  · obtain ⟨st, rfl, S, q⟩ := h
    refine ⟨_, (pss_cons (ps_set (i := 1) sc_l_renamed_right.nd rfl (.inl rfl) (pe_call G_l_draw (hr.mono (by decide)) (by rfl) T.m_l_draw T.F_l_draw.kp T.b_l_draw .nil pass0 (pa_cons (pv 0) (pa_cons pe_int pa_nil))))
    (pss_cons (ps_set (i := 2) sc_l_renamed_right.nd rfl (.inl rfl) (pe_call G_l_cells (hr.mono (by decide)) (by rfl) T.m_l_cells T.F_l_cells.kp T.b_l_cells .nil pass0 (pa_cons (pv 1) pa_nil)))
    (pss_cons (ps_asg (pe_call G_l_renaming (hr.mono (by decide)) (by rfl) T.m_l_renaming T.F_l_renaming.kp T.b_l_renaming .nil pass0 (pa_cons (pv 0) (pa_cons (pv 1) pa_nil))) (pg_lst rfl (pgs_cons (pg_name (i := 3) sc_l_renamed_right.nd rfl (.inl rfl)) (pgs_cons (pg_name (i := 4) sc_l_renamed_right.nd rfl (.inl rfl)) (pgs_cons (pg_name (i := 5) sc_l_renamed_right.nd rfl (.inr rfl)) pgs_nil)))))
    (pss_cons (ps_set (i := 6) sc_l_renamed_right.nd rfl (.inl rfl) (pe_lst pa_nil))
    (pss_cons (ps_set (i := 7) sc_l_renamed_right.nd rfl (.inl rfl) (pe_lst pa_nil))
    (pss_cons (ps_for PassesOwn.never rfl (pi_range1 (by rfl) T.z_range (pa_cons (pe_op op_sub pe_int (pe_call G_l_draw (hr.mono (by decide)) (by rfl) T.m_l_draw T.F_l_draw.kp T.b_l_draw .nil pass0 (pa_cons (pv 0) (pa_cons pe_int pa_nil)))) pa_nil)) (pg_name (i := 8) sc_l_renamed_right.nd rfl (.inl rfl))
      (pss_cons (ps_asg (pe_ix ix_seq (pv 2) (pe_call G_l_draw (hr.mono (by decide)) (by rfl) T.m_l_draw T.F_l_draw.kp T.b_l_draw .nil pass0 (pa_cons (pv 0) (pa_cons (pe_callB (CallR.or call_len_str call_len_seq) (by rfl) T.z_len (by decide +kernel) (pa_cons (pv 2) pa_nil)) pa_nil))) (fun _ _ => rfl)) (pg_tup rfl (pgs_cons (pg_name (i := 9) sc_l_renamed_right.nd rfl (.inl rfl)) (pgs_cons (pg_name (i := 10) sc_l_renamed_right.nd rfl (.inr rfl)) pgs_nil))))
      (pss_cons (ps_set (i := 11) sc_l_renamed_right.nd rfl (.inl rfl) (pe_ix ix_seq (pe_tup (pa_cons (pe_tup pa_nil) (pa_cons (pe_tup (pa_cons pe_str pa_nil)) (pa_cons (pe_tup (pa_cons pe_str (pa_cons pe_str pa_nil))) pa_nil)))) (pe_call G_l_draw (hr.mono (by decide)) (by rfl) T.m_l_draw T.F_l_draw.kp T.b_l_draw .nil pass0 (pa_cons (pv 0) (pa_cons pe_int pa_nil))) (fun _ _ => rfl)))
      (pss_cons (ps_set (i := 12) sc_l_renamed_right.nd rfl (.inl rfl) (pe_call G_l_marked (hr.mono (by decide)) (by rfl) T.m_l_marked T.F_l_marked.kp T.b_l_marked .nil pass0 (pa_cons (pe_lc (own := [("_law_name_here", 15)]) rfl sc_l_renamed_right.nd (pi_list (pe_callB (R0.cr_sortD hr.units) (by rfl) T.z_sorted (by decide +kernel) (pa_cons (pv 5) pa_nil))) (blkOk_by (own := [("_law_name_here", 15)]) (N := ["_law_state_here", "_law_count", "_law_cells_here", "_law_names", "_law_mapping", "_law_found", "_law_rows", "_law_moved", "_law_step", "_law_size", "_law_marks", "_law_words", "_law_due", "_law_handed", "_law_card", "_law_name_here"]) (sc := defScope s_l_renamed_right) (by decide +kernel)) (fun _ _ _ _ _ => (pg_name (i := 15) sc_l_renamed_right.nd rfl (.inl rfl))) (fun _ _ _ _ _ => pts_nil) (fun _ _ _ _ _ => (pe_ix (R1.ix_seqK (K := K) rfl) (pv 10) (R1.pe_bmK (K := K) rfl PySem.F.plainAttrs_list PySem.F.slot_list_index PySem.F.type_list_index (R1.mt_indexDK (K := K) rfl hr.units65) (pv 5) (pa_cons (pv 15) pa_nil)) (fun _ _ => rfl)))) pa_nil)))
      (pss_cons (ps_if (pt_not (pt_val (pe_call G_l_alike (hr.mono (by decide)) (by rfl) T.m_l_alike T.F_l_alike.kp T.b_l_alike .nil pass0 (pa_cons (pe_call G_renamed_marks (hr.mono (by decide)) (by rfl) T.m_renamed_marks T.F_renamed_marks.kp T.b_renamed_marks .nil pass0 (pa_cons (pe_callTy call_tuple_of (by rfl) T.z_tuple (by decide +kernel) (pa_cons (pv 3) pa_nil)) (pa_cons (pv 10) (pa_cons (pe_callTy R1.call_dict_of (by rfl) T.z_dict (by decide +kernel) (pa_cons (pv 4) pa_nil)) pa_nil)))) (pa_cons (pv 12) pa_nil)))))
        (pss_one (ps_ret pe_bl))
        pss_nil)
      (pss_one (ps_if (pt_cmpR (op_notInD hr.units65) (pe_tup (pa_cons (pe_tup (pa_cons (pv 9) (pa_cons (pv 10) pa_nil))) (pa_cons (pv 11) pa_nil))) (pv 6) rfl)
        (pss_cons (ps_expr (pe_bm PySem.F.plainAttrs_list PySem.F.slot_list_append PySem.F.type_list_append mt_append (pv 6) (pa_cons (pe_tup (pa_cons (pe_tup (pa_cons (pv 9) (pa_cons (pv 10) pa_nil))) (pa_cons (pv 11) pa_nil))) pa_nil)))
        (pss_one (ps_expr (pe_bm PySem.F.plainAttrs_list PySem.F.slot_list_append PySem.F.type_list_append mt_append (pv 7) (pa_cons (pe_tup (pa_cons (pe_tup (pa_cons (pv 9) (pa_cons (pv 12) pa_nil))) (pa_cons (pv 11) pa_nil))) pa_nil)))))
        pss_nil)))))))
    (pss_cons (ps_set (i := 13) sc_l_renamed_right.nd rfl (.inl rfl) (pe_callTy R1.call_dict_of (by rfl) T.z_dict (by decide +kernel) (pa_cons (pv 4) pa_nil)))
    (pss_cons (ps_for PassesOwn.never rfl (pi_tup (pe_tup (pa_cons (pe_tup (pa_cons pe_str pa_nil)) (pa_cons (pe_tup (pa_cons pe_str pa_nil)) (pa_cons (pe_tup (pa_cons pe_str (pa_cons pe_int pa_nil))) (pa_cons (pe_tup (pa_cons pe_str (pa_cons (pe_tup (pa_cons (pe_tup (pa_cons pe_str (pa_cons pe_int pa_nil))) (pa_cons (pe_tup (pa_cons pe_str (pa_cons pe_int pa_nil))) pa_nil))) pa_nil))) pa_nil)))))) (pg_name (i := 14) sc_l_renamed_right.nd rfl (.inl rfl))
      (pss_one (ps_if (pt_not (pt_val (pe_call G_l_alike (hr.mono (by decide)) (by rfl) T.m_l_alike T.F_l_alike.kp T.b_l_alike .nil pass0 (pa_cons (pe_call G_renamed_card (hr.mono (by decide)) (by rfl) T.m_renamed_card T.F_renamed_card.kp T.b_renamed_card .nil pass0 (pa_cons (pv 14) (pa_cons (pe_callTy call_tuple_of (by rfl) T.z_tuple (by decide +kernel) (pa_cons (pv 3) pa_nil)) (pa_cons (pv 13) pa_nil)))) (pa_cons (pv 14) pa_nil)))))
        (pss_one (ps_ret pe_bl))
        pss_nil)))
    (pss_cons (ps_set (i := 14) sc_l_renamed_right.nd rfl (.inl rfl) (pe_tup (pa_cons pe_str (pa_cons (pe_callTy call_tuple_of (by rfl) T.z_tuple (by decide +kernel) (pa_cons (pe_callB (R0.cr_sortD hr.units) (by rfl) T.z_sorted (by decide +kernel) (pa_cons (pv 6) pa_nil)) pa_nil)) pa_nil))))
    (pss_one (ps_ret (pe_and (pe_call G_l_alike (hr.mono (by decide)) (by rfl) T.m_l_alike T.F_l_alike.kp T.b_l_alike .nil pass0 (pa_cons (pe_call G_renamed_card (hr.mono (by decide)) (by rfl) T.m_renamed_card T.F_renamed_card.kp T.b_renamed_card .nil pass0 (pa_cons (pv 14) (pa_cons (pe_callTy call_tuple_of (by rfl) T.z_tuple (by decide +kernel) (pa_cons (pv 3) pa_nil)) (pa_cons (pv 13) pa_nil)))) (pa_cons (pe_tup (pa_cons pe_str (pa_cons (pe_callTy call_tuple_of (by rfl) T.z_tuple (by decide +kernel) (pa_cons (pe_callB (R0.cr_sortD hr.units) (by rfl) T.z_sorted (by decide +kernel) (pa_cons (pv 7) pa_nil)) pa_nil)) pa_nil))) pa_nil))) (pe_one (pe_cmpR (op_eq_dict (Nat.lt_of_succ_lt (hu_of hr))) (pv 13) (pv 4) (nomark _))))))))))))))), ?_⟩
    obtain ⟨sc0, X⟩ := S.x
    refine ⟨.ref st, rfl, st, sc0, 4, rfl, X, by decide, by decide, fun H1 v k1 X1 a1 b1 => ?_⟩
    obtain ⟨n, rfl⟩ : ∃ j : Nat, v = j := ⟨v.toNat, by omega⟩
    have hn : n ≤ 3 := by omega
    obtain ⟨b1, b2, b3⟩ := cells_facts n hn
    refine ⟨_, rfl, n, rfl, by omega, fun p xs H2 s2 np hp hA => ?_⟩
    refine ⟨.ref st, rfl, .int (n : Int), rfl, st, n, rfl, (X1.same s2).s, by omega, fun H3 p3 pn pd pf css fs kvs k3 S3 n3 nn nd nf h3 hpn hpd hpf cl fl cnd fnd knd kfl kg fok => ?_⟩
    refine ⟨p3, _, rfl, SqL.of h3, rfl, _, _, rfl, _, _, rfl, _, _, rfl, rfl, ?_⟩
    refine ⟨Nat.zero_le _, fun R nR => ⟨Nat.zero_le _, fun M nM => ?_⟩⟩
    obtain ⟨sc, X3⟩ := S3.x
    have tR := sn nR nM
    have tM := same_upd (o := .lst []) nM
    have nM3 : H3 M = none := tR.free nM
    have s34 := tR.trans tM
    have hR4 := tM _ _ (an nR nM)
    have hM4 : (upd (upd H3 R (.lst [])) M (.lst [])) M = _ := upd_same
    have dRM : R ≠ M := ne_of_none (an nR nM) nM
    obtain ⟨R1', R2'⟩ := X3.ne nR
    obtain ⟨M1', M2'⟩ := X3.ne nM3
    have pst : p ≠ st := (X1.ne np).1
    have hp3 := k3 _ _ pst hp
    have k03 := (k1.trans (same_kp s2)).trans k3
    obtain ⟨l2, hst2⟩ := (X1.same s2).lst
    have D : RD H st sc p pn pd pf R M := ⟨pst, nn, nd, nf, R1', M1', R2', M2', ne_of_none hp3 nR, ne_of_none hpn nR, ne_of_none hpd nR, ne_of_none hpf nR, ne_of_none hp3 nM3, ne_of_none hpn nM3, ne_of_none hpd nM3, ne_of_none hpf nM3, dRM, k03.free S nR R1', k03.free S nM3 M1'⟩
    have RR0 : RR K H (upd (upd H3 R (.lst [])) M (.lst [])) st sc p pn pd pf R M xs [] [] n css fs kvs [] [] := ⟨k03.trans (same_kp s34), X3.same s34, s34 _ _ hp3, s34 _ _ hpn, s34 _ _ hpd, s34 _ _ hpf, hR4, hM4, hA.mono fun x r h => (IsCell.kp k3 hst2 h).same s34, R1.Al.nil, R1.Al.nil⟩
    generalize upd (upd H3 R (.lst [])) M (.lst []) = H4 at RR0 ⊢
    obtain ⟨g, hg⟩ : ∃ g, g = gOf css fs := ⟨_, rfl⟩
    have gm : css.map g = fs := by rw [hg]; exact gOf_map cnd (by omega)
    have gv : ∀ c ∈ css, (valV kvs (kc c)).getD (tx c) = tx (g c) := by rw [hg]; exact gOf_val cnd (by omega) kg
    refine ⟨.ref st, rfl, st, sc, 4, rfl, RR0.X, by decide, by decide, fun H5 v5 k5 X5 a5 b5 => ⟨4, v5, rfl, rfl, ?_⟩⟩
    have RR5 := RR0.draw D k5 X5
    refine ⟨4 - v5, rfl, by omega, by omega, for_it walk_range (fun i σ' H' => ∃ y8 y9 y10 y11 y12 xr xm rs, σ' = [some (.ref st), some (.int (n : Int)), some (.ref p), some (.ref pn), some (.ref pd), some (.ref pf), some (.ref R), some (.ref M), y8, y9, y10, y11, y12, none, none, none] ∧ RR K H H' st sc p pn pd pf R M xs xr xm n css fs kvs rs (rs.map (renR g css)) ∧ rs.length ≤ i ∧ ∀ r ∈ rs, WOk r.2.2 = true ∧ r.2.1.length = n ∧ r.2.2.length ≤ 2) ⟨none, none, none, none, none, [], [], [], rfl, RR5, Nat.le_refl _, by simp⟩ (fun _ _ _ _ _ => trivial) ?_ ?_⟩
    · rintro i x σ' _ H6 hi ⟨y8, y9, y10, y11, y12, xr, xm, rs, rfl, RR6, lr, hr6⟩ ⟨rfl, rfl⟩
      have hi4 : i < 4 := by omega
      have lx : xs.length = (cellsN n).length := hA.1
      refine ⟨.ref p, rfl, .ref st, rfl, .ref p, rfl, .inr ⟨p, xs, rfl, .inl (SqL.of RR6.hp), st, sc, _, rfl, RR6.X, by omega, by omega, fun H7 v7 k7 X7 a7 b7 => ?_⟩⟩
      obtain ⟨j, rfl⟩ : ∃ j : Nat, v7 = j := ⟨v7.toNat, by omega⟩
      have RR7 := RR6.draw D k7 X7
      have hj : xs[j]? = some xs[j] := List.getElem?_eq_getElem (by omega)
      refine .inl ⟨p, xs, (j : Int), xs[j], rfl, rfl, SqL.of RR7.hp, atI_nat hj, ?_⟩
      obtain ⟨c, hc, pcl, bm, ec, hc1, hc2⟩ := RR7.hA.at hj
      rw [ec]
      obtain ⟨c1, c2, c3⟩ := b3 c (List.mem_of_getElem? hc)
      refine ⟨pcl, _, rfl, hc1, rfl, _, _, rfl, _, _, rfl, rfl, ?_⟩
      refine ⟨Nat.zero_le _, fun w0 nw0 => ⟨Nat.le_of_lt (small1000 (by simp)), fun w1 nw1 => ⟨Nat.le_of_lt (small1000 (by simp)), fun w2 nw2 => ⟨Nat.le_of_lt (small1000 (by simp)), fun wt nwt => ?_⟩⟩⟩⟩
      have tw0 := sn nw0 nw1
      have tw1 := sn nw1 nw2
      have tw2 := sn nw2 nwt
      have twt := same_upd (o := .tup [.ref w0, .ref w1, .ref w2]) nwt
      have f0 := twt _ _ (tw2 _ _ (tw1 _ _ (an nw0 nw1)))
      have f1 := twt _ _ (tw2 _ _ (an nw1 nw2))
      have f2 := twt _ _ (an nw2 nwt)
      have w0s := (X7.ne nw0).1
      have w1s := ((X7.same tw0).ne nw1).1
      have w2s := ((X7.same (tw0.trans tw1)).ne nw2).1
      have wts := ((X7.same ((tw0.trans tw1).trans tw2)).ne nwt).1
      have sW := ((tw0.trans tw1).trans tw2).trans twt
      have ft : (upd (upd (upd (upd H7 w0 (.tup [])) w1 (.tup [.str (Str.ofString "w")])) w2 (.tup [.str (Str.ofString "a"), .str (Str.ofString "w")])) wt (.tup [.ref w0, .ref w1, .ref w2])) wt = _ := upd_same
      have RR8 := RR7.same sW
      have hc1 := SameT sW hc1
      have hc2 := SameT sW hc2
      generalize upd (upd (upd (upd H7 w0 (.tup [])) w1 (.tup [.str (Str.ofString "w")])) w2 (.tup [.str (Str.ofString "a"), .str (Str.ofString "w")])) wt (.tup [.ref w0, .ref w1, .ref w2]) = H8 at f0 f1 f2 ft RR8 hc1 hc2 ⊢
      refine ⟨.ref st, rfl, st, sc, 3, rfl, RR8.X, by decide, by decide, fun H9 v9 k9 X9 a9 b9 => ?_⟩
      obtain ⟨j2, rfl⟩ : ∃ j : Nat, v9 = j := ⟨v9.toNat, by omega⟩
      have RR9 := RR8.draw D k9 X9
      have hc1 := SqT.kpS RR8.X.s k9 hc1
      have hc2 := SqT.kpS RR8.X.s k9 hc2
      obtain ⟨wa, ws, hwx, hwa, wok, wl⟩ : ∃ wa ws, ([.ref w0, .ref w1, .ref w2] : List V)[j2]? = some (.ref wa) ∧ H9 wa = some (.tup (ws.map tx)) ∧ WOk ws = true ∧ ws.length ≤ 2 := by
        rcases (by omega : j2 = 0 ∨ j2 = 1 ∨ j2 = 2) with rfl | rfl | rfl
        · exact ⟨w0, [], rfl, k9 _ _ w0s f0, rfl, by decide⟩
        · exact ⟨w1, [[119]], rfl, by rw [k9 _ _ w1s f1, sw_is]; rfl, by simp [WOk, PyData.canLayAll0, PyData.canLay0, PyData.strOk], by decide⟩
        · exact ⟨w2, [[97], [119]], rfl, by rw [k9 _ _ w2s f2, sw_is, sa_is]; rfl, by simp [WOk, PyData.canLayAll0, PyData.canLay0, PyData.strOk], by decide⟩
      refine .inr (.inl ⟨wt, _, (j2 : Int), .ref wa, rfl, rfl, SqT.of (k9 _ _ wts ft), atI_nat hwx, ?_⟩)
      refine ⟨.ref pf, rfl, ?_⟩
      dsimp only [tNil]
      refine sorted_strs (SqL.of RR9.hf) fun l nl => ?_
      have tl := same_upd (o := .lst ((R1.sortK encT fs).map tx)) nl
      have hl : (upd H9 l (.lst ((R1.sortK encT fs).map tx))) l = _ := upd_same
      have RR10 := RR9.same tl
      have hc1 := SameT tl hc1
      have hc2 := SameT tl hc2
      have hwa := tl _ _ hwa
      generalize upd H9 l (.lst ((R1.sortK encT fs).map tx)) = H10 at hl RR10 hc1 hc2 hwa ⊢
      obtain ⟨ds, hds⟩ : ∃ ds, ds = (R1.sortK encT fs).map fun z => ((dueAt fs c.2 z : Nat) : Int) := ⟨_, rfl⟩
      have lsf : (R1.sortK encT fs).length = n := by rw [R1.sortK_len]; exact fl
      have lds : ds.length = n := by rw [hds, List.length_map]; exact lsf
      refine ⟨l, rfl, ⟨_, SqL.of hl⟩, fun G nG => lc_it (walk_list (xs := (R1.sortK encT fs).map tx)) (fun u H2 => Same H10 H2 ∧ H2 G = some (.lst ((ds.take u).map V.int))) ⟨same_upd nG, upd_same⟩ (fun u H2 _ h => h.1.seq (SqL.of hl)) ?_ ?_⟩
      · rintro u x _ H2 hu ⟨sm2, hG⟩ ⟨rfl, hx⟩
        obtain ⟨z, hz⟩ : ∃ z, (R1.sortK encT fs)[u]? = some z := ⟨(R1.sortK encT fs)[u]'(by rw [List.length_map] at hu; omega), List.getElem?_eq_getElem _⟩
        obtain rfl : tx z = x := by rw [List.getElem?_map, hz] at hx; exact Option.some.inj hx
        have hzf : z ∈ fs := R1.sortK_sub (List.mem_of_getElem? hz)
        have gz := pos_get fs z hzf
        have hpz := (List.getElem?_eq_some_iff.mp gz).1
        refine ⟨rfl, _, rfl, .ref pf, rfl, .inl ⟨rfl, _, SqL.of (sm2 _ _ RR10.hf)⟩, _, rfl, pf, tx z, encT z, fs.map encT, pos fs z, encT z, rfl, rfl, .lst (SqL.of (sm2 _ _ RR10.hf)) (dp_strs fs), .str _, strs_shaped fok, str_shaped (fok z hzf), by rw [List.getElem?_map, gz]; rfl, PySem.W.eqv_refl_alike _ (encT_alike z z), ?_, ?_⟩
        · intro m z' hm hz'
          rw [List.getElem?_map] at hz'
          cases e : fs[m]? with
          | none => rw [e] at hz'; cases hz'
          | some y =>
            rw [e] at hz'
            cases hz'
            cases ev : PyData.eqv (encT y) (encT z) with
            | false => rfl
            | true => exact absurd (encT_inj _ _ ev) (pos_lt fs z m y hm e)
        · have hpm : pos fs z < c.2.length := by omega
          have gd : (nvals c.2)[pos fs z]? = some (.int ((dueAt fs c.2 z : Nat) : Int)) := by
            unfold nvals dueAt
            rw [List.getElem?_map, List.getD_eq_getElem?_getD, List.getElem?_eq_getElem hpm]
            rfl
          have hdu : ds[u]? = some ((dueAt fs c.2 z : Nat) : Int) := by
            rw [hds, List.getElem?_map, hz]; rfl
          have et : ds.take (u + 1) = ds.take u ++ [((dueAt fs c.2 z : Nat) : Int)] := by rw [List.take_add_one, hdu]; rfl
          refine .inr (.inl ⟨bm, _, _, .int ((dueAt fs c.2 z : Nat) : Int), rfl, rfl, SameT sm2 hc2, atI_nat gd, _, hG, small1000 (by rw [List.length_map, List.length_take]; omega), Same.mut sm2 nG, ?_⟩)
          rw [upd_same, et, List.map_append]
          rfl
      · rintro H2 ⟨sm2, hG⟩
        rw [List.length_map, lsf, ← lds, List.take_length] at hG
        refine ⟨G, _, ds, rfl, SqL.of hG, ⟨by simp, fun i x k hx hk => ?_⟩, by omega, fun rd H11 nrd s11 hrd => ?_⟩
        · rw [List.getElem?_map, hk] at hx
          exact (Option.some.inj hx).symm
        have s1011 := sm2.trans s11
        have RR11 := RR10.same s1011
        have hc1 := SameT s1011 hc1
        have hc2 := SameT s1011 hc2
        have hwa := s1011 _ _ hwa
        have edue : marksOf ds = renL g css c.2 := by rw [renL_due gm fnd (by omega), hds]
        rw [edue] at hrd
        refine ⟨.ref pn, rfl, pn, _, rfl, .inl ⟨SqL.of RR11.hn, fun t1 nt1 => ?_⟩⟩
        refine ⟨.ref bm, rfl, .ref pd, rfl, pd, kvs, rfl, (same_upd nt1) _ _ RR11.hd, fun d1 nd1 => ?_⟩
        have t1s := sn nt1 nd1
        have t2s := same_upd (o := .dK kvs) nd1
        have t12 := t1s.trans t2s
        refine ⟨t1, bm, d1, css, c.2, kvs, g, rfl, SqT.of (t2s _ _ (an nt1 nd1)), SameT t12 hc2, by omega, by omega, upd_same, gv, fun r2 H12 nr2 s12 hr2 => ?_⟩
        have s1112 := t12.trans s12
        have lren : (renL g css c.2).length = n := by rw [← edue]; unfold marksOf; simp; omega
        have hrd := s1112 _ _ hrd
        have RR12 := RR11.same s1112
        have hc1 := SameT s1112 hc1
        have hc2 := SameT s1112 hc2
        have hwa := s1112 _ _ hwa
        refine ⟨_, rfl, _, _, rfl, sm_nv (n := 4) hr2 hrd (by omega), true, rfl, iteF ?_⟩
        refine ⟨_, rfl, _, rfl, Nat.le_of_lt (small1000 (by simp)), fun q1 nq1 => ⟨_, rfl, Nat.le_of_lt (small1000 (by simp)), fun q2 nq2 => ?_⟩⟩
        have tq1 := sn nq1 nq2
        have tq2 := same_upd (o := .tup [.ref q1, .ref wa]) nq2
        have hq1 := tq2 _ _ (an nq1 nq2)
        have hq2 : (upd (upd H12 q1 (.tup [.int (c.1 : Int), .ref bm])) q2 (.tup [.ref q1, .ref wa])) q2 = _ := upd_same
        have sq := tq1.trans tq2
        have RR13 := RR12.same sq
        have hc2 := SameT sq hc2
        have hwa := sq _ _ hwa
        have hrd := sq _ _ hrd
        generalize upd (upd H12 q1 (.tup [.int (c.1 : Int), .ref bm])) q2 (.tup [.ref q1, .ref wa]) = H13 at hq1 hq2 RR13 hc2 hwa hrd ⊢
        have row : IsRow K H13 (.ref q2) (c.1, c.2, ws) := ⟨q2, q1, bm, wa, rfl, SqT.of hq2, SqT.of hq1, hc2, SqT.of hwa⟩
        refine ⟨.ref R, rfl, encRow (c.1, c.2, ws), rs.map encRow, row.dp, .lst (SqL.of RR13.hR) (dpRows RR13.bR.1 RR13.bR.2), row_shaped (r := (c.1, c.2, ws)) wok, rows_shaped fun r hr => (hr6 r hr).1, _, rfl, ?_⟩
        rw [any_rows]
        by_cases hm : (c.1, c.2, ws) ∈ rs
        · rw [decide_eq_true hm]
          exact iteF ⟨_, _, _, _, _, _, _, _, rfl, RR13, by omega, hr6⟩
        · rw [decide_eq_false hm]
          refine iteT ?_
          refine ⟨.ref R, rfl, .inl ⟨rfl, _, SqL.of RR13.hR⟩, _, rfl, _, rfl, Nat.le_of_lt (small1000 (by simp)), fun q3 nq3 => ⟨_, rfl, Nat.le_of_lt (small1000 (by simp)), fun q4 nq4 => ?_⟩⟩
          have tq3 := sn nq3 nq4
          have tq4 := same_upd (o := .tup [.ref q3, .ref wa]) nq4
          have hq3 := tq4 _ _ (an nq3 nq4)
          have hq4 : (upd (upd H13 q3 (.tup [.int (c.1 : Int), .ref bm])) q4 (.tup [.ref q3, .ref wa])) q4 = _ := upd_same
          have s34' := tq3.trans tq4
          have RR14 := RR13.same s34'
          have row2 : IsRow K (upd (upd H13 q3 (.tup [.int (c.1 : Int), .ref bm])) q4 (.tup [.ref q3, .ref wa])) (.ref q4) (c.1, c.2, ws) := ⟨q4, q3, bm, wa, rfl, SqT.of hq4, SqT.of hq3, SameT s34' hc2, SqT.of (s34' _ _ hwa)⟩
          have RR15 := RR14.addR D row2
          have lR := RR14.bR.1
          refine ⟨R, _, _, rfl, rfl, RR14.hR, small1000 (by omega), ?_⟩
          have kR : Kp R (upd (upd H13 q3 (.tup [.int (c.1 : Int), .ref bm])) q4 (.tup [.ref q3, .ref wa])) (upd (upd (upd H13 q3 (.tup [.int (c.1 : Int), .ref bm])) q4 (.tup [.ref q3, .ref wa])) R (.lst (xr ++ [.ref q4]))) := (Kp.refl _ _).put
          have hwa15 := kR _ _ (fun z => by rw [z, RR13.hR] at hwa; cases hwa) (s34' _ _ hwa)
          have hrd15 := kR _ _ (fun z => by rw [z, RR13.hR] at hrd; cases hrd) (s34' _ _ hrd)
          generalize upd (upd (upd H13 q3 (.tup [.int (c.1 : Int), .ref bm])) q4 (.tup [.ref q3, .ref wa])) R (.lst (xr ++ [.ref q4])) = H15 at RR15 hwa15 hrd15 ⊢
          refine ⟨.ref M, rfl, .inl ⟨rfl, _, SqL.of RR15.hM⟩, _, rfl, _, rfl, Nat.le_of_lt (small1000 (by simp)), fun q5 nq5 => ⟨_, rfl, Nat.le_of_lt (small1000 (by simp)), fun q6 nq6 => ?_⟩⟩
          have tq5 := sn nq5 nq6
          have tq6 := same_upd (o := .tup [.ref q5, .ref wa]) nq6
          have hq5 := tq6 _ _ (an nq5 nq6)
          have hq6 : (upd (upd H15 q5 (.tup [.int (c.1 : Int), .ref rd])) q6 (.tup [.ref q5, .ref wa])) q6 = _ := upd_same
          have s56 := tq5.trans tq6
          have RR16 := RR15.same s56
          have row3 : IsRow K (upd (upd H15 q5 (.tup [.int (c.1 : Int), .ref rd])) q6 (.tup [.ref q5, .ref wa])) (.ref q6) (renR g css (c.1, c.2, ws)) := ⟨q6, q5, rd, wa, rfl, SqT.of hq6, SqT.of hq5, SqT.of (s56 _ _ hrd15), SqT.of (s56 _ _ hwa15)⟩
          have RR17 := RR16.addM D row3
          have lM := RR16.bM.1
          rw [List.length_map] at lM
          refine ⟨M, _, _, rfl, rfl, RR16.hM, small1000 (by omega), ?_⟩
          refine ⟨_, _, _, _, _, _, _, rs ++ [(c.1, c.2, ws)], rfl, by rw [List.map_append]; exact RR17, by simp; omega, fun r hr => ?_⟩
          rcases List.mem_append.mp hr with hr | hr
          · exact hr6 r hr
          · rw [List.mem_singleton.mp hr]
            exact ⟨wok, c2, wl⟩
    · rintro σ' H6 ⟨y8, y9, y10, y11, y12, xr, xm, rs, rfl, RR6, lr, hr6⟩
      have lr4 : rs.length ≤ 4 := by omega
      refine ⟨.ref pd, rfl, pd, kvs, rfl, RR6.hd, fun Dh nDh => ?_⟩
      have tDh := same_upd (o := .dK kvs) nDh
      have hDh : (upd H6 Dh (.dK kvs)) Dh = _ := upd_same
      have RR7 := RR6.same tDh
      generalize upd H6 Dh (.dK kvs) = H7 at RR7 hDh ⊢
      have RRc := RR7
      refine ⟨Nat.le_of_lt (small1000 (by simp)), fun c1 n_c1 => ?_⟩
      have t_ := same_upd (o := .tup [.str (Str.ofString "below")]) n_c1
      have f_c1 : (upd H7 c1 (.tup [.str (Str.ofString "below")])) c1 = some (.tup [.str (Str.ofString "below")]) := upd_same
      have RRc := RRc.same t_
      have hDh := t_ _ _ hDh
      generalize upd H7 c1 (.tup [.str (Str.ofString "below")]) = Hc0 at f_c1 RRc hDh  ⊢
      refine ⟨Nat.le_of_lt (small1000 (by simp)), fun c2 n_c2 => ?_⟩
      have t_ := same_upd (o := .tup [.str (Str.ofString "terms")]) n_c2
      have f_c2 : (upd Hc0 c2 (.tup [.str (Str.ofString "terms")])) c2 = some (.tup [.str (Str.ofString "terms")]) := upd_same
      have f_c1 := t_ _ _ f_c1
      have RRc := RRc.same t_
      have hDh := t_ _ _ hDh
      generalize upd Hc0 c2 (.tup [.str (Str.ofString "terms")]) = Hc1 at f_c2 RRc hDh f_c1 ⊢
      refine ⟨Nat.le_of_lt (small1000 (by simp)), fun c3 n_c3 => ?_⟩
      have t_ := same_upd (o := .tup [.str (Str.ofString "ring"), .int 3]) n_c3
      have f_c3 : (upd Hc1 c3 (.tup [.str (Str.ofString "ring"), .int 3])) c3 = some (.tup [.str (Str.ofString "ring"), .int 3]) := upd_same
      have f_c1 := t_ _ _ f_c1
      have f_c2 := t_ _ _ f_c2
      have RRc := RRc.same t_
      have hDh := t_ _ _ hDh
      generalize upd Hc1 c3 (.tup [.str (Str.ofString "ring"), .int 3]) = Hc2 at f_c3 RRc hDh f_c1 f_c2 ⊢
      refine ⟨Nat.le_of_lt (small1000 (by simp)), fun e1 n_e1 => ?_⟩
      have t_ := same_upd (o := .tup [.str (Str.ofString "a"), .int 0]) n_e1
      have f_e1 : (upd Hc2 e1 (.tup [.str (Str.ofString "a"), .int 0])) e1 = some (.tup [.str (Str.ofString "a"), .int 0]) := upd_same
      have f_c1 := t_ _ _ f_c1
      have f_c2 := t_ _ _ f_c2
      have f_c3 := t_ _ _ f_c3
      have RRc := RRc.same t_
      have hDh := t_ _ _ hDh
      generalize upd Hc2 e1 (.tup [.str (Str.ofString "a"), .int 0]) = Hc3 at f_e1 RRc hDh f_c1 f_c2 f_c3 ⊢
      refine ⟨Nat.le_of_lt (small1000 (by simp)), fun e2 n_e2 => ?_⟩
      have t_ := same_upd (o := .tup [.str (Str.ofString "w"), .int 1]) n_e2
      have f_e2 : (upd Hc3 e2 (.tup [.str (Str.ofString "w"), .int 1])) e2 = some (.tup [.str (Str.ofString "w"), .int 1]) := upd_same
      have f_c1 := t_ _ _ f_c1
      have f_c2 := t_ _ _ f_c2
      have f_c3 := t_ _ _ f_c3
      have f_e1 := t_ _ _ f_e1
      have RRc := RRc.same t_
      have hDh := t_ _ _ hDh
      generalize upd Hc3 e2 (.tup [.str (Str.ofString "w"), .int 1]) = Hc4 at f_e2 RRc hDh f_c1 f_c2 f_c3 f_e1 ⊢
      refine ⟨Nat.le_of_lt (small1000 (by simp)), fun e3 n_e3 => ?_⟩
      have t_ := same_upd (o := .tup [.ref e1, .ref e2]) n_e3
      have f_e3 : (upd Hc4 e3 (.tup [.ref e1, .ref e2])) e3 = some (.tup [.ref e1, .ref e2]) := upd_same
      have f_c1 := t_ _ _ f_c1
      have f_c2 := t_ _ _ f_c2
      have f_c3 := t_ _ _ f_c3
      have f_e1 := t_ _ _ f_e1
      have f_e2 := t_ _ _ f_e2
      have RRc := RRc.same t_
      have hDh := t_ _ _ hDh
      generalize upd Hc4 e3 (.tup [.ref e1, .ref e2]) = Hc5 at f_e3 RRc hDh f_c1 f_c2 f_c3 f_e1 f_e2 ⊢
      refine ⟨Nat.le_of_lt (small1000 (by simp)), fun c4 n_c4 => ?_⟩
      have t_ := same_upd (o := .tup [.str (Str.ofString "kinds"), .ref e3]) n_c4
      have f_c4 : (upd Hc5 c4 (.tup [.str (Str.ofString "kinds"), .ref e3])) c4 = some (.tup [.str (Str.ofString "kinds"), .ref e3]) := upd_same
      have f_c1 := t_ _ _ f_c1
      have f_c2 := t_ _ _ f_c2
      have f_c3 := t_ _ _ f_c3
      have f_e1 := t_ _ _ f_e1
      have f_e2 := t_ _ _ f_e2
      have f_e3 := t_ _ _ f_e3
      have RRc := RRc.same t_
      have hDh := t_ _ _ hDh
      generalize upd Hc5 c4 (.tup [.str (Str.ofString "kinds"), .ref e3]) = Hc6 at f_c4 RRc hDh f_c1 f_c2 f_c3 f_e1 f_e2 f_e3 ⊢
      refine ⟨Nat.le_of_lt (small1000 (by simp)), fun ct n_ct => ?_⟩
      have t_ := same_upd (o := .tup [.ref c1, .ref c2, .ref c3, .ref c4]) n_ct
      have f_ct : (upd Hc6 ct (.tup [.ref c1, .ref c2, .ref c3, .ref c4])) ct = some (.tup [.ref c1, .ref c2, .ref c3, .ref c4]) := upd_same
      have f_c1 := t_ _ _ f_c1
      have f_c2 := t_ _ _ f_c2
      have f_c3 := t_ _ _ f_c3
      have f_e1 := t_ _ _ f_e1
      have f_e2 := t_ _ _ f_e2
      have f_e3 := t_ _ _ f_e3
      have f_c4 := t_ _ _ f_c4
      have RRc := RRc.same t_
      have hDh := t_ _ _ hDh
      generalize upd Hc6 ct (.tup [.ref c1, .ref c2, .ref c3, .ref c4]) = Hc7 at f_ct RRc hDh f_c1 f_c2 f_c3 f_e1 f_e2 f_e3 f_c4 ⊢
      have cards : ∀ x ∈ ([.ref c1, .ref c2, .ref c3, .ref c4] : List V), ∃ (ca : Addr) (s : Str) (r : List V), x = .ref ca ∧ Hc7 ca = some (.tup (.str s :: r)) ∧ s ≠ sRows ∧ ∀ H', Same Hc7 H' → Sm K 6 H' (.ref ca) (.ref ca) := by
        intro x hx
        simp only [List.mem_cons, List.not_mem_nil, or_false] at hx
        have pr : ∀ {n : Nat} {H' : Hp} {xs : List V}, (∀ y ∈ xs, Prim y) → ∀ y ∈ xs, Sm K (n + 1) H' y y := fun h y hy => sm_prim (h y hy)
        rcases hx with rfl | rfl | rfl | rfl
        · exact ⟨c1, _, _, rfl, f_c1, by decide +kernel, fun H' s => sm_selfT (SqT.of (s _ _ f_c1)) (by simp) (pr (by intro y hy; simp at hy; subst hy; trivial))⟩
        · exact ⟨c2, _, _, rfl, f_c2, by decide +kernel, fun H' s => sm_selfT (SqT.of (s _ _ f_c2)) (by simp) (pr (by intro y hy; simp at hy; subst hy; trivial))⟩
        · exact ⟨c3, _, _, rfl, f_c3, by decide +kernel, fun H' s => sm_selfT (SqT.of (s _ _ f_c3)) (by simp) (pr (by intro y hy; simp at hy; rcases hy with rfl | rfl <;> trivial))⟩
        · refine ⟨c4, _, _, rfl, f_c4, by decide +kernel, fun H' s => sm_selfT (SqT.of (s _ _ f_c4)) (by simp) fun y hy => ?_⟩
          simp only [List.mem_cons, List.not_mem_nil, or_false] at hy
          rcases hy with rfl | rfl
          · exact sm_prim trivial
          · refine sm_selfT (SqT.of (s _ _ f_e3)) (by simp) fun y hy => ?_
            simp only [List.mem_cons, List.not_mem_nil, or_false] at hy
            rcases hy with rfl | rfl
            · exact sm_selfT (SqT.of (s _ _ f_e1)) (by simp) (pr (by intro y hy; simp at hy; rcases hy with rfl | rfl <;> trivial))
            · exact sm_selfT (SqT.of (s _ _ f_e2)) (by simp) (pr (by intro y hy; simp at hy; rcases hy with rfl | rfl <;> trivial))
      refine ⟨ct, rfl, ⟨_, SqT.of f_ct⟩, for_it (walk_tup (xs := [.ref c1, .ref c2, .ref c3, .ref c4])) (fun u σ' H' => ∃ y14, σ' = [some (.ref st), some (.int (n : Int)), some (.ref p), some (.ref pn), some (.ref pd), some (.ref pf), some (.ref R), some (.ref M), y8, y9, y10, y11, y12, some (.ref Dh), y14, none] ∧ Same Hc7 H') ⟨none, rfl, Same.refl _⟩ ?_ ?_ ?_⟩
      · rintro u σ' H' _ ⟨_, _, sm⟩
        exact SameT sm (SqT.of f_ct)
      · rintro u x σ' _ H' hu ⟨y14, rfl, sm⟩ ⟨rfl, hx⟩
        obtain ⟨ca, s, r, rfl, hca, hs, hsm⟩ := cards x (List.mem_of_getElem? hx)
        have RR8 := RRc.same sm
        refine ⟨_, rfl, .ref pn, rfl, pn, _, rfl, .inl ⟨SqL.of RR8.hn, fun t1 nt1 => ?_⟩⟩
        have tt := same_upd (o := .tup (css.map tx)) nt1
        refine ⟨.ref Dh, rfl, ca, t1, Dh, rfl, .inl ⟨s, r, SqT.of (tt _ _ (sm _ _ hca)), hs, ?_⟩⟩
        exact ⟨_, rfl, _, _, rfl, hsm _ (sm.trans tt), true, rfl, iteF ⟨_, rfl, sm.trans tt⟩⟩
      · rintro σ' H8 ⟨y14, rfl, sm⟩
        have RR8 := RRc.same sm
        have hDh := sm _ _ hDh
        refine ⟨.ref R, rfl, ?_⟩
        dsimp only [tNil]
        have lrs : ∀ r ∈ R1.sortK encRow rs, css.length = r.2.1.length := fun r hr => by
          have := (hr6 r (R1.sortK_sub hr)).2.1
          omega
        refine sorted_rows (SqL.of RR8.hR) RR8.bR fun l H9 nl s9 hl hAl => ⟨l, _, rfl, .inl ⟨SqL.of hl, fun t nt => ⟨Nat.le_of_lt (small1000 (by simp)), fun cd ncd => ?_⟩⟩⟩
        have tt := sn nt ncd
        have tc := same_upd (o := .tup [.str sRows, .ref t]) ncd
        have ht := tc _ _ (an nt ncd)
        have hcd : (upd (upd H9 t (.tup (R0.sortV xr (rs.map encRow)))) cd (.tup [.str sRows, .ref t])) cd = _ := upd_same
        have s_ := s9.trans (tt.trans tc)
        have hAl := hAl.mono fun x r h => h.same (tt.trans tc)
        have RR9 := RR8.same s_
        have hDh := s_ _ _ hDh
        generalize upd (upd H9 t (.tup (R0.sortV xr (rs.map encRow)))) cd (.tup [.str sRows, .ref t]) = H10 at ht hcd hAl RR9 hDh ⊢
        refine ⟨_, rfl, .ref pn, rfl, pn, _, rfl, .inl ⟨SqL.of RR9.hn, fun t1 nt1 => ?_⟩⟩
        have t1s := same_upd (o := .tup (css.map tx)) nt1
        refine ⟨.ref Dh, rfl, cd, t1, Dh, rfl, .inr ⟨t, _, R1.sortK encRow rs, css, kvs, g, SqT.of (t1s _ _ hcd), SqT.of (t1s _ _ ht), hAl.mono fun x r h => h.same t1s, by rw [R1.sortK_len]; omega, SqT.of upd_same, lrs, by omega, t1s _ _ hDh, gv, fun pz tz ys H11 npz sz hpz htz hAz => ?_⟩⟩
        have s1011 := t1s.trans sz
        have RR11 := RR9.same s1011
        refine ⟨.ref M, rfl, ?_⟩
        dsimp only [tNil]
        refine sorted_rows (SqL.of RR11.hM) RR11.bM fun l2 H12 nl2 s12 hl2 hA2 => ⟨l2, _, rfl, .inl ⟨SqL.of hl2, fun t2 nt2 => ⟨Nat.le_of_lt (small1000 (by simp)), fun p2 np2 => ?_⟩⟩⟩
        have tt2 := sn nt2 np2
        have tp2 := same_upd (o := .tup [.str sRows, .ref t2]) np2
        have s13 := tt2.trans tp2
        have s1113 := s12.trans s13
        rw [R1.sortK_map encRow_alike encRow_inj] at hAz
        have lz : (R1.sortK encRow (rs.map (renR g css))).length ≤ 4 := by rw [R1.sortK_len, List.length_map]; exact lr4
        have RRz := RR11.same s1113
        refine ⟨_, _, rfl, .tup (SqT.of (s1113 _ _ hpz)) (SqT.of upd_same) rfl (by simp) fun i x y hx hy => ?_, true, rfl, iteT ?_⟩
        · match i, hx, hy with
          | 0, hx, hy => cases hx; cases hy; exact .str _
          | 1, hx, hy =>
            cases hx
            cases hy
            refine .tup (SqT.of (s1113 _ _ htz)) (SqT.of (tp2 _ _ (an nt2 np2))) (by rw [hAz.1, hA2.1]) (by rw [hAz.1]; omega) fun j x y hx hy => ?_
            obtain ⟨r, hr, h1⟩ := hAz.at hx
            obtain ⟨r', hr', h2⟩ := hA2.at hy
            obtain rfl : r = r' := Option.some.inj (hr.symm.trans hr')
            have hrm := R1.sortK_sub (List.mem_of_getElem? hr)
            obtain ⟨r0, hr0, e0⟩ := List.mem_map.mp hrm
            obtain ⟨g1, g2, g3⟩ := hr6 r0 hr0
            refine sm_row (n := 0) (h1.same s1113) (h2.same s13) ?_ ?_
            · rw [← e0]
              show (renL g css r0.2.1).length ≤ 50
              rw [renL_due gm fnd (by omega)]
              unfold marksOf
              rw [List.length_map, List.length_map, R1.sortK_len]
              omega
            · rw [← e0]
              show r0.2.2.length ≤ 50
              omega
          | i + 2, hx, hy => simp at hx
        · exact ⟨.ref Dh, rfl, .ref pd, rfl, Dh, pd, kvs, rfl, rfl, (s1011.trans s1113) _ _ hDh, RRz.hd, knd, kfl, q _ RRz.k RRz.X.s⟩
end
end K0


namespace K0
open PySem PySem.Spec PyProof.Rows L2
section
variable {P : Program} {w : World} {K : PySem.W.Frag} {mg : Str → Option Value} {base : Heap} {a : Ad} {fN fC : Addr} {dN dC : FuncData}
theorem kdT2 {κ : Type} [DecidableEq κ] {R S : Hp → V → κ → Prop} (h : ∀ H x k, R H x k → S H x k) : ∀ vs H Q E, spMarkedL K R vs H Q E → spMarkedL K S vs H Q E :=
  fun _ _ _ _ ⟨p, xs, ks, e, hS, hA, r⟩ => ⟨p, xs, ks, e, hS, hA.mono fun _ _ h' => h _ _ _ h', r⟩
def spLaw (K : PySem.W.Frag) : Sp := fun vs H Q _ => ∃ (p : Addr) (ns : List Int), vs = [.ref p] ∧ SqL K H p (ns.map V.int) ∧ ∀ H', Q (.bl true) H'
theorem ok_law (T : Top K mg a) (EN : ErX K a.c_BadName a.c_LookerError a.c_BadCell fN dN "BadName.__init__" initN) (EC : ErX K a.c_BadCell a.c_LookerError a.c_BadName fC dC "BadCell.__init__" initC) : FnOk P w K mg base CX0 8 a.f_law a.d_law ["_law_script"] (spLaw K) := by
  have G_l_state := ok_state (P := P) (w := w) (base := base) T
  have gD := ok_draw (P := P) (w := w) (base := base) T
  have gX := ok_drawX (P := P) (w := w) (base := base) T
  have gW := ok_wide (P := P) (w := w) (base := base) T
  have G_l_alike := ok_alike (P := P) (w := w) (base := base) T 6
  have gInt := ok_is_int (P := P) (w := w) (base := base) T
  have gMK := ok_markK (P := P) (w := w) (base := base) T
  have gMT := ok_markT (P := P) (w := w) (base := base) T
  have gmI := markG_key (f := fun k : Int => (Sum.inl k : Key)) (fun x y h => Sum.inl.inj h) gMK
  have gmS := markG_key (f := fun k : SK => (Sum.inr k.1 : Key)) (fun x y h => Subtype.ext (Sum.inr.inj h)) gMK
  have gmT := markG_tup gMT
  have gMk : FnOk P w K mg base CX0 1 a.f_marked a.d_marked ["keys"] (SpMk K) := R1.fn_or (R1.fn_or gmI gmS) gmT
  have glI := ok_markedL (P := P) (w := w) (base := base) T (kdI (K := K))
  have glS := ok_markedL (P := P) (w := w) (base := base) T (kdS (K := K))
  have glT := (ok_markedL (P := P) (w := w) (base := base) T (kdT (K := K))).imp (sp' := spMarkedL K IsTupD) (kdT2 fun H x k ⟨b, e, h⟩ => ⟨b, e, SqT.of h⟩)
  have gLw : FnOk P w K mg base CX0 1 a.f_l_marked a.d_l_marked ["_law_keys"] (SpLw K) := R1.fn_or (R1.fn_or glI glS) glT
  have gBlk := ok_blk (P := P) (w := w) (base := base) T
  have gPts := ok_parts (P := P) (w := w) (base := base) T gBlk
  have gCls := ok_cells (P := P) (w := w) (base := base) T gBlk gPts
  have gPtL := ok_partsL (P := P) (w := w) (base := base) T
  have gClL := ok_cellsL (P := P) (w := w) (base := base) T gPtL
  have gIsP := ok_isPart (P := P) (w := w) (base := base) T gInt gMK
  have gIsC := ok_isCell (P := P) (w := w) (base := base) T gInt gBlk gIsP
  have gChC := ok_checkCell (P := P) (w := w) (base := base) T EC gIsC
  have gCeE := ok_cellErr (P := P) (w := w) (base := base) T EC gChC
  have gIsN := ok_isName (P := P) (w := w) (base := base) T
  have gAsc := ok_asc (P := P) (w := w) (base := base) T
  have gChN := ok_checkNames (P := P) (w := w) (base := base) T EN gIsN gAsc
  have gNaE := ok_namesErr (P := P) (w := w) (base := base) T EN gChN
  have gTup := ok_tuples (P := P) (w := w) (base := base) T
  have gNam := ok_name (P := P) (w := w) (base := base) T gD
  have gPrs := ok_pairs (P := P) (w := w) (base := base) T
  have gRnM := ok_renM (P := P) (w := w) (base := base) T gmI
  have gMee := ok_meet (P := P) (w := w) (base := base) T gmT
  have gRnC := ok_renC (P := P) (w := w) (base := base) T gRnM
  have gSty := ok_styled (P := P) (w := w) (base := base) T gD gW
  have gNoN := ok_noName (P := P) (w := w) (base := base) T gD gNam
  have gBen := ok_bent (P := P) (w := w) (base := base) T gD gSty gNoN
  have gNoC := ok_noCell (P := P) (w := w) (base := base) T gD
  have gRen := ok_renaming (P := P) (w := w) (base := base) T gX gSty
  have G_l_names_right := ok_namesRight (P := P) (w := w) (base := base) T gD G_l_alike gIsN gNam gNoN gSty gBen gNaE gPrs
  have G_l_marks_right := ok_marksRight (P := P) (w := w) (base := base) T gX G_l_alike gMk gLw
  have G_l_partitions_right := ok_partsRight (P := P) (w := w) (base := base) T gD G_l_alike gPtL gPts gBlk glT gMee
  have G_l_cells_right := ok_cellsRight (P := P) (w := w) (base := base) T gD G_l_alike gClL gCls gTup gCeE gNoC
  have G_l_renamed_right := ok_renamedRight (P := P) (w := w) (base := base) T gX G_l_alike gClL gRen glI gRnM gRnC
  refine T.F_law.ok sc_law (fun vs H Q E h => ?_) (fun cdv A outer s H vs Q E hr h => ?_)
  · obtain ⟨p, ns, rfl, _⟩ := h
    rfl
  · obtain ⟨p, ns, rfl, hS, q⟩ := h
    obtain ⟨t1, hm1⟩ := T.m_MOST_NAMES
    obtain ⟨t2, hm2⟩ := T.m_ENDLESS
    refine ⟨_, (pss_cons (ps_set (i := 1) sc_law.nd rfl (.inl rfl) (pe_call G_l_state (hr.mono (by decide)) (by rfl) T.m_l_state T.F_l_state.kp T.b_l_state .nil pass0 (pa_cons (pv 0) pa_nil)))
    (pss_cons (ps_if (PW.pt (pw_or (pt_not (pt_val (pe_call G_l_alike (hr.mono (by decide)) (by rfl) T.m_l_alike T.F_l_alike.kp T.b_l_alike .nil pass0 (pa_cons (pe_glob (by rfl) hm1 (show RelV (.int 3) _ from ⟨_, rfl⟩)) (pa_cons pe_int pa_nil))))) (pw_or1 (pt_not (pt_val (pe_call G_l_alike (hr.mono (by decide)) (by rfl) T.m_l_alike T.F_l_alike.kp T.b_l_alike .nil pass0 (pa_cons (pe_glob (by rfl) hm2 (show RelV (.int 3) _ from ⟨_, rfl⟩)) (pa_cons pe_int pa_nil))))))))
      (pss_one (ps_ret pe_bl))
      pss_nil)
    (pss_cons (ps_if (PW.pt (pw_or (pt_not (pt_val (pe_call G_l_cells_right (hr.mono (by decide)) (by rfl) T.m_l_cells_right T.F_l_cells_right.kp T.b_l_cells_right .nil pass0 (pa_cons (pv 1) pa_nil)))) (pw_or (pt_not (pt_val (pe_call G_l_names_right (hr.mono (by decide)) (by rfl) T.m_l_names_right T.F_l_names_right.kp T.b_l_names_right .nil pass0 (pa_cons (pv 1) pa_nil)))) (pw_or1 (pt_not (pt_val (pe_call G_l_marks_right (hr.mono (by decide)) (by rfl) T.m_l_marks_right T.F_l_marks_right.kp T.b_l_marks_right .nil pass0 (pa_cons (pv 1) pa_nil))))))))
      (pss_one (ps_ret pe_bl))
      pss_nil)
    (pss_one (ps_ret (pe_and (pe_call G_l_partitions_right (hr.mono (by decide)) (by rfl) T.m_l_partitions_right T.F_l_partitions_right.kp T.b_l_partitions_right .nil pass0 (pa_cons (pv 1) pa_nil)) (pe_one (pe_call G_l_renamed_right (hr.mono (by decide)) (by rfl) T.m_l_renamed_right T.F_l_renamed_right.kp T.b_l_renamed_right .nil pass0 (pa_cons (pv 1) pa_nil))))))))), ?_⟩
    refine ⟨_, rfl, p, ns, rfl, hS, fun H1 st nst s1 S1 => ?_⟩
    refine ⟨_, _, rfl, .int 3, true, rfl, iteF ⟨_, _, rfl, .int 3, true, rfl, iteF ?_⟩⟩
    refine ⟨.ref st, rfl, st, rfl, S1, fun H2 k2 S2 => ⟨true, rfl, iteF ⟨.ref st, rfl, st, rfl, S2, fun H3 k3 S3 => ⟨true, rfl, iteF ⟨.ref st, rfl, st, rfl, S3, fun H4 k4 S4 => ⟨true, rfl, iteF ?_⟩⟩⟩⟩⟩⟩
    exact ⟨.ref st, rfl, st, rfl, S4, fun H5 k5 S5 => ⟨true, rfl, iteT ⟨.ref st, rfl, st, rfl, S5, fun H6 _ _ => q _⟩⟩⟩
end
end K0

namespace K0
open PySem PySem.Spec PyProof.Rows L2
abbrev init_BadName := initN
abbrev init_BadCell := initC
theorem kit_sub {K : PySem.W.Frag} {C L : Addr} {b : Bool} (h1 : PySem.W.isClsIn K L = true) (h2 : PySem.W.typeIn K (.ref L) = some (.type "type")) (h3 : PySem.W.subIn K (.ref C) (.ref L) = some b) : PySem.W.kitCls K (.ref C) (.ref L) = some b := by
  unfold PySem.W.kitCls
  have h1' : (PySem.W.clsIn K L).isSome = true := h1
  simp only [h1', h2, beq_self_eq_true, Bool.and_self, if_true]
  exact h3
theorem kit_one {K : PySem.W.Frag} {t c : Value} (h : PySem.W.kitCls K t c = some true) : PySem.W.kitOne K t c = some true := by
  unfold PySem.W.kitOne
  split
  · rfl
  · exact h
theorem kit_no {K : PySem.W.Frag} {C O : Addr} (s : PySem.W.subIn K (.ref C) (.ref C) = some true) (h : PySem.W.kitCls K (.ref C) (.ref O) = some false) (n : PySem.W.subIn K (.ref C) (.ref O) = some false) : PySem.W.kitOne K (.ref C) (.ref O) = some false := by
  unfold PySem.W.kitOne
  split
  · rename_i e
    have e2 : Value.ref C = Value.ref O := by simpa using e
    rw [← e2, s] at n
    cases n
  · exact h
theorem kit_ve {C : Addr} : PySem.HandSPX.refsVE [.ref C, .type "ValueError", .type "Exception", .type "BaseException", .type "object"] = true := by
  show PySem.HandSPX.refsVE [.type "ValueError", .type "Exception", .type "BaseException", .type "object"] = true
  decide +kernel
section
theorem all_mk {l : PySem.W.OpenLaw} {w : World} {K : PySem.W.Frag} {h : Heap} {mg : Str → Option Value} {fa : Addr} (X : K.In h) (G : h.Ns mainGlobals mg) (hfa : mg "law" = some (.ref fa))
    {f1 f2 f3 f4 f5 f6 f7 f8 f9 f10 f11 f12 f13 f14 f15 f16 f17 f18 f19 f20 f21 f22 f23 f24 f25 f26 f27 f28 f29 f30 f31 f32 f33 f34 f35 f36 f37 f38 f39 C_LookerError C_BadName C_BadCell : Addr}
    {od1 an1 od2 an2 od3 an3 od4 an4 od5 an5 od6 an6 od7 an7 od8 an8 od9 an9 od10 an10 od11 an11 od12 an12 od13 an13 od14 an14 od15 an15 od16 an16 od17 an17 od18 an18 od19 an19 od20 an20 od21 an21 od22 an22 od23 an23 od24 an24 od25 an25 od26 an26 od27 an27 od28 an28 od29 an29 od30 an30 od31 an31 od32 an32 od33 an33 od34 an34 od35 an35 od36 an36 od37 an37 od38 an38 od39 an39 : Option Addr} {sl1 sl2 sl3 sl4 sl5 sl6 sl7 sl8 sl9 sl10 sl11 sl12 sl13 sl14 sl15 sl16 sl17 sl18 sl19 sl20 sl21 sl22 sl23 sl24 sl25 sl26 sl27 sl28 sl29 sl30 sl31 sl32 sl33 sl34 sl35 sl36 sl37 sl38 sl39 : Array (Option Value)} {oc1 kV1 dc1 pm1 cd1 ct1 oc2 kV2 dc2 pm2 cd2 ct2 oc3 kV3 dc3 pm3 cd3 ct3 oc4 kV4 dc4 pm4 cd4 ct4 oc5 kV5 dc5 pm5 cd5 ct5 oc6 kV6 dc6 pm6 cd6 ct6 oc7 kV7 dc7 pm7 cd7 ct7 oc8 kV8 dc8 pm8 cd8 ct8 oc9 kV9 dc9 pm9 cd9 ct9 oc10 kV10 dc10 pm10 cd10 ct10 oc11 kV11 dc11 pm11 cd11 ct11 oc12 kV12 dc12 pm12 cd12 ct12 oc13 kV13 dc13 pm13 cd13 ct13 oc14 kV14 dc14 pm14 cd14 ct14 oc15 kV15 dc15 pm15 cd15 ct15 oc16 kV16 dc16 pm16 cd16 ct16 oc17 kV17 dc17 pm17 cd17 ct17 oc18 kV18 dc18 pm18 cd18 ct18 oc19 kV19 dc19 pm19 cd19 ct19 oc20 kV20 dc20 pm20 cd20 ct20 oc21 kV21 dc21 pm21 cd21 ct21 oc22 kV22 dc22 pm22 cd22 ct22 oc23 kV23 dc23 pm23 cd23 ct23 oc24 kV24 dc24 pm24 cd24 ct24 oc25 kV25 dc25 pm25 cd25 ct25 oc26 kV26 dc26 pm26 cd26 ct26 oc27 kV27 dc27 pm27 cd27 ct27 oc28 kV28 dc28 pm28 cd28 ct28 oc29 kV29 dc29 pm29 cd29 ct29 oc30 kV30 dc30 pm30 cd30 ct30 oc31 kV31 dc31 pm31 cd31 ct31 oc32 kV32 dc32 pm32 cd32 ct32 oc33 kV33 dc33 pm33 cd33 ct33 oc34 kV34 dc34 pm34 cd34 ct34 oc35 kV35 dc35 pm35 cd35 ct35 oc36 kV36 dc36 pm36 cd36 ct36 oc37 kV37 dc37 pm37 cd37 ct37 oc38 kV38 dc38 pm38 cd38 ct38 oc39 kV39 dc39 pm39 cd39 ct39 : Value}
    (a1 : PySem.W.nsIn K mainGlobals "is_int" = some (some (.ref f1)))
    (l1 : K.lookup f1 = some ⟨oc1, od1, .func (PySem.W.fnOf "is_int" "is_int" (defArgs s_is_int) (defBody s_is_int) (defScope s_is_int) .none kV1 dc1 pm1 an1 cd1 ct1), sl1⟩)
    (c1 : PySem.W.codeIn K cd1 "is_int" = true)
    (k1 : PySem.W.keepIn K (.ref f1) = true)
    (a2 : PySem.W.nsIn K mainGlobals "is_ascending" = some (some (.ref f2)))
    (l2 : K.lookup f2 = some ⟨oc2, od2, .func (PySem.W.fnOf "is_ascending" "is_ascending" (defArgs s_is_ascending) (defBody s_is_ascending) (defScope s_is_ascending) .none kV2 dc2 pm2 an2 cd2 ct2), sl2⟩)
    (c2 : PySem.W.codeIn K cd2 "is_ascending" = true)
    (k2 : PySem.W.keepIn K (.ref f2) = true)
    (a3 : PySem.W.nsIn K mainGlobals "is_name" = some (some (.ref f3)))
    (l3 : K.lookup f3 = some ⟨oc3, od3, .func (PySem.W.fnOf "is_name" "is_name" (defArgs s_is_name) (defBody s_is_name) (defScope s_is_name) .none kV3 dc3 pm3 an3 cd3 ct3), sl3⟩)
    (c3 : PySem.W.codeIn K cd3 "is_name" = true)
    (k3 : PySem.W.keepIn K (.ref f3) = true)
    (a4 : PySem.W.nsIn K mainGlobals "check_names" = some (some (.ref f4)))
    (l4 : K.lookup f4 = some ⟨oc4, od4, .func (PySem.W.fnOf "check_names" "check_names" (defArgs s_check_names) (defBody s_check_names) (defScope s_check_names) .none kV4 dc4 pm4 an4 cd4 ct4), sl4⟩)
    (c4 : PySem.W.codeIn K cd4 "check_names" = true)
    (k4 : PySem.W.keepIn K (.ref f4) = true)
    (a5 : PySem.W.nsIn K mainGlobals "pairs" = some (some (.ref f5)))
    (l5 : K.lookup f5 = some ⟨oc5, od5, .func (PySem.W.fnOf "pairs" "pairs" (defArgs s_pairs) (defBody s_pairs) (defScope s_pairs) .none kV5 dc5 pm5 an5 cd5 ct5), sl5⟩)
    (c5 : PySem.W.codeIn K cd5 "pairs" = true)
    (k5 : PySem.W.keepIn K (.ref f5) = true)
    (a6 : PySem.W.nsIn K mainGlobals "marked" = some (some (.ref f6)))
    (l6 : K.lookup f6 = some ⟨oc6, od6, .func (PySem.W.fnOf "marked" "marked" (defArgs s_marked) (defBody s_marked) (defScope s_marked) .none kV6 dc6 pm6 an6 cd6 ct6), sl6⟩)
    (c6 : PySem.W.codeIn K cd6 "marked" = true)
    (k6 : PySem.W.keepIn K (.ref f6) = true)
    (a7 : PySem.W.nsIn K mainGlobals "block_count" = some (some (.ref f7)))
    (l7 : K.lookup f7 = some ⟨oc7, od7, .func (PySem.W.fnOf "block_count" "block_count" (defArgs s_block_count) (defBody s_block_count) (defScope s_block_count) .none kV7 dc7 pm7 an7 cd7 ct7), sl7⟩)
    (c7 : PySem.W.codeIn K cd7 "block_count" = true)
    (k7 : PySem.W.keepIn K (.ref f7) = true)
    (a8 : PySem.W.nsIn K mainGlobals "partitions" = some (some (.ref f8)))
    (l8 : K.lookup f8 = some ⟨oc8, od8, .func (PySem.W.fnOf "partitions" "partitions" (defArgs s_partitions) (defBody s_partitions) (defScope s_partitions) .none kV8 dc8 pm8 an8 cd8 ct8), sl8⟩)
    (c8 : PySem.W.codeIn K cd8 "partitions" = true)
    (k8 : PySem.W.keepIn K (.ref f8) = true)
    (a9 : PySem.W.nsIn K mainGlobals "meet" = some (some (.ref f9)))
    (l9 : K.lookup f9 = some ⟨oc9, od9, .func (PySem.W.fnOf "meet" "meet" (defArgs s_meet) (defBody s_meet) (defScope s_meet) .none kV9 dc9 pm9 an9 cd9 ct9), sl9⟩)
    (c9 : PySem.W.codeIn K cd9 "meet" = true)
    (k9 : PySem.W.keepIn K (.ref f9) = true)
    (a10 : PySem.W.nsIn K mainGlobals "cells_over" = some (some (.ref f10)))
    (l10 : K.lookup f10 = some ⟨oc10, od10, .func (PySem.W.fnOf "cells_over" "cells_over" (defArgs s_cells_over) (defBody s_cells_over) (defScope s_cells_over) .none kV10 dc10 pm10 an10 cd10 ct10), sl10⟩)
    (c10 : PySem.W.codeIn K cd10 "cells_over" = true)
    (k10 : PySem.W.keepIn K (.ref f10) = true)
    (a11 : PySem.W.nsIn K mainGlobals "is_partition" = some (some (.ref f11)))
    (l11 : K.lookup f11 = some ⟨oc11, od11, .func (PySem.W.fnOf "is_partition" "is_partition" (defArgs s_is_partition) (defBody s_is_partition) (defScope s_is_partition) .none kV11 dc11 pm11 an11 cd11 ct11), sl11⟩)
    (c11 : PySem.W.codeIn K cd11 "is_partition" = true)
    (k11 : PySem.W.keepIn K (.ref f11) = true)
    (a12 : PySem.W.nsIn K mainGlobals "is_cell" = some (some (.ref f12)))
    (l12 : K.lookup f12 = some ⟨oc12, od12, .func (PySem.W.fnOf "is_cell" "is_cell" (defArgs s_is_cell) (defBody s_is_cell) (defScope s_is_cell) .none kV12 dc12 pm12 an12 cd12 ct12), sl12⟩)
    (c12 : PySem.W.codeIn K cd12 "is_cell" = true)
    (k12 : PySem.W.keepIn K (.ref f12) = true)
    (a13 : PySem.W.nsIn K mainGlobals "check_cell" = some (some (.ref f13)))
    (l13 : K.lookup f13 = some ⟨oc13, od13, .func (PySem.W.fnOf "check_cell" "check_cell" (defArgs s_check_cell) (defBody s_check_cell) (defScope s_check_cell) .none kV13 dc13 pm13 an13 cd13 ct13), sl13⟩)
    (c13 : PySem.W.codeIn K cd13 "check_cell" = true)
    (k13 : PySem.W.keepIn K (.ref f13) = true)
    (a14 : PySem.W.nsIn K mainGlobals "renamed_marks" = some (some (.ref f14)))
    (l14 : K.lookup f14 = some ⟨oc14, od14, .func (PySem.W.fnOf "renamed_marks" "renamed_marks" (defArgs s_renamed_marks) (defBody s_renamed_marks) (defScope s_renamed_marks) .none kV14 dc14 pm14 an14 cd14 ct14), sl14⟩)
    (c14 : PySem.W.codeIn K cd14 "renamed_marks" = true)
    (k14 : PySem.W.keepIn K (.ref f14) = true)
    (a15 : PySem.W.nsIn K mainGlobals "renamed_card" = some (some (.ref f15)))
    (l15 : K.lookup f15 = some ⟨oc15, od15, .func (PySem.W.fnOf "renamed_card" "renamed_card" (defArgs s_renamed_card) (defBody s_renamed_card) (defScope s_renamed_card) .none kV15 dc15 pm15 an15 cd15 ct15), sl15⟩)
    (c15 : PySem.W.codeIn K cd15 "renamed_card" = true)
    (k15 : PySem.W.keepIn K (.ref f15) = true)
    (a16 : PySem.W.nsIn K mainGlobals "_law_state" = some (some (.ref f16)))
    (l16 : K.lookup f16 = some ⟨oc16, od16, .func (PySem.W.fnOf "_law_state" "_law_state" (defArgs s_l_state) (defBody s_l_state) (defScope s_l_state) .none kV16 dc16 pm16 an16 cd16 ct16), sl16⟩)
    (c16 : PySem.W.codeIn K cd16 "_law_state" = true)
    (k16 : PySem.W.keepIn K (.ref f16) = true)
    (a17 : PySem.W.nsIn K mainGlobals "_law_draw" = some (some (.ref f17)))
    (l17 : K.lookup f17 = some ⟨oc17, od17, .func (PySem.W.fnOf "_law_draw" "_law_draw" (defArgs s_l_draw) (defBody s_l_draw) (defScope s_l_draw) .none kV17 dc17 pm17 an17 cd17 ct17), sl17⟩)
    (c17 : PySem.W.codeIn K cd17 "_law_draw" = true)
    (k17 : PySem.W.keepIn K (.ref f17) = true)
    (a18 : PySem.W.nsIn K mainGlobals "_law_wide" = some (some (.ref f18)))
    (l18 : K.lookup f18 = some ⟨oc18, od18, .func (PySem.W.fnOf "_law_wide" "_law_wide" (defArgs s_l_wide) (defBody s_l_wide) (defScope s_l_wide) .none kV18 dc18 pm18 an18 cd18 ct18), sl18⟩)
    (c18 : PySem.W.codeIn K cd18 "_law_wide" = true)
    (k18 : PySem.W.keepIn K (.ref f18) = true)
    (a19 : PySem.W.nsIn K mainGlobals "_law_styled" = some (some (.ref f19)))
    (l19 : K.lookup f19 = some ⟨oc19, od19, .func (PySem.W.fnOf "_law_styled" "_law_styled" (defArgs s_l_styled) (defBody s_l_styled) (defScope s_l_styled) .none kV19 dc19 pm19 an19 cd19 ct19), sl19⟩)
    (c19 : PySem.W.codeIn K cd19 "_law_styled" = true)
    (k19 : PySem.W.keepIn K (.ref f19) = true)
    (a20 : PySem.W.nsIn K mainGlobals "_law_alike" = some (some (.ref f20)))
    (l20 : K.lookup f20 = some ⟨oc20, od20, .func (PySem.W.fnOf "_law_alike" "_law_alike" (defArgs s_l_alike) (defBody s_l_alike) (defScope s_l_alike) .none kV20 dc20 pm20 an20 cd20 ct20), sl20⟩)
    (c20 : PySem.W.codeIn K cd20 "_law_alike" = true)
    (k20 : PySem.W.keepIn K (.ref f20) = true)
    (a21 : PySem.W.nsIn K mainGlobals "_law_partitions" = some (some (.ref f21)))
    (l21 : K.lookup f21 = some ⟨oc21, od21, .func (PySem.W.fnOf "_law_partitions" "_law_partitions" (defArgs s_l_partitions) (defBody s_l_partitions) (defScope s_l_partitions) .none kV21 dc21 pm21 an21 cd21 ct21), sl21⟩)
    (c21 : PySem.W.codeIn K cd21 "_law_partitions" = true)
    (k21 : PySem.W.keepIn K (.ref f21) = true)
    (a22 : PySem.W.nsIn K mainGlobals "_law_cells" = some (some (.ref f22)))
    (l22 : K.lookup f22 = some ⟨oc22, od22, .func (PySem.W.fnOf "_law_cells" "_law_cells" (defArgs s_l_cells) (defBody s_l_cells) (defScope s_l_cells) .none kV22 dc22 pm22 an22 cd22 ct22), sl22⟩)
    (c22 : PySem.W.codeIn K cd22 "_law_cells" = true)
    (k22 : PySem.W.keepIn K (.ref f22) = true)
    (a23 : PySem.W.nsIn K mainGlobals "_law_tuples" = some (some (.ref f23)))
    (l23 : K.lookup f23 = some ⟨oc23, od23, .func (PySem.W.fnOf "_law_tuples" "_law_tuples" (defArgs s_l_tuples) (defBody s_l_tuples) (defScope s_l_tuples) .none kV23 dc23 pm23 an23 cd23 ct23), sl23⟩)
    (c23 : PySem.W.codeIn K cd23 "_law_tuples" = true)
    (k23 : PySem.W.keepIn K (.ref f23) = true)
    (a24 : PySem.W.nsIn K mainGlobals "_law_name" = some (some (.ref f24)))
    (l24 : K.lookup f24 = some ⟨oc24, od24, .func (PySem.W.fnOf "_law_name" "_law_name" (defArgs s_l_name) (defBody s_l_name) (defScope s_l_name) .none kV24 dc24 pm24 an24 cd24 ct24), sl24⟩)
    (c24 : PySem.W.codeIn K cd24 "_law_name" = true)
    (k24 : PySem.W.keepIn K (.ref f24) = true)
    (a25 : PySem.W.nsIn K mainGlobals "_law_no_name" = some (some (.ref f25)))
    (l25 : K.lookup f25 = some ⟨oc25, od25, .func (PySem.W.fnOf "_law_no_name" "_law_no_name" (defArgs s_l_no_name) (defBody s_l_no_name) (defScope s_l_no_name) .none kV25 dc25 pm25 an25 cd25 ct25), sl25⟩)
    (c25 : PySem.W.codeIn K cd25 "_law_no_name" = true)
    (k25 : PySem.W.keepIn K (.ref f25) = true)
    (a26 : PySem.W.nsIn K mainGlobals "_law_names_error" = some (some (.ref f26)))
    (l26 : K.lookup f26 = some ⟨oc26, od26, .func (PySem.W.fnOf "_law_names_error" "_law_names_error" (defArgs s_l_names_error) (defBody s_l_names_error) (defScope s_l_names_error) .none kV26 dc26 pm26 an26 cd26 ct26), sl26⟩)
    (c26 : PySem.W.codeIn K cd26 "_law_names_error" = true)
    (k26 : PySem.W.keepIn K (.ref f26) = true)
    (a27 : PySem.W.nsIn K mainGlobals "_law_bent_names" = some (some (.ref f27)))
    (l27 : K.lookup f27 = some ⟨oc27, od27, .func (PySem.W.fnOf "_law_bent_names" "_law_bent_names" (defArgs s_l_bent_names) (defBody s_l_bent_names) (defScope s_l_bent_names) .none kV27 dc27 pm27 an27 cd27 ct27), sl27⟩)
    (c27 : PySem.W.codeIn K cd27 "_law_bent_names" = true)
    (k27 : PySem.W.keepIn K (.ref f27) = true)
    (a28 : PySem.W.nsIn K mainGlobals "_law_names_right" = some (some (.ref f28)))
    (l28 : K.lookup f28 = some ⟨oc28, od28, .func (PySem.W.fnOf "_law_names_right" "_law_names_right" (defArgs s_l_names_right) (defBody s_l_names_right) (defScope s_l_names_right) .none kV28 dc28 pm28 an28 cd28 ct28), sl28⟩)
    (c28 : PySem.W.codeIn K cd28 "_law_names_right" = true)
    (k28 : PySem.W.keepIn K (.ref f28) = true)
    (a29 : PySem.W.nsIn K mainGlobals "_law_marked" = some (some (.ref f29)))
    (l29 : K.lookup f29 = some ⟨oc29, od29, .func (PySem.W.fnOf "_law_marked" "_law_marked" (defArgs s_l_marked) (defBody s_l_marked) (defScope s_l_marked) .none kV29 dc29 pm29 an29 cd29 ct29), sl29⟩)
    (c29 : PySem.W.codeIn K cd29 "_law_marked" = true)
    (k29 : PySem.W.keepIn K (.ref f29) = true)
    (a30 : PySem.W.nsIn K mainGlobals "_law_marks_right" = some (some (.ref f30)))
    (l30 : K.lookup f30 = some ⟨oc30, od30, .func (PySem.W.fnOf "_law_marks_right" "_law_marks_right" (defArgs s_l_marks_right) (defBody s_l_marks_right) (defScope s_l_marks_right) .none kV30 dc30 pm30 an30 cd30 ct30), sl30⟩)
    (c30 : PySem.W.codeIn K cd30 "_law_marks_right" = true)
    (k30 : PySem.W.keepIn K (.ref f30) = true)
    (a31 : PySem.W.nsIn K mainGlobals "_law_partitions_right" = some (some (.ref f31)))
    (l31 : K.lookup f31 = some ⟨oc31, od31, .func (PySem.W.fnOf "_law_partitions_right" "_law_partitions_right" (defArgs s_l_partitions_right) (defBody s_l_partitions_right) (defScope s_l_partitions_right) .none kV31 dc31 pm31 an31 cd31 ct31), sl31⟩)
    (c31 : PySem.W.codeIn K cd31 "_law_partitions_right" = true)
    (k31 : PySem.W.keepIn K (.ref f31) = true)
    (a32 : PySem.W.nsIn K mainGlobals "_law_cell_error" = some (some (.ref f32)))
    (l32 : K.lookup f32 = some ⟨oc32, od32, .func (PySem.W.fnOf "_law_cell_error" "_law_cell_error" (defArgs s_l_cell_error) (defBody s_l_cell_error) (defScope s_l_cell_error) .none kV32 dc32 pm32 an32 cd32 ct32), sl32⟩)
    (c32 : PySem.W.codeIn K cd32 "_law_cell_error" = true)
    (k32 : PySem.W.keepIn K (.ref f32) = true)
    (a33 : PySem.W.nsIn K mainGlobals "_law_no_cell" = some (some (.ref f33)))
    (l33 : K.lookup f33 = some ⟨oc33, od33, .func (PySem.W.fnOf "_law_no_cell" "_law_no_cell" (defArgs s_l_no_cell) (defBody s_l_no_cell) (defScope s_l_no_cell) .none kV33 dc33 pm33 an33 cd33 ct33), sl33⟩)
    (c33 : PySem.W.codeIn K cd33 "_law_no_cell" = true)
    (k33 : PySem.W.keepIn K (.ref f33) = true)
    (a34 : PySem.W.nsIn K mainGlobals "_law_cells_right" = some (some (.ref f34)))
    (l34 : K.lookup f34 = some ⟨oc34, od34, .func (PySem.W.fnOf "_law_cells_right" "_law_cells_right" (defArgs s_l_cells_right) (defBody s_l_cells_right) (defScope s_l_cells_right) .none kV34 dc34 pm34 an34 cd34 ct34), sl34⟩)
    (c34 : PySem.W.codeIn K cd34 "_law_cells_right" = true)
    (k34 : PySem.W.keepIn K (.ref f34) = true)
    (a35 : PySem.W.nsIn K mainGlobals "_law_renaming" = some (some (.ref f35)))
    (l35 : K.lookup f35 = some ⟨oc35, od35, .func (PySem.W.fnOf "_law_renaming" "_law_renaming" (defArgs s_l_renaming) (defBody s_l_renaming) (defScope s_l_renaming) .none kV35 dc35 pm35 an35 cd35 ct35), sl35⟩)
    (c35 : PySem.W.codeIn K cd35 "_law_renaming" = true)
    (k35 : PySem.W.keepIn K (.ref f35) = true)
    (a36 : PySem.W.nsIn K mainGlobals "_law_renamed_right" = some (some (.ref f36)))
    (l36 : K.lookup f36 = some ⟨oc36, od36, .func (PySem.W.fnOf "_law_renamed_right" "_law_renamed_right" (defArgs s_l_renamed_right) (defBody s_l_renamed_right) (defScope s_l_renamed_right) .none kV36 dc36 pm36 an36 cd36 ct36), sl36⟩)
    (c36 : PySem.W.codeIn K cd36 "_law_renamed_right" = true)
    (k36 : PySem.W.keepIn K (.ref f36) = true)
    (a37 : PySem.W.nsIn K mainGlobals "law" = some (some (.ref f37)))
    (l37 : K.lookup f37 = some ⟨oc37, od37, .func (PySem.W.fnOf "law" "law" (defArgs s_law) (defBody s_law) (defScope s_law) .none kV37 dc37 pm37 an37 cd37 ct37), sl37⟩)
    (c37 : PySem.W.codeIn K cd37 "law" = true)
    (k37 : PySem.W.keepIn K (.ref f37) = true)
    (aC_LookerError : PySem.W.nsIn K mainGlobals "LookerError" = some (some (.ref C_LookerError)))
    (aC_BadName : PySem.W.nsIn K mainGlobals "BadName" = some (some (.ref C_BadName)))
    (aC_BadCell : PySem.W.nsIn K mainGlobals "BadCell" = some (some (.ref C_BadCell)))
    (iL : PySem.W.isClsIn K C_LookerError = true)
    (tL : PySem.W.typeIn K (.ref C_LookerError) = some (.type "type"))
    {nm_BadName q_BadName : Str} {N_BadName : Addr} {bs_BadName : List Value} {sn_BadName : List Str} {sub_BadName : List Value} {ab_BadName : Bool} {col_BadName : Option Bool} {dd_BadName : Option Addr} {m0_BadName m1_BadName m2_BadName m3_BadName m5_BadName : Option Value}
    (xL_BadName : K.lookup C_BadName = some (excClassObj nm_BadName q_BadName C_BadName N_BadName bs_BadName [.ref C_LookerError, .type "ValueError", .type "Exception", .type "BaseException", .type "object"] true sn_BadName sub_BadName ab_BadName col_BadName dd_BadName m0_BadName m1_BadName m2_BadName m3_BadName m5_BadName "ValueError.__new__"))
    (sa_BadName : PySem.W.findIn K (.ref C_BadName) "__setattr__" = some (some (.builtin "object.__setattr__")))
    (ga_BadName : PySem.W.findIn K (.ref C_BadName) "__getattribute__" = some (some (.builtin "BaseException.__getattribute__")))
    (gg_BadName : PySem.W.findIn K (.ref C_BadName) "__getattr__" = some none)
    (no_BadName : PySem.W.findIn K (.ref C_BadName) "value" = some none)
    (iC_BadName : PySem.W.findIn K (.ref C_BadName) "__init__" = some (some (.ref f38)))
    (tI_BadName : PySem.W.typeIn K (.ref f38) = some (.type "function"))
    (l38 : K.lookup f38 = some ⟨oc38, od38, .func (PySem.W.fnOf "__init__" "BadName.__init__" (defArgs init_BadName) (defBody init_BadName) (defScope init_BadName) .none kV38 dc38 pm38 an38 cd38 ct38), sl38⟩)
    (c38 : PySem.W.codeIn K cd38 "BadName.__init__" = true)
    (k38 : PySem.W.keepIn K (.ref f38) = true)
    (kC_BadName : PySem.W.keepIn K (.ref C_BadName) = true)
    (eC_BadName : PySem.W.subIn K (.ref C_BadName) (.type "BaseException") = some true)
    (tC_BadName : PySem.W.typeIn K (.ref C_BadName) = some (.type "type"))
    (hC_BadName : PySem.W.hasDictIn K C_BadName = true)
    (sC_BadName : PySem.W.subIn K (.ref C_BadName) (.ref C_BadName) = some true)
    (su_BadName : PySem.W.subIn K (.ref C_BadName) (.ref C_LookerError) = some true)
    {nm_BadCell q_BadCell : Str} {N_BadCell : Addr} {bs_BadCell : List Value} {sn_BadCell : List Str} {sub_BadCell : List Value} {ab_BadCell : Bool} {col_BadCell : Option Bool} {dd_BadCell : Option Addr} {m0_BadCell m1_BadCell m2_BadCell m3_BadCell m5_BadCell : Option Value}
    (xL_BadCell : K.lookup C_BadCell = some (excClassObj nm_BadCell q_BadCell C_BadCell N_BadCell bs_BadCell [.ref C_LookerError, .type "ValueError", .type "Exception", .type "BaseException", .type "object"] true sn_BadCell sub_BadCell ab_BadCell col_BadCell dd_BadCell m0_BadCell m1_BadCell m2_BadCell m3_BadCell m5_BadCell "ValueError.__new__"))
    (sa_BadCell : PySem.W.findIn K (.ref C_BadCell) "__setattr__" = some (some (.builtin "object.__setattr__")))
    (ga_BadCell : PySem.W.findIn K (.ref C_BadCell) "__getattribute__" = some (some (.builtin "BaseException.__getattribute__")))
    (gg_BadCell : PySem.W.findIn K (.ref C_BadCell) "__getattr__" = some none)
    (no_BadCell : PySem.W.findIn K (.ref C_BadCell) "value" = some none)
    (iC_BadCell : PySem.W.findIn K (.ref C_BadCell) "__init__" = some (some (.ref f39)))
    (tI_BadCell : PySem.W.typeIn K (.ref f39) = some (.type "function"))
    (l39 : K.lookup f39 = some ⟨oc39, od39, .func (PySem.W.fnOf "__init__" "BadCell.__init__" (defArgs init_BadCell) (defBody init_BadCell) (defScope init_BadCell) .none kV39 dc39 pm39 an39 cd39 ct39), sl39⟩)
    (c39 : PySem.W.codeIn K cd39 "BadCell.__init__" = true)
    (k39 : PySem.W.keepIn K (.ref f39) = true)
    (kC_BadCell : PySem.W.keepIn K (.ref C_BadCell) = true)
    (eC_BadCell : PySem.W.subIn K (.ref C_BadCell) (.type "BaseException") = some true)
    (tC_BadCell : PySem.W.typeIn K (.ref C_BadCell) = some (.type "type"))
    (hC_BadCell : PySem.W.hasDictIn K C_BadCell = true)
    (sC_BadCell : PySem.W.subIn K (.ref C_BadCell) (.ref C_BadCell) = some true)
    (su_BadCell : PySem.W.subIn K (.ref C_BadCell) (.ref C_LookerError) = some true)
    (xHn : PySem.W.specialIn K (.builtin "object.__class__") "__get__" = some (some (.builtin "getset_descriptor.__get__")))
    (xHt : PySem.W.takesIn K (.builtin "object.__class__") = some true)
    (xA_BadName : PySem.W.findIn K (.ref C_BadName) "__class__" = some (some (.builtin "object.__class__")))
    (xM_BadName : PySem.W.mroIn K C_BadName (.type "object") = some true)
    (xI_BadName : PySem.W.isClsIn K C_BadName = true)
    (xN_BadName : PySem.W.subIn K (.ref C_BadName) (.ref C_BadCell) = some false)
    (xA_BadCell : PySem.W.findIn K (.ref C_BadCell) "__class__" = some (some (.builtin "object.__class__")))
    (xM_BadCell : PySem.W.mroIn K C_BadCell (.type "object") = some true)
    (xI_BadCell : PySem.W.isClsIn K C_BadCell = true)
    (xN_BadCell : PySem.W.subIn K (.ref C_BadCell) (.ref C_BadName) = some false)
    (z_ValueError : PySem.W.nsIn K mainGlobals "ValueError" = some none)
    (z_all : PySem.W.nsIn K mainGlobals "all" = some none)
    (z_bool : PySem.W.nsIn K mainGlobals "bool" = some none)
    (z_dict : PySem.W.nsIn K mainGlobals "dict" = some none)
    (z_enumerate : PySem.W.nsIn K mainGlobals "enumerate" = some none)
    (z_int : PySem.W.nsIn K mainGlobals "int" = some none)
    (z_isinstance : PySem.W.nsIn K mainGlobals "isinstance" = some none)
    (z_len : PySem.W.nsIn K mainGlobals "len" = some none)
    (z_list : PySem.W.nsIn K mainGlobals "list" = some none)
    (z_max : PySem.W.nsIn K mainGlobals "max" = some none)
    (z_range : PySem.W.nsIn K mainGlobals "range" = some none)
    (z_set : PySem.W.nsIn K mainGlobals "set" = some none)
    (z_sorted : PySem.W.nsIn K mainGlobals "sorted" = some none)
    (z_str : PySem.W.nsIn K mainGlobals "str" = some none)
    (z_tuple : PySem.W.nsIn K mainGlobals "tuple" = some none)
    (z_zip : PySem.W.nsIn K mainGlobals "zip" = some none)
    {t_MOST_NAMES : Tok}
    (g_MOST_NAMES : PySem.W.nsIn K mainGlobals "MOST_NAMES" = some (some (.int 3 t_MOST_NAMES)))
    {t_ENDLESS : Tok}
    (g_ENDLESS : PySem.W.nsIn K mainGlobals "ENDLESS" = some (some (.int 3 t_ENDLESS)))
    : ∃ fd : FuncData, (∀ (s : Shared) (v : Value), BindsTo s fd ⟨[v], []⟩ [("_law_script", v)]) ∧ ∀ base : Heap, K.In base → base.Ns mainGlobals mg → FnOk l.prog w K mg base CX0 8 fa fd ["_law_script"] (spLaw K) := by
  have e := hfa.symm.trans (PySem.W.mg_of X G a37)
  cases e
  have F1 := fun_mk (st := s_is_int) l1 c1 k1
  have b1 := F1.binds (ps := ["value"]) fun _ _ _ _ _ _ us hl => match us, hl with | [_], _ => rfl
  have F2 := fun_mk (st := s_is_ascending) l2 c2 k2
  have b2 := F2.binds (ps := ["items"]) fun _ _ _ _ _ _ us hl => match us, hl with | [_], _ => rfl
  have F3 := fun_mk (st := s_is_name) l3 c3 k3
  have b3 := F3.binds (ps := ["value"]) fun _ _ _ _ _ _ us hl => match us, hl with | [_], _ => rfl
  have F4 := fun_mk (st := s_check_names) l4 c4 k4
  have b4 := F4.binds (ps := ["names"]) fun _ _ _ _ _ _ us hl => match us, hl with | [_], _ => rfl
  have F5 := fun_mk (st := s_pairs) l5 c5 k5
  have b5 := F5.binds (ps := ["names"]) fun _ _ _ _ _ _ us hl => match us, hl with | [_], _ => rfl
  have F6 := fun_mk (st := s_marked) l6 c6 k6
  have b6 := F6.binds (ps := ["keys"]) fun _ _ _ _ _ _ us hl => match us, hl with | [_], _ => rfl
  have F7 := fun_mk (st := s_block_count) l7 c7 k7
  have b7 := F7.binds (ps := ["marks"]) fun _ _ _ _ _ _ us hl => match us, hl with | [_], _ => rfl
  have F8 := fun_mk (st := s_partitions) l8 c8 k8
  have b8 := F8.binds (ps := ["count"]) fun _ _ _ _ _ _ us hl => match us, hl with | [_], _ => rfl
  have F9 := fun_mk (st := s_meet) l9 c9 k9
  have b9 := F9.binds (ps := ["first", "second"]) fun _ _ _ _ _ _ us hl => match us, hl with | [_, _], _ => rfl
  have F10 := fun_mk (st := s_cells_over) l10 c10 k10
  have b10 := F10.binds (ps := ["count"]) fun _ _ _ _ _ _ us hl => match us, hl with | [_], _ => rfl
  have F11 := fun_mk (st := s_is_partition) l11 c11 k11
  have b11 := F11.binds (ps := ["value", "count"]) fun _ _ _ _ _ _ us hl => match us, hl with | [_, _], _ => rfl
  have F12 := fun_mk (st := s_is_cell) l12 c12 k12
  have b12 := F12.binds (ps := ["value", "count"]) fun _ _ _ _ _ _ us hl => match us, hl with | [_, _], _ => rfl
  have F13 := fun_mk (st := s_check_cell) l13 c13 k13
  have b13 := F13.binds (ps := ["cell", "count"]) fun _ _ _ _ _ _ us hl => match us, hl with | [_, _], _ => rfl
  have F14 := fun_mk (st := s_renamed_marks) l14 c14 k14
  have b14 := F14.binds (ps := ["names", "marks", "mapping"]) fun _ _ _ _ _ _ us hl => match us, hl with | [_, _, _], _ => rfl
  have F15 := fun_mk (st := s_renamed_card) l15 c15 k15
  have b15 := F15.binds (ps := ["card", "names", "mapping"]) fun _ _ _ _ _ _ us hl => match us, hl with | [_, _, _], _ => rfl
  have F16 := fun_mk (st := s_l_state) l16 c16 k16
  have b16 := F16.binds (ps := ["_law_script"]) fun _ _ _ _ _ _ us hl => match us, hl with | [_], _ => rfl
  have F17 := fun_mk (st := s_l_draw) l17 c17 k17
  have b17 := F17.binds (ps := ["_law_state_here", "_law_many"]) fun _ _ _ _ _ _ us hl => match us, hl with | [_, _], _ => rfl
  have F18 := fun_mk (st := s_l_wide) l18 c18 k18
  have b18 := F18.binds (ps := ["_law_feed", "_law_many"]) fun _ _ _ _ _ _ us hl => match us, hl with | [_, _], _ => rfl
  have F19 := fun_mk (st := s_l_styled) l19 c19 k19
  have b19 := F19.binds (ps := ["_law_feed", "_law_count"]) fun _ _ _ _ _ _ us hl => match us, hl with | [_, _], _ => rfl
  have F20 := fun_mk (st := s_l_alike) l20 c20 k20
  have b20 := F20.binds (ps := ["_law_actual", "_law_due"]) fun _ _ _ _ _ _ us hl => match us, hl with | [_, _], _ => rfl
  have F21 := fun_mk (st := s_l_partitions) l21 c21 k21
  have b21 := F21.binds (ps := ["_law_count"]) fun _ _ _ _ _ _ us hl => match us, hl with | [_], _ => rfl
  have F22 := fun_mk (st := s_l_cells) l22 c22 k22
  have b22 := F22.binds (ps := ["_law_count"]) fun _ _ _ _ _ _ us hl => match us, hl with | [_], _ => rfl
  have F23 := fun_mk (st := s_l_tuples) l23 c23 k23
  have b23 := F23.binds (ps := ["_law_choices", "_law_count"]) fun _ _ _ _ _ _ us hl => match us, hl with | [_, _], _ => rfl
  have F24 := fun_mk (st := s_l_name) l24 c24 k24
  have b24 := F24.binds (ps := ["_law_state_here"]) fun _ _ _ _ _ _ us hl => match us, hl with | [_], _ => rfl
  have F25 := fun_mk (st := s_l_no_name) l25 c25 k25
  have b25 := F25.binds (ps := ["_law_state_here"]) fun _ _ _ _ _ _ us hl => match us, hl with | [_], _ => rfl
  have F26 := fun_mk (st := s_l_names_error) l26 c26 k26
  have b26 := F26.binds (ps := ["_law_names"]) fun _ _ _ _ _ _ us hl => match us, hl with | [_], _ => rfl
  have F27 := fun_mk (st := s_l_bent_names) l27 c27 k27
  have b27 := F27.binds (ps := ["_law_state_here", "_law_names"]) fun _ _ _ _ _ _ us hl => match us, hl with | [_, _], _ => rfl
  have F28 := fun_mk (st := s_l_names_right) l28 c28 k28
  have b28 := F28.binds (ps := ["_law_state_here"]) fun _ _ _ _ _ _ us hl => match us, hl with | [_], _ => rfl
  have F29 := fun_mk (st := s_l_marked) l29 c29 k29
  have b29 := F29.binds (ps := ["_law_keys"]) fun _ _ _ _ _ _ us hl => match us, hl with | [_], _ => rfl
  have F30 := fun_mk (st := s_l_marks_right) l30 c30 k30
  have b30 := F30.binds (ps := ["_law_state_here"]) fun _ _ _ _ _ _ us hl => match us, hl with | [_], _ => rfl
  have F31 := fun_mk (st := s_l_partitions_right) l31 c31 k31
  have b31 := F31.binds (ps := ["_law_state_here"]) fun _ _ _ _ _ _ us hl => match us, hl with | [_], _ => rfl
  have F32 := fun_mk (st := s_l_cell_error) l32 c32 k32
  have b32 := F32.binds (ps := ["_law_cell", "_law_count"]) fun _ _ _ _ _ _ us hl => match us, hl with | [_, _], _ => rfl
  have F33 := fun_mk (st := s_l_no_cell) l33 c33 k33
  have b33 := F33.binds (ps := ["_law_state_here", "_law_cell"]) fun _ _ _ _ _ _ us hl => match us, hl with | [_, _], _ => rfl
  have F34 := fun_mk (st := s_l_cells_right) l34 c34 k34
  have b34 := F34.binds (ps := ["_law_state_here"]) fun _ _ _ _ _ _ us hl => match us, hl with | [_], _ => rfl
  have F35 := fun_mk (st := s_l_renaming) l35 c35 k35
  have b35 := F35.binds (ps := ["_law_state_here", "_law_count"]) fun _ _ _ _ _ _ us hl => match us, hl with | [_, _], _ => rfl
  have F36 := fun_mk (st := s_l_renamed_right) l36 c36 k36
  have b36 := F36.binds (ps := ["_law_state_here"]) fun _ _ _ _ _ _ us hl => match us, hl with | [_], _ => rfl
  have F37 := fun_mk (st := s_law) l37 c37 k37
  have b37 := F37.binds (ps := ["_law_script"]) fun _ _ _ _ _ _ us hl => match us, hl with | [_], _ => rfl
  let ad : Ad := { f_is_int := f1, d_is_int := (PySem.W.fnOf "is_int" "is_int" (defArgs s_is_int) (defBody s_is_int) (defScope s_is_int) .none kV1 dc1 pm1 an1 cd1 ct1), f_is_ascending := f2, d_is_ascending := (PySem.W.fnOf "is_ascending" "is_ascending" (defArgs s_is_ascending) (defBody s_is_ascending) (defScope s_is_ascending) .none kV2 dc2 pm2 an2 cd2 ct2), f_is_name := f3, d_is_name := (PySem.W.fnOf "is_name" "is_name" (defArgs s_is_name) (defBody s_is_name) (defScope s_is_name) .none kV3 dc3 pm3 an3 cd3 ct3), f_check_names := f4, d_check_names := (PySem.W.fnOf "check_names" "check_names" (defArgs s_check_names) (defBody s_check_names) (defScope s_check_names) .none kV4 dc4 pm4 an4 cd4 ct4), f_pairs := f5, d_pairs := (PySem.W.fnOf "pairs" "pairs" (defArgs s_pairs) (defBody s_pairs) (defScope s_pairs) .none kV5 dc5 pm5 an5 cd5 ct5), f_marked := f6, d_marked := (PySem.W.fnOf "marked" "marked" (defArgs s_marked) (defBody s_marked) (defScope s_marked) .none kV6 dc6 pm6 an6 cd6 ct6), f_block_count := f7, d_block_count := (PySem.W.fnOf "block_count" "block_count" (defArgs s_block_count) (defBody s_block_count) (defScope s_block_count) .none kV7 dc7 pm7 an7 cd7 ct7), f_partitions := f8, d_partitions := (PySem.W.fnOf "partitions" "partitions" (defArgs s_partitions) (defBody s_partitions) (defScope s_partitions) .none kV8 dc8 pm8 an8 cd8 ct8), f_meet := f9, d_meet := (PySem.W.fnOf "meet" "meet" (defArgs s_meet) (defBody s_meet) (defScope s_meet) .none kV9 dc9 pm9 an9 cd9 ct9), f_cells_over := f10, d_cells_over := (PySem.W.fnOf "cells_over" "cells_over" (defArgs s_cells_over) (defBody s_cells_over) (defScope s_cells_over) .none kV10 dc10 pm10 an10 cd10 ct10), f_is_partition := f11, d_is_partition := (PySem.W.fnOf "is_partition" "is_partition" (defArgs s_is_partition) (defBody s_is_partition) (defScope s_is_partition) .none kV11 dc11 pm11 an11 cd11 ct11), f_is_cell := f12, d_is_cell := (PySem.W.fnOf "is_cell" "is_cell" (defArgs s_is_cell) (defBody s_is_cell) (defScope s_is_cell) .none kV12 dc12 pm12 an12 cd12 ct12), f_check_cell := f13, d_check_cell := (PySem.W.fnOf "check_cell" "check_cell" (defArgs s_check_cell) (defBody s_check_cell) (defScope s_check_cell) .none kV13 dc13 pm13 an13 cd13 ct13), f_renamed_marks := f14, d_renamed_marks := (PySem.W.fnOf "renamed_marks" "renamed_marks" (defArgs s_renamed_marks) (defBody s_renamed_marks) (defScope s_renamed_marks) .none kV14 dc14 pm14 an14 cd14 ct14), f_renamed_card := f15, d_renamed_card := (PySem.W.fnOf "renamed_card" "renamed_card" (defArgs s_renamed_card) (defBody s_renamed_card) (defScope s_renamed_card) .none kV15 dc15 pm15 an15 cd15 ct15), f_l_state := f16, d_l_state := (PySem.W.fnOf "_law_state" "_law_state" (defArgs s_l_state) (defBody s_l_state) (defScope s_l_state) .none kV16 dc16 pm16 an16 cd16 ct16), f_l_draw := f17, d_l_draw := (PySem.W.fnOf "_law_draw" "_law_draw" (defArgs s_l_draw) (defBody s_l_draw) (defScope s_l_draw) .none kV17 dc17 pm17 an17 cd17 ct17), f_l_wide := f18, d_l_wide := (PySem.W.fnOf "_law_wide" "_law_wide" (defArgs s_l_wide) (defBody s_l_wide) (defScope s_l_wide) .none kV18 dc18 pm18 an18 cd18 ct18), f_l_styled := f19, d_l_styled := (PySem.W.fnOf "_law_styled" "_law_styled" (defArgs s_l_styled) (defBody s_l_styled) (defScope s_l_styled) .none kV19 dc19 pm19 an19 cd19 ct19), f_l_alike := f20, d_l_alike := (PySem.W.fnOf "_law_alike" "_law_alike" (defArgs s_l_alike) (defBody s_l_alike) (defScope s_l_alike) .none kV20 dc20 pm20 an20 cd20 ct20), f_l_partitions := f21, d_l_partitions := (PySem.W.fnOf "_law_partitions" "_law_partitions" (defArgs s_l_partitions) (defBody s_l_partitions) (defScope s_l_partitions) .none kV21 dc21 pm21 an21 cd21 ct21), f_l_cells := f22, d_l_cells := (PySem.W.fnOf "_law_cells" "_law_cells" (defArgs s_l_cells) (defBody s_l_cells) (defScope s_l_cells) .none kV22 dc22 pm22 an22 cd22 ct22), f_l_tuples := f23, d_l_tuples := (PySem.W.fnOf "_law_tuples" "_law_tuples" (defArgs s_l_tuples) (defBody s_l_tuples) (defScope s_l_tuples) .none kV23 dc23 pm23 an23 cd23 ct23), f_l_name := f24, d_l_name := (PySem.W.fnOf "_law_name" "_law_name" (defArgs s_l_name) (defBody s_l_name) (defScope s_l_name) .none kV24 dc24 pm24 an24 cd24 ct24), f_l_no_name := f25, d_l_no_name := (PySem.W.fnOf "_law_no_name" "_law_no_name" (defArgs s_l_no_name) (defBody s_l_no_name) (defScope s_l_no_name) .none kV25 dc25 pm25 an25 cd25 ct25), f_l_names_error := f26, d_l_names_error := (PySem.W.fnOf "_law_names_error" "_law_names_error" (defArgs s_l_names_error) (defBody s_l_names_error) (defScope s_l_names_error) .none kV26 dc26 pm26 an26 cd26 ct26), f_l_bent_names := f27, d_l_bent_names := (PySem.W.fnOf "_law_bent_names" "_law_bent_names" (defArgs s_l_bent_names) (defBody s_l_bent_names) (defScope s_l_bent_names) .none kV27 dc27 pm27 an27 cd27 ct27), f_l_names_right := f28, d_l_names_right := (PySem.W.fnOf "_law_names_right" "_law_names_right" (defArgs s_l_names_right) (defBody s_l_names_right) (defScope s_l_names_right) .none kV28 dc28 pm28 an28 cd28 ct28), f_l_marked := f29, d_l_marked := (PySem.W.fnOf "_law_marked" "_law_marked" (defArgs s_l_marked) (defBody s_l_marked) (defScope s_l_marked) .none kV29 dc29 pm29 an29 cd29 ct29), f_l_marks_right := f30, d_l_marks_right := (PySem.W.fnOf "_law_marks_right" "_law_marks_right" (defArgs s_l_marks_right) (defBody s_l_marks_right) (defScope s_l_marks_right) .none kV30 dc30 pm30 an30 cd30 ct30), f_l_partitions_right := f31, d_l_partitions_right := (PySem.W.fnOf "_law_partitions_right" "_law_partitions_right" (defArgs s_l_partitions_right) (defBody s_l_partitions_right) (defScope s_l_partitions_right) .none kV31 dc31 pm31 an31 cd31 ct31), f_l_cell_error := f32, d_l_cell_error := (PySem.W.fnOf "_law_cell_error" "_law_cell_error" (defArgs s_l_cell_error) (defBody s_l_cell_error) (defScope s_l_cell_error) .none kV32 dc32 pm32 an32 cd32 ct32), f_l_no_cell := f33, d_l_no_cell := (PySem.W.fnOf "_law_no_cell" "_law_no_cell" (defArgs s_l_no_cell) (defBody s_l_no_cell) (defScope s_l_no_cell) .none kV33 dc33 pm33 an33 cd33 ct33), f_l_cells_right := f34, d_l_cells_right := (PySem.W.fnOf "_law_cells_right" "_law_cells_right" (defArgs s_l_cells_right) (defBody s_l_cells_right) (defScope s_l_cells_right) .none kV34 dc34 pm34 an34 cd34 ct34), f_l_renaming := f35, d_l_renaming := (PySem.W.fnOf "_law_renaming" "_law_renaming" (defArgs s_l_renaming) (defBody s_l_renaming) (defScope s_l_renaming) .none kV35 dc35 pm35 an35 cd35 ct35), f_l_renamed_right := f36, d_l_renamed_right := (PySem.W.fnOf "_law_renamed_right" "_law_renamed_right" (defArgs s_l_renamed_right) (defBody s_l_renamed_right) (defScope s_l_renamed_right) .none kV36 dc36 pm36 an36 cd36 ct36), f_law := fa, d_law := (PySem.W.fnOf "law" "law" (defArgs s_law) (defBody s_law) (defScope s_law) .none kV37 dc37 pm37 an37 cd37 ct37), c_LookerError := C_LookerError, c_BadName := C_BadName, c_BadCell := C_BadCell }
  have T : Top K mg ad :=
    { F_is_int := F1,
      m_is_int := PySem.W.mg_of X G a1,
      b_is_int := b1,
      F_is_ascending := F2,
      m_is_ascending := PySem.W.mg_of X G a2,
      b_is_ascending := b2,
      F_is_name := F3,
      m_is_name := PySem.W.mg_of X G a3,
      b_is_name := b3,
      F_check_names := F4,
      m_check_names := PySem.W.mg_of X G a4,
      b_check_names := b4,
      F_pairs := F5,
      m_pairs := PySem.W.mg_of X G a5,
      b_pairs := b5,
      F_marked := F6,
      m_marked := PySem.W.mg_of X G a6,
      b_marked := b6,
      F_block_count := F7,
      m_block_count := PySem.W.mg_of X G a7,
      b_block_count := b7,
      F_partitions := F8,
      m_partitions := PySem.W.mg_of X G a8,
      b_partitions := b8,
      F_meet := F9,
      m_meet := PySem.W.mg_of X G a9,
      b_meet := b9,
      F_cells_over := F10,
      m_cells_over := PySem.W.mg_of X G a10,
      b_cells_over := b10,
      F_is_partition := F11,
      m_is_partition := PySem.W.mg_of X G a11,
      b_is_partition := b11,
      F_is_cell := F12,
      m_is_cell := PySem.W.mg_of X G a12,
      b_is_cell := b12,
      F_check_cell := F13,
      m_check_cell := PySem.W.mg_of X G a13,
      b_check_cell := b13,
      F_renamed_marks := F14,
      m_renamed_marks := PySem.W.mg_of X G a14,
      b_renamed_marks := b14,
      F_renamed_card := F15,
      m_renamed_card := PySem.W.mg_of X G a15,
      b_renamed_card := b15,
      F_l_state := F16,
      m_l_state := PySem.W.mg_of X G a16,
      b_l_state := b16,
      F_l_draw := F17,
      m_l_draw := PySem.W.mg_of X G a17,
      b_l_draw := b17,
      F_l_wide := F18,
      m_l_wide := PySem.W.mg_of X G a18,
      b_l_wide := b18,
      F_l_styled := F19,
      m_l_styled := PySem.W.mg_of X G a19,
      b_l_styled := b19,
      F_l_alike := F20,
      m_l_alike := PySem.W.mg_of X G a20,
      b_l_alike := b20,
      F_l_partitions := F21,
      m_l_partitions := PySem.W.mg_of X G a21,
      b_l_partitions := b21,
      F_l_cells := F22,
      m_l_cells := PySem.W.mg_of X G a22,
      b_l_cells := b22,
      F_l_tuples := F23,
      m_l_tuples := PySem.W.mg_of X G a23,
      b_l_tuples := b23,
      F_l_name := F24,
      m_l_name := PySem.W.mg_of X G a24,
      b_l_name := b24,
      F_l_no_name := F25,
      m_l_no_name := PySem.W.mg_of X G a25,
      b_l_no_name := b25,
      F_l_names_error := F26,
      m_l_names_error := PySem.W.mg_of X G a26,
      b_l_names_error := b26,
      F_l_bent_names := F27,
      m_l_bent_names := PySem.W.mg_of X G a27,
      b_l_bent_names := b27,
      F_l_names_right := F28,
      m_l_names_right := PySem.W.mg_of X G a28,
      b_l_names_right := b28,
      F_l_marked := F29,
      m_l_marked := PySem.W.mg_of X G a29,
      b_l_marked := b29,
      F_l_marks_right := F30,
      m_l_marks_right := PySem.W.mg_of X G a30,
      b_l_marks_right := b30,
      F_l_partitions_right := F31,
      m_l_partitions_right := PySem.W.mg_of X G a31,
      b_l_partitions_right := b31,
      F_l_cell_error := F32,
      m_l_cell_error := PySem.W.mg_of X G a32,
      b_l_cell_error := b32,
      F_l_no_cell := F33,
      m_l_no_cell := PySem.W.mg_of X G a33,
      b_l_no_cell := b33,
      F_l_cells_right := F34,
      m_l_cells_right := PySem.W.mg_of X G a34,
      b_l_cells_right := b34,
      F_l_renaming := F35,
      m_l_renaming := PySem.W.mg_of X G a35,
      b_l_renaming := b35,
      F_l_renamed_right := F36,
      m_l_renamed_right := PySem.W.mg_of X G a36,
      b_l_renamed_right := b36,
      F_law := F37,
      m_law := PySem.W.mg_of X G a37,
      b_law := b37,
      m_LookerError := PySem.W.mg_of X G aC_LookerError,
      m_BadName := PySem.W.mg_of X G aC_BadName,
      m_BadCell := PySem.W.mg_of X G aC_BadCell,
      z_ValueError := PySem.W.mg_none_of X G z_ValueError,
      z_all := PySem.W.mg_none_of X G z_all,
      z_bool := PySem.W.mg_none_of X G z_bool,
      z_dict := PySem.W.mg_none_of X G z_dict,
      z_enumerate := PySem.W.mg_none_of X G z_enumerate,
      z_int := PySem.W.mg_none_of X G z_int,
      z_isinstance := PySem.W.mg_none_of X G z_isinstance,
      z_len := PySem.W.mg_none_of X G z_len,
      z_list := PySem.W.mg_none_of X G z_list,
      z_max := PySem.W.mg_none_of X G z_max,
      z_range := PySem.W.mg_none_of X G z_range,
      z_set := PySem.W.mg_none_of X G z_set,
      z_sorted := PySem.W.mg_none_of X G z_sorted,
      z_str := PySem.W.mg_none_of X G z_str,
      z_tuple := PySem.W.mg_none_of X G z_tuple,
      z_zip := PySem.W.mg_none_of X G z_zip,
      m_MOST_NAMES := ⟨_, PySem.W.mg_of X G g_MOST_NAMES⟩,
      m_ENDLESS := ⟨_, PySem.W.mg_of X G g_ENDLESS⟩ }
  have FI_BadName := fun_mk (st := init_BadName) l38 c38 k38
  have bI_BadName := FI_BadName.binds (ps := ["self", "value"]) fun _ _ _ _ _ _ us hl => match us, hl with | [_, _], _ => rfl
  have ox_BadName : OexC K C_BadName := ⟨⟨_, _, _, _, _, _, _, _, _, _, _, _, _, _, _, xL_BadName, kit_ve⟩, sa_BadName, eC_BadName, tC_BadName, kC_BadName⟩
  have te_BadName := PySem.W.exm_ref eC_BadName hC_BadName tC_BadName sC_BadName
  have FI_BadCell := fun_mk (st := init_BadCell) l39 c39 k39
  have bI_BadCell := FI_BadCell.binds (ps := ["self", "value"]) fun _ _ _ _ _ _ us hl => match us, hl with | [_, _], _ => rfl
  have ox_BadCell : OexC K C_BadCell := ⟨⟨_, _, _, _, _, _, _, _, _, _, _, _, _, _, _, xL_BadCell, kit_ve⟩, sa_BadCell, eC_BadCell, tC_BadCell, kC_BadCell⟩
  have te_BadCell := PySem.W.exm_ref eC_BadCell hC_BadCell tC_BadCell sC_BadCell
  have EX_BadName : ErX K C_BadName C_LookerError C_BadCell f38 _ "BadName.__init__" init_BadName := ⟨ox_BadName, iC_BadName, tI_BadName, no_BadName, FI_BadName, bI_BadName, ⟨ga_BadName, gg_BadName, eC_BadName, hC_BadName⟩, ⟨ga_BadName, gg_BadName, eC_BadName, hC_BadName, xA_BadName, xHn, xHt, xM_BadName⟩, te_BadName, kit_one (kit_sub iL tL su_BadName), kit_no sC_BadName (kit_sub xI_BadCell tC_BadCell xN_BadName) xN_BadName⟩
  have EX_BadCell : ErX K C_BadCell C_LookerError C_BadName f39 _ "BadCell.__init__" init_BadCell := ⟨ox_BadCell, iC_BadCell, tI_BadCell, no_BadCell, FI_BadCell, bI_BadCell, ⟨ga_BadCell, gg_BadCell, eC_BadCell, hC_BadCell⟩, ⟨ga_BadCell, gg_BadCell, eC_BadCell, hC_BadCell, xA_BadCell, xHn, xHt, xM_BadCell⟩, te_BadCell, kit_one (kit_sub iL tL su_BadCell), kit_no sC_BadCell (kit_sub xI_BadName tC_BadName xN_BadCell) xN_BadCell⟩
  exact ⟨_, fun s v => .of_eq rfl, fun base _ _ => ok_law (a := ad) T EX_BadName EX_BadCell⟩
end
end K0
open PySem PySem.W PyProof.Rows
set_option maxHeartbeats 0 in
theorem PySem.Challenge.cw_onelooker_k00_names_and_cells_holds : PySem.Challenge.rw_onelooker_k00_names_and_cells.Holds := by
  w_on; o_law; k_head; (case hw => w_witness2)
  k_fill
  refine L2.walk_of (l := PySem.Challenge.rw_onelooker_k00_names_and_cells) (n := 63) (k := 8) (x := "_law_script") (CX := fun _ => L2.CX0) (sp := fun w => K0.spLaw _) rfl (by decide) rfl ⟨rfl, by decide, by decide⟩ (fun w h Y => PySem.W.kIn_of Y) ?F (fun _ _ a ns hl _ hS => ⟨a, ns, rfl, hS, fun _ => rfl⟩) (fun _ _ _ _ _ h => h)
  case F =>
    intro w mg fa h KX G hmg
    refine' K0.all_mk KX G hmg ?a1 ?l1 ?c1 ?k1 ?a2 ?l2 ?c2 ?k2 ?a3 ?l3 ?c3 ?k3 ?a4 ?l4 ?c4 ?k4 ?a5 ?l5 ?c5 ?k5 ?a6 ?l6 ?c6 ?k6 ?a7 ?l7 ?c7 ?k7 ?a8 ?l8 ?c8 ?k8 ?a9 ?l9 ?c9 ?k9 ?a10 ?l10 ?c10 ?k10 ?a11 ?l11 ?c11 ?k11 ?a12 ?l12 ?c12 ?k12 ?a13 ?l13 ?c13 ?k13 ?a14 ?l14 ?c14 ?k14 ?a15 ?l15 ?c15 ?k15 ?a16 ?l16 ?c16 ?k16 ?a17 ?l17 ?c17 ?k17 ?a18 ?l18 ?c18 ?k18 ?a19 ?l19 ?c19 ?k19 ?a20 ?l20 ?c20 ?k20 ?a21 ?l21 ?c21 ?k21 ?a22 ?l22 ?c22 ?k22 ?a23 ?l23 ?c23 ?k23 ?a24 ?l24 ?c24 ?k24 ?a25 ?l25 ?c25 ?k25 ?a26 ?l26 ?c26 ?k26 ?a27 ?l27 ?c27 ?k27 ?a28 ?l28 ?c28 ?k28 ?a29 ?l29 ?c29 ?k29 ?a30 ?l30 ?c30 ?k30 ?a31 ?l31 ?c31 ?k31 ?a32 ?l32 ?c32 ?k32 ?a33 ?l33 ?c33 ?k33 ?a34 ?l34 ?c34 ?k34 ?a35 ?l35 ?c35 ?k35 ?a36 ?l36 ?c36 ?k36 ?a37 ?l37 ?c37 ?k37 ?aC_LookerError ?aC_BadName ?aC_BadCell ?iL ?tL ?xL_BadName ?sa_BadName ?ga_BadName ?gg_BadName ?no_BadName ?iC_BadName ?tI_BadName ?l38 ?c38 ?k38 ?kC_BadName ?eC_BadName ?tC_BadName ?hC_BadName ?sC_BadName ?su_BadName ?xL_BadCell ?sa_BadCell ?ga_BadCell ?gg_BadCell ?no_BadCell ?iC_BadCell ?tI_BadCell ?l39 ?c39 ?k39 ?kC_BadCell ?eC_BadCell ?tC_BadCell ?hC_BadCell ?sC_BadCell ?su_BadCell ?xHn ?xHt ?xA_BadName ?xM_BadName ?xI_BadName ?xN_BadName ?xA_BadCell ?xM_BadCell ?xI_BadCell ?xN_BadCell ?z_ValueError ?z_all ?z_bool ?z_dict ?z_enumerate ?z_int ?z_isinstance ?z_len ?z_list ?z_max ?z_range ?z_set ?z_sorted ?z_str ?z_tuple ?z_zip ?g_MOST_NAMES ?g_ENDLESS
    (case a1 => k_is)
    (case l1 => k_is)
    (case c1 => k_is)
    (case k1 => k_is)
    (case a2 => k_is)
    (case l2 => k_is)
    (case c2 => k_is)
    (case k2 => k_is)
    (case a3 => k_is)
    (case l3 => k_is)
    (case c3 => k_is)
    (case k3 => k_is)
    (case a4 => k_is)
    (case l4 => k_is)
    (case c4 => k_is)
    (case k4 => k_is)
    (case a5 => k_is)
    (case l5 => k_is)
    (case c5 => k_is)
    (case k5 => k_is)
    (case a6 => k_is)
    (case l6 => k_is)
    (case c6 => k_is)
    (case k6 => k_is)
    (case a7 => k_is)
    (case l7 => k_is)
    (case c7 => k_is)
    (case k7 => k_is)
    (case a8 => k_is)
    (case l8 => k_is)
    (case c8 => k_is)
    (case k8 => k_is)
    (case a9 => k_is)
    (case l9 => k_is)
    (case c9 => k_is)
    (case k9 => k_is)
    (case a10 => k_is)
    (case l10 => k_is)
    (case c10 => k_is)
    (case k10 => k_is)
    (case a11 => k_is)
    (case l11 => k_is)
    (case c11 => k_is)
    (case k11 => k_is)
    (case a12 => k_is)
    (case l12 => k_is)
    (case c12 => k_is)
    (case k12 => k_is)
    (case a13 => k_is)
    (case l13 => k_is)
    (case c13 => k_is)
    (case k13 => k_is)
    (case a14 => k_is)
    (case l14 => k_is)
    (case c14 => k_is)
    (case k14 => k_is)
    (case a15 => k_is)
    (case l15 => k_is)
    (case c15 => k_is)
    (case k15 => k_is)
    (case a16 => k_is)
    (case l16 => k_is)
    (case c16 => k_is)
    (case k16 => k_is)
    (case a17 => k_is)
    (case l17 => k_is)
    (case c17 => k_is)
    (case k17 => k_is)
    (case a18 => k_is)
    (case l18 => k_is)
    (case c18 => k_is)
    (case k18 => k_is)
    (case a19 => k_is)
    (case l19 => k_is)
    (case c19 => k_is)
    (case k19 => k_is)
    (case a20 => k_is)
    (case l20 => k_is)
    (case c20 => k_is)
    (case k20 => k_is)
    (case a21 => k_is)
    (case l21 => k_is)
    (case c21 => k_is)
    (case k21 => k_is)
    (case a22 => k_is)
    (case l22 => k_is)
    (case c22 => k_is)
    (case k22 => k_is)
    (case a23 => k_is)
    (case l23 => k_is)
    (case c23 => k_is)
    (case k23 => k_is)
    (case a24 => k_is)
    (case l24 => k_is)
    (case c24 => k_is)
    (case k24 => k_is)
    (case a25 => k_is)
    (case l25 => k_is)
    (case c25 => k_is)
    (case k25 => k_is)
    (case a26 => k_is)
    (case l26 => k_is)
    (case c26 => k_is)
    (case k26 => k_is)
    (case a27 => k_is)
    (case l27 => k_is)
    (case c27 => k_is)
    (case k27 => k_is)
    (case a28 => k_is)
    (case l28 => k_is)
    (case c28 => k_is)
    (case k28 => k_is)
    (case a29 => k_is)
    (case l29 => k_is)
    (case c29 => k_is)
    (case k29 => k_is)
    (case a30 => k_is)
    (case l30 => k_is)
    (case c30 => k_is)
    (case k30 => k_is)
    (case a31 => k_is)
    (case l31 => k_is)
    (case c31 => k_is)
    (case k31 => k_is)
    (case a32 => k_is)
    (case l32 => k_is)
    (case c32 => k_is)
    (case k32 => k_is)
    (case a33 => k_is)
    (case l33 => k_is)
    (case c33 => k_is)
    (case k33 => k_is)
    (case a34 => k_is)
    (case l34 => k_is)
    (case c34 => k_is)
    (case k34 => k_is)
    (case a35 => k_is)
    (case l35 => k_is)
    (case c35 => k_is)
    (case k35 => k_is)
    (case a36 => k_is)
    (case l36 => k_is)
    (case c36 => k_is)
    (case k36 => k_is)
    (case a37 => k_is)
    (case l37 => k_is)
    (case c37 => k_is)
    (case k37 => k_is)
    (case aC_LookerError => k_is)
    (case aC_BadName => k_is)
    (case aC_BadCell => k_is)
    (case iL => k_is)
    (case tL => k_is)
    (case xL_BadName => k_is)
    (case sa_BadName => k_is)
    (case ga_BadName => k_is)
    (case gg_BadName => k_is)
    (case no_BadName => k_is)
    (case iC_BadName => k_is)
    (case tI_BadName => k_is)
    (case l38 => k_is)
    (case c38 => k_is)
    (case k38 => k_is)
    (case kC_BadName => k_is)
    (case eC_BadName => k_is)
    (case tC_BadName => k_is)
    (case hC_BadName => k_is)
    (case sC_BadName => k_is)
    (case su_BadName => k_is)
    (case xL_BadCell => k_is)
    (case sa_BadCell => k_is)
    (case ga_BadCell => k_is)
    (case gg_BadCell => k_is)
    (case no_BadCell => k_is)
    (case iC_BadCell => k_is)
    (case tI_BadCell => k_is)
    (case l39 => k_is)
    (case c39 => k_is)
    (case k39 => k_is)
    (case kC_BadCell => k_is)
    (case eC_BadCell => k_is)
    (case tC_BadCell => k_is)
    (case hC_BadCell => k_is)
    (case sC_BadCell => k_is)
    (case su_BadCell => k_is)
    (case xHn => k_is)
    (case xHt => k_is)
    (case xA_BadName => k_is)
    (case xM_BadName => k_is)
    (case xI_BadName => k_is)
    (case xN_BadName => k_is)
    (case xA_BadCell => k_is)
    (case xM_BadCell => k_is)
    (case xI_BadCell => k_is)
    (case xN_BadCell => k_is)
    (case z_ValueError => k_is)
    (case z_all => k_is)
    (case z_bool => k_is)
    (case z_dict => k_is)
    (case z_enumerate => k_is)
    (case z_int => k_is)
    (case z_isinstance => k_is)
    (case z_len => k_is)
    (case z_list => k_is)
    (case z_max => k_is)
    (case z_range => k_is)
    (case z_set => k_is)
    (case z_sorted => k_is)
    (case z_str => k_is)
    (case z_tuple => k_is)
    (case z_zip => k_is)
    (case g_MOST_NAMES => k_is)
    (case g_ENDLESS => k_is)

