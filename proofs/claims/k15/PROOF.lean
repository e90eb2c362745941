import PyProof.Rows.All
import Wide.All
import OpenK.AllK
import Wide.FinOn
import HandS.ForMost
import HandS.SortKw
import HandS.TupAny
import KE.SortData
import KE.DatumOrd
import HandS.DictComp
import HandS.Conv
import HandS.Walk
import HandS.Star
import HandS.Zip
import HandS.TupSets
import HandS.SetFor
import HandS.ExcIs
import HandS.ExcField
import KE.KExcIs
import KE.GoesEnum
import KE.GoesMore
import KE.KDictZip
import HandS.Wide
import HandS.Style
import KE.KRevSl
import HandS.ClsMeth
import OpenK.KOps
import OpenK.KMeth
import HandS.Codes
import HandS.DictTup
import KE.KDictItemsList
import KE.KDictKeyed
import KE.KeyNested
import KE.KDictPairs
import KE.KDictCopyH
import HandS.Words
import HandS.IterNext
import HandS.OwnIter
import PyProof.WalksMore
import PyProof.CollectWalk
import HandS.Deep
import KE.KEqDict
import PyProof.NeData
import KE.KDictLaw
import HandS.CallSlots
import HandS.Defaults
import HandS.ExcInit
import HandS.Steps
import HandS.IsInst
import HandS.TryOnly
import HandS.Exc
import HandS.ExcOwn
import HandS.WordsExc
import HandS.Replace
import HandS.AnyAll
import HandS.Small
import HandS.Finally
import PySem.Challenge.RW_onelooker_k15_propagation_in_any_order
set_option Elab.async false
set_option linter.all false
set_option maxRecDepth 100000
set_option maxHeartbeats 4000000
namespace R0
open PySem PySem.Spec PyProof.Rows L2
/-! ### sorted(xs), the items any data: the one stable order -/
def sortV (xs : List V) (ds : List PyData) : List V := ((xs.zip ds).mergeSort (PySem.W.dataLe false Prod.snd)).map Prod.fst
def DepLe (n : Nat) (ds : List PyData) : Prop := ∀ d ∈ ds, d.depth ≤ n
theorem dpAll_len {K : PySem.W.Frag} {H : Hp} : ∀ {xs : List V} {ds : List PyData}, DpAll K H xs ds → xs.length = ds.length
  | _, _, .nil => rfl
  | _, _, .cons _ t => congrArg Nat.succ (dpAll_len t)
section
variable {X : Cx} {pins : List (Addr × Obj)} {σ : L2.St} {H : Hp} {s : Shared}
theorem each_rel : ∀ {xs : List V} {its : List Value} {ds : List PyData}, Vals xs its → DpAll X.K H xs ds → PySem.W.EachIs (fun (v : Value) (b : V × PyData) => RelV b.1 v) its (xs.zip ds)
  | _, _, _, .nil, .nil => .nil
  | _, _, _, .cons r t, .cons _ d => .cons r (each_rel t d)
theorem each_reads (I : Inv X pins σ H s) : ∀ {xs : List V} {its : List Value} {ds : List PyData}, Vals xs its → DpAll X.K H xs ds → PySem.W.EachIs (fun (v : Value) (b : V × PyData) => ∃ as, Reads s.heap v b.2 as) its (xs.zip ds)
  | _, _, _, .nil, .nil => .nil
  | _, _, _, .cons r t, .cons h d => .cons (Dp.reads I _ _ _ h r) (each_reads I t d)
theorem each_vals : ∀ {out : List Value} {bs : List (V × PyData)}, PySem.W.EachIs (fun (v : Value) (b : V × PyData) => RelV b.1 v) out bs → Vals (bs.map Prod.fst) out
  | _, _, .nil => .nil
  | _, _, .cons r t => .cons r (each_vals t)
theorem zip_snd : ∀ {xs : List V} {ds : List PyData}, xs.length = ds.length → (xs.zip ds).map Prod.snd = ds
  | [], [], _ => rfl
  | x :: xs, d :: ds, h => congrArg (d :: ·) (zip_snd (Nat.succ.inj h))
def rSortD (K : PySem.W.Frag) : List V → Hp → VK → Prop := fun vs H Q => ∃ (a : Addr) (xs : List V) (ds : List PyData), vs = [.ref a] ∧ SqL K H a xs ∧ DpAll K H xs ds ∧ PySem.W.AllAlike ds ∧ PySem.W.Sortable ds ∧ DepLe 60 ds ∧
  ∀ p, H p = none → Q (.ref p) (upd H p (.lst (sortV xs ds)))
theorem cr_sortD (hu : X.A.units + 64 < cLine) : CallR X (.builtin "sorted") (rSortD X.K) := by
  intro pins s σ H vs us Q I r h
  obtain ⟨a, xs, ds, rfl, hs, hd, hal, hk, hdep, q⟩ := h
  obtain ⟨its, rv, pl, hz⟩ := I.list hs
  obtain ⟨u, rfl, ru⟩ := vals1 r
  obtain rfl : u = Value.ref a := ru
  have el := dpAll_len hd
  have em := zip_snd el
  have ln : (xs.zip ds).length = xs.length := by rw [List.length_zip, ← el, Nat.min_self]
  have lt : its.length = xs.length := rv.length.symm
  refine PySem.W.sorted_data (β := V × PyData) (enc := Prod.snd) (bs := xs.zip ds) (vs := its) (R := fun v b => RelV b.1 v) pl.isList (each_rel rv hd) (each_reads I rv hd) (by rw [em]; exact hal) (by rw [em]; exact hk) (by rw [ln]; exact hz) (fun b hb => ?_) fun out ho hE => ?_
  · have : b.2.depth ≤ 60 := hdep _ (by rw [← em]; exact List.mem_map.mpr ⟨b, hb, rfl⟩)
    omega
  · obtain ⟨e, he⟩ := PyProof.Rows.sortedAll_at s.heap its (List.toArray out)
    have hv := each_vals hE
    refine ⟨.ref (s.heap.objs.size + 1), upd H (s.heap.objs.size + 1) (.lst (sortV xs ds)), I.laid (t' := s.toks) (fun b o z => PyProof.Rows.sortedAll_old z) (Nat.le_succ _) ⟨?_, out, e, hv, he⟩, rfl, q _ (I.hok.fresh (Nat.le_succ _))⟩
    unfold sortV
    rw [List.length_map, List.length_mergeSort, ln]
    exact hz
/-! ### max(t, default=d), t a tuple or a list of ints -/
def maxL (d : Int) : List Int → Int
  | [] => d
  | x :: r => r.foldl (fun a y => if a < y then y else a) x
theorem maxOf_int (x : Int) (r : List Int) : PySem.W.maxOf x r = maxL 0 (x :: r) := by
  unfold PySem.W.maxOf maxL
  congr 1
  funext a y
  by_cases h : a < y
  · rw [if_pos h, if_pos (show PySem.W.DatumOrd.lt a y = true from decide_eq_true h)]
  · rw [if_neg h, if_neg (fun z : PySem.W.DatumOrd.lt a y = true => h (of_decide_eq_true z))]
theorem hold_ints {h : Heap} : ∀ {ns : List Int} {us : List Value}, Vals (ns.map V.int) us → PySem.W.HoldAll h us ns
  | [], _, .nil => ⟨_, .nil⟩
  | n :: ns, _, .cons r t => by
    obtain ⟨k, rfl⟩ := r
    obtain ⟨as, q⟩ := hold_ints t
    exact ⟨_, .cons (.int n k) q⟩
def rMaxD (K : PySem.W.Frag) : List V → List V → Hp → VK → Prop := fun vs zs H Q => ∃ (a : Addr) (ns : List Int) (d : Int), vs = [.ref a] ∧ zs = [.int d] ∧ (SqT K H a (ns.map V.int) ∨ SqL K H a (ns.map V.int)) ∧ Q (.int (maxL d ns)) H
theorem ck_maxD (hc : X.calm = true) (hu : X.A.units + 64 < cLine) : CallRK X (.builtin "max") ["default"] (rMaxD X.K) := by
  intro pins s σ H xs zs us ws Q I r rz h
  obtain ⟨a, ns, d, rfl, rfl, hs, q⟩ := h
  obtain ⟨u, rfl, ru⟩ := vals1 r
  obtain rfl : u = Value.ref a := ru
  obtain ⟨w1, rfl, rw1⟩ := vals1 rz
  have fin : ∀ (i : Nat) (v : Value) (h' : Heap) (tk : Nat) (y : Int) (ys : List Int), ns = y :: ys → PySem.W.Holds h' v (PySem.W.maxOf y ys) → (∀ b o, s.heap.get? b = some o → h'.get? b = some o) → EP X pins σ Q v { s with heap := h', toks := tk } := fun i v h' tk y ys e hv k => by
    obtain ⟨as, hv⟩ := hv
    subst e
    have hv' : Reads h' v (.int (PySem.W.maxOf y ys)) as := hv
    cases hv'
    refine ⟨.int (PySem.W.maxOf y ys), H, I.kept k, ⟨_, rfl⟩, ?_⟩
    rw [maxOf_int]
    exact q
  have fin0 : ns = [] → ∀ (h' : Heap) (tk : Nat), (∀ b o, s.heap.get? b = some o → h'.get? b = some o) → EP X pins σ Q w1 { s with heap := h', toks := tk } := fun e h' tk k => by
    subst e
    exact ⟨.int d, H, I.kept k, rw1, q⟩
  rcases hs with hs | hs
  · obtain ⟨its, rv, ht, hz⟩ := I.tuple hs
    refine PySem.W.max_tuple_datum_default (xs := ns) (vs := its.toArray) (I.ok.hd hc) ht ?_ ?_ fin0 fun y ys i v h' tk e _ hv k => fin i v h' tk y ys e hv k
    · simpa using hold_ints (h := s.heap) rv
    · show X.A.units + 1 + 0 < cLine
      omega
  · obtain ⟨its, rv, pl, hz⟩ := I.list hs
    refine PySem.W.max_list_datum_default (xs := ns) (vs := its.toArray) (I.ok.hd hc) pl.isList ?_ ?_ fin0 fun y ys i v h' tk e _ hv k => fin i v h' tk y ys e hv k
    · simpa using hold_ints (h := s.heap) rv
    · show X.A.units + 1 + 0 < cLine
      omega
end
end R0

/-! a dict comprehension whose keys are tuples of ints and texts -/
namespace R1
open PySem PySem.Spec PyProof.Rows L2
/-- one entry more, the key a tracked tuple -/
theorem tput {X : Cx} {pn : List (Addr × Obj)} {τ : L2.St} {G : Hp} {s : Shared} {E : Value → Shared → Prop} {D b : Addr} {es : List (List Key × V)} {k : List Key} {z : V} {r : Value} {Q : Unit → Shared → Prop} (hu : X.A.units + 1 < cLine) (J : Inv X pn τ G s)
    (gD : G D = some (.dT es)) (gb : G b = some (.tup (k.map kV))) (hn : es.length < sizeLine) (rz : RelV z r) (q : ∀ s', Inv X pn τ (upd G D (.dT (putK es k z))) s' → Q () s') : wpAny (model X.prog X.w) X.A (dictSet D (.ref b) r) Q E s := by
  obtain ⟨e1, e2, ks, rk, dd⟩ := dt_of J.hok gD
  have f1 : ks.length ≤ sizeLine := Paired.length rk ▸ e1
  have f2 := length_putK es k z
  refine wpAny_dictSet_heap (hsz := f1) (Nat.lt_of_succ_lt hu) (key_of J.hok gb) dd fun g' dg sb => q _ ?_
  obtain ⟨w0, w1, w2, a0, a1, a2, a3, _, a4⟩ := dg
  have kt := (rk.put k gb rz).keeps (H' := upd G D (.dT (putK es k z))) fun c ys ec => by
    rw [upd_ne (ne_of ec gD (fun y => nomatch y))]
    exact ec
  exact d_write J (by rw [gD]; trivial) sb ⟨w0, a0⟩ ⟨by omega, e2, _, kt, w0, w1, w2, a0, a1, a2, a3, a4⟩
/-- the reading of {k: v for target in iter if ..} with such keys -/
def tDcT (src : TI) (g : TG) (tt : TT) (tk tv : TE) (own : List Nat) : TE := fun σ H Q => src σ H fun J G => ∀ D, G D = none → ∃ W : Nat → Nat → Hp → Prop, (∃ m, W 0 m (upd G D (.dT []))) ∧ ∀ i m F, W i m F →
  (J.stop i F ∧ Q (.ref D) F) ∨ (J.go i F ∧ ∃ Nx : Hp → Prop, (∀ F', Nx F' → ∃ m', m' < m ∧ W (i + 1) m' F') ∧ ∀ x F', J.yld i F x F' → g x (wipe σ own) F' fun τ F2 => wipe τ own = wipe σ own ∧ tt τ F2 fun c F3 =>
    if c = true then tk τ F3 fun y F4 => tv τ F4 fun z F5 => ∃ es k b, y = .ref b ∧ F5 b = some (.tup (k.map kV)) ∧ F5 D = some (.dT es) ∧ es.length < sizeLine ∧ Nx (upd F5 D (.dT (putK es k z))) else Nx F3)
section
variable {X : Cx} {kx vx tg iter : Expr} {ifs : List Expr} {scope : Scope} {own : List (Str × Nat)} {pos : Pos} {src : TI} {g : TG} {tt : TT} {tk tv : TE}
theorem dcT_core {pins : List (Addr × Obj)} {s : Shared} {σ : L2.St} {H : Hp} {Q : VK} {pos' : Pos} {use : Option (Value → Sem Unit)} {Qf : Value → Shared → Prop} (I : Inv X pins σ H s)
    (hu : X.A.units + 64 < cLine) (hc : X.calm = true) (hN : X.N.Nodup) (hi : PI X tg iter src) (ok : BlkOk X.N X.env.scope scope own)
    (hg : ∀ (s : Shared) (G : Hp) (C : Addr) (cl : List (Str × Addr)) (fp : List Addr), PG (X.blk s G scope (compEnvC scope cl C X.env) fp) tg g)
    (ht : ∀ (s : Shared) (G : Hp) (C : Addr) (cl : List (Str × Addr)) (fp : List Addr), PTs (X.blk s G scope (compEnvC scope cl C X.env) fp) ifs tt)
    (hk : ∀ (s : Shared) (G : Hp) (C : Addr) (cl : List (Str × Addr)) (fp : List Addr), PE (X.blk s G scope (compEnvC scope cl C X.env) fp) kx tk)
    (hv : ∀ (s : Shared) (G : Hp) (C : Addr) (cl : List (Str × Addr)) (fp : List Addr), PE (X.blk s G scope (compEnvC scope cl C X.env) fp) vx tv)
    (hs : ∀ x, foldedSetIterable iter X.env x = pure x) (h : tDcT src g tt tk tv (own.map (·.2)) σ H Q)
    (hR : ∀ D C s' m F, Inv X pins σ F s' → Q (.ref D) F → s'.heap.Ns C m → FpOk X pins F C → compPost (model X.prog X.w) X.A X.xe use Qf (.ref D) C (.ok .next) s') :
    wpAny (model X.prog X.w) X.A (comprehension (.DictComp kx vx [⟨tg, iter, ifs, 0⟩] scope pos) scope X.env pos' newDict false (eval iter X.env) use) Qf X.xe s := by
  have fr : ∀ y ∈ scope.names, y.2 = .free → ∃ c, X.env.cells.lookup y.1 = some c := fun y hy e => (ok.free y hy e).elim (fun z => I.ok.has _ (.inl z)) fun z => I.ok.has _ (.inr z)
  refine wpAny_comprehension_free (use := use) rfl hs (closure_ok fr) ok.kind (fun y hy e => by rw [ok.uniq y hy, e]) (thn (hi.run pins s σ H _ I h) fun xv s1 hx => thn hx fun iv s2 a2 => ?_)
  obtain ⟨it, fp, tn, J, G, rfl, K2, T, t2, p2, q⟩ := a2
  refine wpAny_newObj_type (newEnv_comp ?_)
  obtain ⟨W, ⟨m0, w0⟩, turn⟩ := q s2.heap.objs.size (K2.hok.fresh (Nat.le_refl _))
  generalize eD : s2.heap.objs.size = D at w0 turn
  have nD : G D = none := K2.hok.fresh (Nat.le_of_eq eD)
  -- the new dict
  generalize e3 : ({ s2 with heap := s2.heap.push { cls := .type "dict", data := .dict #[] } } : Shared) = s3
  have K3 : Inv X pins σ (upd G D (.dT [])) s3 := by
    subst e3
    refine K2.laid (t' := s2.toks) (fun b o z => Heap.get?_push_of_some _ z) (Nat.le_of_eq eD) ?_
    subst eD
    exact dt_empty s2.heap K2.big
  have z3 : s3.heap = s2.heap.push { cls := .type "dict", data := .dict #[] } := by subst e3; rfl
  have p3 : ∀ b ∈ fp, FpOk X pins (upd G D (.dT [])) b ∧ b < s3.heap.objs.size := fun b hb => by
    obtain ⟨o, y, _⟩ := T.obj _ _ t2 b hb
    have lt : b < s2.heap.objs.size := Heap.lt_size y
    refine ⟨⟨?_, (p2 b hb).2⟩, by rw [z3, Heap.size_push]; exact Nat.lt_succ_of_lt lt⟩
    rw [upd_ne (by rw [← eD]; exact Nat.ne_of_lt lt)]
    exact (p2 b hb).1
  have t3 : tn 0 s3.heap := T.keep _ _ _ t2 fun b _ o y => by rw [z3]; exact Heap.get?_push_of_some _ y
  have K4 := block_start K3 ok hN p3
  have qg := hg s3 (upd G D (.dT [])) s3.heap.objs.size (cellsFrom (s3.heap.objs.size + 1) scope.names (cloFrom X.env.cells scope.names [])) fp
  have qt := ht s3 (upd G D (.dT [])) s3.heap.objs.size (cellsFrom (s3.heap.objs.size + 1) scope.names (cloFrom X.env.cells scope.names [])) fp
  have qk := hk s3 (upd G D (.dT [])) s3.heap.objs.size (cellsFrom (s3.heap.objs.size + 1) scope.names (cloFrom X.env.cells scope.names [])) fp
  have qv := hv s3 (upd G D (.dT [])) s3.heap.objs.size (cellsFrom (s3.heap.objs.size + 1) scope.names (cloFrom X.env.cells scope.names [])) fp
  have np : ∀ b ∈ fp, (upd G D (.dT [])) b = none := fun b hb => (p3 b hb).1.1
  show codeAny _ _ (.compStart (.DictComp kx vx [⟨tg, iter, ifs, 0⟩] scope pos) 0 (.ref it) (.ref D) (compEnvC scope (cellsFrom (s3.heap.objs.size + 1) scope.names (cloFrom X.env.cells scope.names [])) s3.heap.objs.size X.env)) (compPost (model X.prog X.w) X.A X.xe use _ (.ref D) s3.heap.objs.size) { s3 with heap := pushCells (s3.heap.push { cls := .type "dict", data := .dict #[] }) scope.names }
  generalize ec : compEnvC scope (cellsFrom (s3.heap.objs.size + 1) scope.names (cloFrom X.env.cells scope.names [])) s3.heap.objs.size X.env = ce at K4 qg qt qk qv ⊢
  have eL : ce.locals = s3.heap.objs.size := by subst ec; rfl
  generalize eG : upd G D (.dT []) = G3 at K3 K4 qg qt qk qv w0 np p3
  generalize e4 : ({ s3 with heap := pushCells (s3.heap.push { cls := .type "dict", data := .dict #[] }) scope.names } : Shared) = s4 at K4 ⊢
  have t4 : tn 0 s4.heap := T.keep _ _ _ t3 fun b _ o y => by subst e4; exact pushCells_keeps _ _ _ _ (Heap.get?_push_of_some _ y)
  have still : ∀ {τ : L2.St} {F : Hp} {s' : Shared}, Inv (X.blk s3 G3 scope ce fp) [] τ F s' → (∀ b ∈ fp, F b = none) → ∀ b ∈ fp, FpOk (X.blk s3 G3 scope ce fp) [] F b := fun {τ F s'} L n b hb =>
    ⟨n b hb, (L.ok.exf b hb).1, L.ok.exfs b hb, .inl hb, fun x c y => (L.ok.exf b hb).2 x c y, fun p hp => absurd (show p ∈ ([] : List (Addr × Obj)) ++ [] from hp) (by simp)⟩
  have go : codeAny (model X.prog X.w) X.A (.compLoop (.DictComp kx vx [⟨tg, iter, ifs, 0⟩] scope pos) 0 (.ref it) (.ref D) ce) (compPost (model X.prog X.w) X.A X.xe use Qf (.ref D) s3.heap.objs.size) s4 := by
    refine compLoop_anyD (fun n s' => ∃ i F, Inv (X.blk s3 G3 scope ce fp) [] (wipe σ (own.map (·.2))) F s' ∧ tn i s'.heap ∧ (∀ b ∈ fp, F b = none) ∧ W i n F) ?_ m0 ⟨0, G3, K4, t4, np, w0⟩
    rintro n s5 ⟨i, F, L, t5, n5, w5⟩
    rcases turn i n F w5 with ⟨stop, qq⟩ | ⟨hgo, Nx, hNx, step⟩
    · refine thnF (T.done (X.blk s3 G3 scope ce fp) rfl rfl rfl hc i [] s5 _ F (fun _ _ => False) L (still L n5) t5 stop) fun r s6 ⟨hr, L6⟩ => ?_
      subst hr
      have M : Inv X pins σ F s6 := K3.call' (ch := fp) L6.os L6.base L6.hok L6.bare fun b hb => ⟨(p3 b hb).1.2.2.2.1, (p3 b hb).1.2.1, (p3 b hb).1.2.2.2.2.1, (p3 b hb).1.2.2.2.2.2⟩
      have nC : F s3.heap.objs.size = none := eL ▸ L6.free
      obtain ⟨m, hn, _⟩ := L6.loc
      have hn' : s6.heap.Ns ce.locals m := hn
      rw [eL] at hn'
      exact hR D s3.heap.objs.size s6 m F M qq hn' (K3.fpOk (Nat.le_refl _) nC)
    · refine thnF (T.item (X.blk s3 G3 scope ce fp) rfl rfl rfl hc i [] s5 _ F (fun _ _ => False) L (still L n5) t5 hgo) fun r s6 ⟨u, hr, h6⟩ => ?_
      subst hr
      refine thnF h6 fun _ s7 ⟨x, F7, L7, r7, y7, t7, n7⟩ => ?_
      have L7' := L7.pinned (still L7 n7) (T.obj _ _ t7)
      refine thnF (qg.run _ s7 _ F7 x u _ L7' r7 (step x F7 y7)) fun _ s8 ⟨τ, F8, L8, hw, q8⟩ => ?_
      refine thnF (qt.run _ s8 τ F8 _ L8 q8) fun c s9 ⟨F9, L9, q9⟩ => ?_
      have fin : ∀ {s' : Shared} {F' : Hp}, Inv (X.blk s3 G3 scope ce fp) ([] ++ pinsAt fp s7.heap) τ F' s' → Nx F' → ∃ m, m < n ∧ ∃ i F', Inv (X.blk s3 G3 scope ce fp) [] (wipe σ (own.map (·.2))) F' s' ∧ tn i s'.heap ∧ (∀ b ∈ fp, F' b = none) ∧ W i m F' := fun {s' F'} L' nx => by
        obtain ⟨m', hm, w'⟩ := hNx F' nx
        have pin : ∀ b ∈ fp, ∀ o, s7.heap.get? b = some o → s'.heap.get? b = some o ∧ F' b = none := fun b hb o y =>
          have z := L'.pin (b, o) (List.mem_append_right _ (List.mem_append_right _ (mem_pinsAt hb y)))
          ⟨z.1, z.2.1⟩
        refine ⟨m', hm, i + 1, F', (L'.unpinned (pins := [])).weak (by rw [← hw, wipe_length]) (fun j v y => ?_), T.keep _ _ _ t7 fun b hb o y => (pin b hb o y).1, fun b hb => ?_, w'⟩
        · rw [← hw] at y
          exact (wipe_some y).1
        · obtain ⟨o, y, _⟩ := T.obj _ _ t7 b hb
          exact (pin b hb o y).2
      cases c with
      | false =>
        simp only [Bool.false_eq_true, if_false] at q9 ⊢
        exact fin L9 q9
      | true =>
        simp only [if_true] at q9 ⊢
        refine thnF (qk.run _ s9 τ F9 _ L9 q9) fun a1 s10 ⟨yk, F10, L10, r10, q10⟩ => ?_
        refine thnF (qv.run _ s10 τ F10 _ L10 q10) fun a2 s11 ⟨yv, F11, L11, r11, es, k, b, ek, hb, hD, hz, nx⟩ => ?_
        subst ek
        cases (show a1 = Value.ref b from r10)
        exact tput (X := X.blk s3 G3 scope ce fp) (by show X.A.units + 1 < cLine; omega) L11 hD hb hz r11 fun s12 L12 => fin L12 nx
  exact codeAny_compStart_dict go (T.self X.A 0 _ _ _ t4 go)
theorem pe_dcT (hu : X.A.units + 64 < cLine) (hc : X.calm = true) (hN : X.N.Nodup) (hi : PI X tg iter src) (ok : BlkOk X.N X.env.scope scope own)
    (hg : ∀ (s : Shared) (G : Hp) (C : Addr) (cl : List (Str × Addr)) (fp : List Addr), PG (X.blk s G scope (compEnvC scope cl C X.env) fp) tg g)
    (ht : ∀ (s : Shared) (G : Hp) (C : Addr) (cl : List (Str × Addr)) (fp : List Addr), PTs (X.blk s G scope (compEnvC scope cl C X.env) fp) ifs tt)
    (hk : ∀ (s : Shared) (G : Hp) (C : Addr) (cl : List (Str × Addr)) (fp : List Addr), PE (X.blk s G scope (compEnvC scope cl C X.env) fp) kx tk)
    (hv : ∀ (s : Shared) (G : Hp) (C : Addr) (cl : List (Str × Addr)) (fp : List Addr), PE (X.blk s G scope (compEnvC scope cl C X.env) fp) vx tv)
    (hs : ∀ x, foldedSetIterable iter X.env x = pure x := by intro _; rfl) : PE X (.DictComp kx vx [⟨tg, iter, ifs, 0⟩] scope pos) (tDcT src g tt tk tv (own.map (·.2))) := by
  refine ⟨fun pins s σ H Q I h => ?_⟩
  rw [arm_eval_DictComp]
  refine dcT_core I hu hc hN hi ok hg ht hk hv hs h fun D C s' m F J q hn f => ⟨m, hn, fun h'' sb => ?_⟩
  obtain ⟨y0, y1, y2, y3, y4, y5⟩ := f
  exact ⟨.ref D, F, J.turned (t' := s'.toks) (fun b o hb z => (sb.2 b hb).trans z) y0 y1 y3 y4 y5, rfl, q⟩
/-- what is stored behind a comprehension's frame -/
theorem dc_store {pins : List (Addr × Obj)} {σ : L2.St} {F : Hp} {s' : Shared} {i : Nat} {y : Str} {py : Pos} {D C : Addr} {m : Str → Option Value} {Ds : Ends} (hN : X.N.Nodup) (hy : X.N[i]? = some y) (hl : X.env.scope.names.lookup y = some .local) (J : Inv X pins σ F s')
    (q : gName i (.ref D) σ F Ds.nx) (hn : s'.heap.Ns C m) (f : FpOk X pins F C) :
    compPost (model X.prog X.w) X.A X.xe (some (assign (.Name y py) X.env)) (fun _ s'' => SP X pins Ds .next s'') (.ref D) C (.ok .next) s' := by
  show wpAny _ _ (assign (.Name y py) X.env (.ref D)) _ _ _
  refine wpAny_assign_Name (store_ok2 (v := V.ref D) J hN hy (.inl hl) rfl (fun s2 J2 ⟨a, sb, ha⟩ => ?_) (.inr hl))
  obtain ⟨y0, y1, y2, y3, y4, y5⟩ := f
  have ne : C ≠ a := by
    rcases ha with z | z
    · rw [z]; exact y1
    · exact fun e => y4 y a z e.symm
  exact ⟨m, hn.sameBut sb ne, fun h3 sb3 => ⟨_, F, J2.turned (t' := s2.toks) (fun b o hb z => (sb3.2 b hb).trans z) y0 y1 y3 y4 y5, q⟩⟩
theorem ps_setDcT {i : Nat} {y : Str} {py spos : Pos} (hy : X.N[i]? = some y) (hl : X.env.scope.names.lookup y = some .local) (hsw : swapsWith (.DictComp kx vx [⟨tg, iter, ifs, 0⟩] scope pos) (some (.Name y py)) spos.line X.env = pure true)
    (hu : X.A.units + 64 < cLine) (hc : X.calm = true) (hN : X.N.Nodup) (hi : PI X tg iter src) (ok : BlkOk X.N X.env.scope scope own)
    (hg : ∀ (s : Shared) (G : Hp) (C : Addr) (cl : List (Str × Addr)) (fp : List Addr), PG (X.blk s G scope (compEnvC scope cl C X.env) fp) tg g)
    (ht : ∀ (s : Shared) (G : Hp) (C : Addr) (cl : List (Str × Addr)) (fp : List Addr), PTs (X.blk s G scope (compEnvC scope cl C X.env) fp) ifs tt)
    (hk : ∀ (s : Shared) (G : Hp) (C : Addr) (cl : List (Str × Addr)) (fp : List Addr), PE (X.blk s G scope (compEnvC scope cl C X.env) fp) kx tk)
    (hv : ∀ (s : Shared) (G : Hp) (C : Addr) (cl : List (Str × Addr)) (fp : List Addr), PE (X.blk s G scope (compEnvC scope cl C X.env) fp) vx tv)
    (hs : ∀ x, foldedSetIterable iter X.env x = pure x := by intro _; rfl) : PS X (.Assign [.Name y py] (.DictComp kx vx [⟨tg, iter, ifs, 0⟩] scope pos) spos) (tAsg (tDcT src g tt tk tv (own.map (·.2))) (gName i)) := by
  refine ⟨fun pins s σ H Ds I h => ?_⟩
  rw [exec_Assign_Name_used _ _ _ _ hsw]
  refine wpAny_bind (wpAny_standAt (wpAny_bind ?_))
  show wpAny _ X.A (do let _ ← comprehension (.DictComp kx vx [⟨tg, iter, ifs, 0⟩] scope pos) scope X.env (firstIterPos [⟨tg, iter, ifs, 0⟩] pos) newDict false (eval iter X.env) (some (assign (.Name y py) X.env))) _ _ s
  have h' : tDcT src g tt tk tv (own.map (·.2)) σ H (fun x G => gName i x σ G Ds.nx) := h
  exact wpAny_bind (thn (dcT_core (Qf := fun _ s' => SP X pins Ds .next s') I hu hc hN hi ok hg ht hk hv hs h' fun D C s' m F J q hn f => dc_store hN hy hl J q hn f) fun _ s' hq => wpAny_pure (wpAny_pure hq))
theorem ps_setDcK {i : Nat} {y : Str} {py spos : Pos} (hy : X.N[i]? = some y) (hl : X.env.scope.names.lookup y = some .local) (hsw : swapsWith (.DictComp kx vx [⟨tg, iter, ifs, 0⟩] scope pos) (some (.Name y py)) spos.line X.env = pure true)
    (hc : X.calm = true) (hN : X.N.Nodup) (hi : PI X tg iter src) (ok : BlkOk X.N X.env.scope scope own)
    (hg : ∀ (s : Shared) (G : Hp) (C : Addr) (cl : List (Str × Addr)) (fp : List Addr), PG (X.blk s G scope (compEnvC scope cl C X.env) fp) tg g)
    (ht : ∀ (s : Shared) (G : Hp) (C : Addr) (cl : List (Str × Addr)) (fp : List Addr), PTs (X.blk s G scope (compEnvC scope cl C X.env) fp) ifs tt)
    (hk : ∀ (s : Shared) (G : Hp) (C : Addr) (cl : List (Str × Addr)) (fp : List Addr), PE (X.blk s G scope (compEnvC scope cl C X.env) fp) kx tk)
    (hv : ∀ (s : Shared) (G : Hp) (C : Addr) (cl : List (Str × Addr)) (fp : List Addr), PE (X.blk s G scope (compEnvC scope cl C X.env) fp) vx tv)
    (hs : ∀ x, foldedSetIterable iter X.env x = pure x := by intro _; rfl) : PS X (.Assign [.Name y py] (.DictComp kx vx [⟨tg, iter, ifs, 0⟩] scope pos) spos) (tAsg (tDc src g tt tk tv (own.map (·.2))) (gName i)) := by
  refine ⟨fun pins s σ H Ds I h => ?_⟩
  rw [exec_Assign_Name_used _ _ _ _ hsw]
  refine wpAny_bind (wpAny_standAt (wpAny_bind ?_))
  show wpAny _ X.A (do let _ ← comprehension (.DictComp kx vx [⟨tg, iter, ifs, 0⟩] scope pos) scope X.env (firstIterPos [⟨tg, iter, ifs, 0⟩] pos) newDict false (eval iter X.env) (some (assign (.Name y py) X.env))) _ _ s
  have h' : tDc src g tt tk tv (own.map (·.2)) σ H (fun x G => gName i x σ G Ds.nx) := h
  exact wpAny_bind (thn (dc_core (Qf := fun _ s' => SP X pins Ds .next s') hc hN I hi ok hg ht hk hv hs h' fun D C s' m F J q hn f => dc_store hN hy hl J q hn f) fun _ s' hq => wpAny_pure (wpAny_pure hq))
theorem sw_trueD {py : Pos} {y : Str} {l : Nat} {gs : List Comprehension} {env : Env} (hk : env.scope.kind = .function) (hy : env.scope.names.lookup y = some .local) (hl : (py.line == pos.line) = true)
    (ha : (scope.names.any fun (n, k) => n == y && (k == .local || k == .cell)) = false) : swapsWith (.DictComp kx vx gs scope pos) (some (.Name y py)) l env = pure true := by
  have e1 : env.kindOf y = some .local := hy
  have e2 : env.blockKind = .function := by unfold Env.blockKind; rw [hk]; rfl
  unfold swapsWith
  simp only [e2, e1, ha, Expr.pos, hl]
  rfl
theorem PE.or {e : Expr} {t t' : TE} (h : PE X e t) (h' : PE X e t') : PE X e (fun σ H Q => t σ H Q ∨ t' σ H Q) := ⟨fun pins s σ H Q I q => q.elim (h.run pins s σ H Q I) (h'.run pins s σ H Q I)⟩
theorem PS.or {st : Stmt} {t t' : TS} (h : PS X st t) (h' : PS X st t') : PS X st (fun D σ H => t D σ H ∨ t' D σ H) := ⟨fun pins s σ H D I q => q.elim (h.run pins s σ H D I) (h'.run pins s σ H D I)⟩
theorem PI.or {tg it : Expr} {t t' : TI} (h : PI X tg it t) (h' : PI X tg it t') : PI X tg it (fun σ H R => t σ H R ∨ t' σ H R) := ⟨fun pins s σ H R I q => q.elim (h.run pins s σ H R I) (h'.run pins s σ H R I)⟩
theorem pi_listK {K : PySem.W.Frag} {tg it : Expr} {tl : TE} (e : X.K = K) (h : PE X it tl) : PI X tg it (iList K tl) := by subst e; exact pi_list h
theorem pi_tupK {K : PySem.W.Frag} {tg it : Expr} {tl : TE} (e : X.K = K) (h : PE X it tl) : PI X tg it (iTup K tl) := by subst e; exact pi_tup h
theorem pa_starK {K : PySem.W.Frag} {e : Expr} {es : List Expr} {te : TE} {t : TA} {p : Pos} (hK : X.K = K) (he : PE X e te) (hr : PA X es t) (hs : starEach (.Starred e p :: es) X.env = (true, eval e X.env) :: starEach es X.env := by rfl) : PA X (.Starred e p :: es) (StX.tStar K te t) := by subst hK; exact StX.pa_star he hr hs
theorem pg_tupK {K : PySem.W.Frag} {es : List Expr} {k n : Nat} {p : Pos} {t : TGs} (hK : X.K = K) (hc : X.calm = true) (h : PGs X es t) (hn : (assignEach es X.env).length = n := by rfl) (hst : (assignEach es X.env).findIdx? (·.1) = none := by rfl) : PG X (.Tuple es k p) (gTup K n t) := by subst hK; exact pg_tup hc h hn hst
end
section
variable {J : It} {n : Nat} {G : Hp → Prop} {Y : Nat → Hp → V → Hp → Prop} {g : TG} {tt : TT} {tk tv : TE} {vs : List Nat} {σ : L2.St} {H1 : Hp} {D : Addr} {Qd : Hp → Prop}
theorem dT_it (w : Walk J n G Y) (Pv : Nat → Hp → Prop) (h0 : Pv 0 (upd H1 D (.dT []))) (hG : ∀ i H, i ≤ n → Pv i H → G H)
    (hs : ∀ i x H H', i < n → Pv i H → Y i H x H' → g x (wipe σ vs) H' fun τ F2 => wipe τ vs = wipe σ vs ∧ tt τ F2 fun c F3 =>
      if c = true then tk τ F3 fun y F4 => tv τ F4 fun z F5 => ∃ es k b, y = .ref b ∧ F5 b = some (.tup (k.map kV)) ∧ F5 D = some (.dT es) ∧ es.length < sizeLine ∧ Pv (i + 1) (upd F5 D (.dT (putK es k z))) else Pv (i + 1) F3) (hd : ∀ H, Pv n H → Qd H) :
    ∃ W : Nat → Nat → Hp → Prop, (∃ m, W 0 m (upd H1 D (.dT []))) ∧ ∀ i m F, W i m F → (J.stop i F ∧ Qd F) ∨ (J.go i F ∧ ∃ Nx : Hp → Prop, (∀ F', Nx F' → ∃ m', m' < m ∧ W (i + 1) m' F') ∧ ∀ x F', J.yld i F x F' → g x (wipe σ vs) F' fun τ F2 => wipe τ vs = wipe σ vs ∧ tt τ F2 fun c F3 =>
      if c = true then tk τ F3 fun y F4 => tv τ F4 fun z F5 => ∃ es k b, y = .ref b ∧ F5 b = some (.tup (k.map kV)) ∧ F5 D = some (.dT es) ∧ es.length < sizeLine ∧ Nx (upd F5 D (.dT (putK es k z))) else Nx F3) := by
  refine ⟨fun i m F => i + m = n ∧ Pv i F, ⟨n, by omega, h0⟩, fun i m F hW => ?_⟩
  obtain ⟨hm, p⟩ := hW
  have q := hG i F (by omega) p
  by_cases lt : i < n
  · exact .inr ⟨w.goes i F lt q, Pv (i + 1), fun F' p' => ⟨m - 1, by omega, by omega, p'⟩, fun x F' y => hs i x F F' lt p (w.yields i F x F' lt q y)⟩
  · obtain rfl : i = n := by omega
    exact .inl ⟨w.stops F q, hd F p⟩
theorem dK_it (w : Walk J n G Y) (Pv : Nat → Hp → Prop) (h0 : Pv 0 (upd H1 D (.dK []))) (hG : ∀ i H, i ≤ n → Pv i H → G H)
    (hs : ∀ i x H H', i < n → Pv i H → Y i H x H' → g x (wipe σ vs) H' fun τ F2 => wipe τ vs = wipe σ vs ∧ tt τ F2 fun c F3 =>
      if c = true then tk τ F3 fun y F4 => tv τ F4 fun z F5 => ∃ es k, y = kV k ∧ F5 D = some (.dK es) ∧ es.length < sizeLine ∧ Pv (i + 1) (upd F5 D (.dK (putK es k z))) else Pv (i + 1) F3) (hd : ∀ H, Pv n H → Qd H) :
    ∃ W : Nat → Nat → Hp → Prop, (∃ m, W 0 m (upd H1 D (.dK []))) ∧ ∀ i m F, W i m F → (J.stop i F ∧ Qd F) ∨ (J.go i F ∧ ∃ Nx : Hp → Prop, (∀ F', Nx F' → ∃ m', m' < m ∧ W (i + 1) m' F') ∧ ∀ x F', J.yld i F x F' → g x (wipe σ vs) F' fun τ F2 => wipe τ vs = wipe σ vs ∧ tt τ F2 fun c F3 =>
      if c = true then tk τ F3 fun y F4 => tv τ F4 fun z F5 => ∃ es k, y = kV k ∧ F5 D = some (.dK es) ∧ es.length < sizeLine ∧ Nx (upd F5 D (.dK (putK es k z))) else Nx F3) := by
  refine ⟨fun i m F => i + m = n ∧ Pv i F, ⟨n, by omega, h0⟩, fun i m F hW => ?_⟩
  obtain ⟨hm, p⟩ := hW
  have q := hG i F (by omega) p
  by_cases lt : i < n
  · exact .inr ⟨w.goes i F lt q, Pv (i + 1), fun F' p' => ⟨m - 1, by omega, by omega, p'⟩, fun x F' y => hs i x F F' lt p (w.yields i F x F' lt q y)⟩
  · obtain rfl : i = n := by omega
    exact .inl ⟨w.stops F q, hd F p⟩
end
end R1

namespace R1
open PySem PySem.Spec PyProof.Rows L2
/-! ### one lemma for every loop and comprehension -/
section
variable {J : It} {n : Nat} {G : Hp → Prop} {Y : Nat → Hp → V → Hp → Prop} {H0 : Hp} {Qd : Hp → Prop} {Body : V → Hp → (Hp → Prop) → Prop}
theorem walk_it (w : Walk J n G Y) (Pv : Nat → Hp → Prop) (h0 : Pv 0 H0) (hG : ∀ i H, i ≤ n → Pv i H → G H)
    (hs : ∀ i x H H', i < n → Pv i H → Y i H x H' → Body x H' (Pv (i + 1))) (hd : ∀ H, Pv n H → Qd H) :
    ∃ W : Nat → Nat → Hp → Prop, (∃ m, W 0 m H0) ∧ ∀ i m F, W i m F → (J.stop i F ∧ Qd F) ∨ (J.go i F ∧ ∃ Nx : Hp → Prop, (∀ F', Nx F' → ∃ m', m' < m ∧ W (i + 1) m' F') ∧ ∀ x F', J.yld i F x F' → Body x F' Nx) := by
  refine ⟨fun i m F => i + m = n ∧ Pv i F, ⟨n, by omega, h0⟩, fun i m F hW => ?_⟩
  obtain ⟨hm, p⟩ := hW
  have q := hG i F (by omega) p
  by_cases lt : i < n
  · exact .inr ⟨w.goes i F lt q, Pv (i + 1), fun F' p' => ⟨m - 1, by omega, by omega, p'⟩, fun x F' y => hs i x F F' lt p (w.yields i F x F' lt q y)⟩
  · obtain rfl : i = n := by omega
    exact .inl ⟨w.stops F q, hd F p⟩
end
/-! ### two lists alike, item by item -/
section
variable {α : Type} {R S : V → α → Prop}
def Al (R : V → α → Prop) (xs : List V) (rs : List α) : Prop := xs.length = rs.length ∧ ∀ (i : Nat) (x : V) (r : α), xs[i]? = some x → rs[i]? = some r → R x r
theorem Al.nil : Al R [] [] := ⟨rfl, fun i x r h => by simp at h⟩
theorem Al.mono {xs : List V} {rs : List α} (h : Al R xs rs) (f : ∀ x r, R x r → S x r) : Al S xs rs := ⟨h.1, fun i x r a b => f x r (h.2 i x r a b)⟩
theorem Al.snoc {xs : List V} {rs : List α} {x : V} {r : α} (h : Al R xs rs) (q : R x r) : Al R (xs ++ [x]) (rs ++ [r]) := by
  refine ⟨by simp [h.1], fun i y t hy ht => ?_⟩
  by_cases lt : i < xs.length
  · rw [List.getElem?_append_left lt] at hy
    rw [List.getElem?_append_left (by rw [← h.1]; exact lt)] at ht
    exact h.2 i y t hy ht
  · rw [List.getElem?_append_right (by omega)] at hy
    rw [List.getElem?_append_right (by rw [← h.1]; omega)] at ht
    rw [h.1] at hy
    have e : i - rs.length = 0 := by
      cases z : i - rs.length with
      | zero => rfl
      | succ k => rw [z] at hy; simp at hy
    rw [e] at hy ht
    cases hy; cases ht
    exact q
theorem Al.at {xs : List V} {rs : List α} (h : Al R xs rs) {i : Nat} {x : V} (hx : xs[i]? = some x) : ∃ r, rs[i]? = some r ∧ R x r := by
  have lt : i < xs.length := by
    by_cases z : i < xs.length
    · exact z
    · rw [List.getElem?_eq_none (by omega)] at hx; cases hx
  have e : rs[i]? = some (rs[i]'(by rw [← h.1]; exact lt)) := List.getElem?_eq_getElem _
  exact ⟨_, e, h.2 i x _ hx e⟩
theorem Al.one {x : V} {r : α} (q : R x r) : Al R [x] [r] := (Al.nil (R := R)).snoc q
end
end R1

namespace R1
open PySem PySem.Spec PyProof.Rows L2
/-! ### len(set(x)), x a list or a tuple of ints, any of them twice -/
def dist (ns : List Int) : List Int := ns.foldl step_dedup []
theorem firstMet_dist (ns : List Int) : firstMet (fun i => ns.getD i 0) ns.length = dist ns := by
  unfold firstMet dist
  congr 1
  apply List.ext_getElem?
  intro i
  rw [List.getElem?_map]
  by_cases h : i < ns.length
  · rw [List.getElem?_range h, List.getElem?_eq_getElem h]
    simp [List.getD, List.getElem?_eq_getElem h]
  · rw [List.getElem?_eq_none (by simpa using h), List.getElem?_eq_none (by omega)]
    rfl
theorem dist_go : ∀ (ns acc : List Int), acc.Nodup → ((ns.foldl step_dedup acc).Nodup ∧ ∀ k, k ∈ ns.foldl step_dedup acc ↔ k ∈ acc ∨ k ∈ ns)
  | [], acc, h => ⟨h, fun k => by simp⟩
  | n :: r, acc, h => by
    show ((r.foldl step_dedup (step_dedup acc n)).Nodup ∧ _)
    by_cases z : acc.any (· == n) = true
    · have e : step_dedup acc n = acc := by unfold step_dedup; rw [if_pos z]
      have m : n ∈ acc := by
        obtain ⟨u, hu, q⟩ := List.any_eq_true.mp z
        rw [← eq_of_beq q]; exact hu
      obtain ⟨a, b⟩ := dist_go r acc h
      refine ⟨by rw [e]; exact a, fun k => ?_⟩
      show k ∈ r.foldl step_dedup (step_dedup acc n) ↔ _
      rw [e, b k, List.mem_cons]
      constructor
      · rintro (q | q)
        · exact .inl q
        · exact .inr (.inr q)
      · rintro (q | q | q)
        · exact .inl q
        · exact .inl (q ▸ m)
        · exact .inr q
    · have e : step_dedup acc n = acc ++ [n] := by unfold step_dedup; rw [if_neg z]
      have m : n ∉ acc := fun hm => z (List.any_eq_true.mpr ⟨n, hm, beq_self_eq_true n⟩)
      have h2 : (acc ++ [n]).Nodup := by
        rw [List.nodup_append]
        refine ⟨h, by simp, fun u hu v hv q => m ?_⟩
        rw [← (by simpa using hv : v = n), ← q]; exact hu
      obtain ⟨a, b⟩ := dist_go r (acc ++ [n]) h2
      refine ⟨by rw [e]; exact a, fun k => ?_⟩
      show k ∈ r.foldl step_dedup (step_dedup acc n) ↔ _
      rw [e, b k, List.mem_append, List.mem_cons]
      simp [or_assoc]
theorem dist_nodup (ns : List Int) : (dist ns).Nodup := (dist_go ns [] List.nodup_nil).1
theorem dist_mem (ns : List Int) (k : Int) : k ∈ dist ns ↔ k ∈ ns := by
  have := (dist_go ns [] List.nodup_nil).2 k
  unfold dist
  simpa using this
section
variable {X : Cx}
def tLenSetX (K : PySem.W.Frag) (ta : TE) : TE := fun σ H Q => ta σ H fun x H1 => ∃ (l : Addr) (ns : List Int), x = V.ref l ∧ (SqL K H1 l (ns.map V.int) ∨ SqT K H1 l (ns.map V.int)) ∧ ns.length ≤ 1000 ∧ Q (.int (dist ns).length) H1
theorem pe_lenSetX {a : Expr} {ta : TE} {p p2 q pos : Pos} (hc : X.calm = true) (hg : Gl X "len") (hm : X.mg "len" = none) (hg2 : Gl X "set") (hm2 : X.mg "set" = none) (ha : PE X a ta)
    (na : starEach [a] X.env = (false, eval a X.env) :: starEach [] X.env := by rfl) : PE X (.Call (.Name "len" p) [.Call (.Name "set" p2) [a] [] q] [] pos) (tLenSetX X.K ta) := by
  refine ⟨fun pins s σ H Q I h => ?_⟩
  refine Call_ (ld_blt I hg hm PySem.boot_len ?_)
  refine PyProof.Rows.callWith_builtin1 (PyProof.Rows.args_cons ?_ rfl) rfl rfl
  refine Call_ (ld_blt I hg2 hm2 PyProof.Rows.boot_set ?_)
  refine PyProof.Rows.callWith_type1 (PyProof.Rows.args_cons (thn (ha.run pins s σ H _ I h) fun v s1 ⟨x, H1, I1, r1, q1⟩ => PyProof.Rows.args_nil ?_) na) na rfl
  obtain ⟨l, ns, rfl, hq, h1, q1⟩ := q1
  cases r1
  rcases hq with hq | hq
  · obtain ⟨its, r, pl, hz⟩ := I1.list hq
    have hl : its.toArray.size = ns.length := by rw [List.size_toArray, ← r.length, List.length_map]
    refine call_set_list (I1.ok.hd hc) pl.isList (ns := ns) (by simpa using r.ints) (by unfold scanBound; omega) fun h' tk hS hk => ?_
    rw [hl, firstMet_dist] at hS
    refine PyProof.Rows.args_nil ?_
    obtain ⟨o, es, ep, t, ho, hex, hd, _, _, hb, hf, hn⟩ := hS
    have hle : (dist ns).length ≤ ns.length := by rw [← firstMet_dist]; exact firstMet_length_le _ _
    have I2 : Inv X pins σ H1 { s1 with heap := h', toks := tk } := I1.kept fun b o e => hk b o (Heap.lt_size e) e
    exact call_len_set ho hex hd hf (by rw [hn] <;> omega) ⟨.int (dist ns).length, H1, I2.tok _, ⟨_, by rw [hn]⟩, q1⟩
  · obtain ⟨its, r, pl, hz⟩ := I1.tuple hq
    refine call_set_tupI ns (I1.ok.hd hc) pl (by simpa using r.ints) (by unfold scanBound; omega) fun h' tk c hS hc' hk => ?_
    refine PyProof.Rows.args_nil ?_
    obtain ⟨o, es, ep, t, ho, hex, hd, _, nd, me, _, hf, hn, _⟩ := hS
    have I2 : Inv X pins σ H1 { s1 with heap := h', toks := tk } := I1.kept fun b o e => hk b o e
    have e1 : (es.toList.map keyOf).length = (dist ns).length := by
      refine ((List.perm_ext_iff_of_nodup nd (dist_nodup ns)).mpr fun k => ?_).length_eq
      rw [← me k, dist_mem, decide_eq_true_eq]
    have hn' : es.size = (dist ns).length := by rw [← e1]; simp
    exact call_len_set ho hex hd hf (by omega) ⟨.int (dist ns).length, H1, I2.tok _, ⟨_, by rw [hn']⟩, q1⟩
/-! ### rules that name X.K, for a comprehension's block -/
theorem tuple_ofK {K : PySem.W.Frag} (hK : X.K = K) : CallR X (.type "tuple") (fun xs H Q => ∃ p ys, xs = [V.ref p] ∧ ((SqL K H p ys ∧ ∀ (l : Addr), H l = none → Q (V.ref l) (upd H l (HO.tup ys))) ∨ SqT K H p ys ∧ Q (V.ref p) H)) := by subst hK; exact call_tuple_of
theorem list_ofK {K : PySem.W.Frag} (hK : X.K = K) : CallR X (.type "list") (fun xs H Q => ∃ p ys, xs = [V.ref p] ∧ (SqL K H p ys ∨ SqT K H p ys) ∧ ∀ l, H l = none → Q (V.ref l) (upd H l (HO.lst ys))) := by subst hK; exact call_list_of
theorem op_catTK {K : PySem.W.Frag} (hK : X.K = K) : OpR X (binaryOp .Add) (rCatT K) := by subst hK; exact op_catT
end
end R1

/-! isinstance(e, C), e a caught error with fields: the answer may be False -/
namespace R1
open PySem PySem.Spec PyProof.Rows L2
def rIsX (K : PySem.W.Frag) (D a : Addr) (cls : Value) (d : Option Addr) : List V → Hp → VK → Prop := fun xs H Q => ∃ (c : Addr) (b : Bool) (dd : Addr) (fs : List (Str × V)), cls = .ref D ∧ d = some dd ∧ H dd = some (.xd fs) ∧ xs = [.ref a, .ref c] ∧ PySem.W.kitOne K (.ref D) (.ref c) = some b ∧ Q (.bl b) H
theorem call_isX {X : Cx} {K : PySem.W.Frag} {a D : Addr} {oe : Obj} {cls : Value} {d : Option Addr} {pn : List (Addr × Obj)} (hK : X.K = K) (C : ExcC K D) (hz : Zc cls d oe) (hf : ∃ vs, oe.data = .fields vs) : CallR (X.suite a ((a, oe) :: pn)) (.builtin "isinstance") (rIsX K D a cls d) := by
  subst hK
  intro pins s σ H xs us Q I r h
  obtain ⟨c, b, dd, fs, rfl, rfl, ea, rfl, e, q⟩ := h
  obtain ⟨u1, u2, rfl, r1, r2⟩ := vals2 r
  cases (show u1 = Value.ref a from r1)
  cases (show u2 = Value.ref c from r2)
  obtain ⟨hget, _⟩ := I.pin (a, oe) (List.mem_append.mpr (.inl List.mem_cons_self))
  obtain ⟨vs, hd⟩ := hf
  have hx : ObjOk X.prog X.w H s.heap dd (.xd fs) := I.hok dd _ ea
  obtain ⟨mA, hns, hr⟩ := hx
  obtain ⟨od, ho, hl⟩ := lookIn_ns hns
  have J : PySem.W.InstAt s.heap a oe D (some od) := ⟨hget, hz.1, by unfold PySem.W.notCls; rw [hd] <;> rfl, by rw [hz.2]; exact ho⟩
  obtain ⟨cd, hc, _⟩ := PySem.W.any_some C.hd
  exact PySem.W.kia_one (PySem.W.kitx_exc (by rw [hc]; rfl) C.hg C.hk C.hs C.ha C.hn C.ht C.hm) I.kIn J e (fun z => nomatch z) fun tk => ⟨.bl b, H, I.tok tk, rfl, q⟩
end R1

namespace R1
open PySem PySem.Spec PyProof.Rows L2
section
variable {K : PySem.W.Frag} {a b : Addr} {xs ys : List V}
theorem walk_zipT {n : Nat} (hn : n = min xs.length ys.length) : Walk (RZ.ItzT K a b) n (fun H => SqT K H a xs ∧ SqT K H b ys) (YPair (fun i => xs[i]?) (fun i => ys[i]?)) := by
  subst hn
  refine ⟨fun i _ hi q => ?_, fun _ q => ⟨xs, ys, q.1, q.2, by omega⟩, fun i H v H' _ q y => ?_⟩
  · have h1 : i < xs.length := by omega
    have h2 : i < ys.length := by omega
    exact ⟨xs, ys, xs[i], ys[i], q.1, q.2, by simp [h1], by simp [h2]⟩
  · obtain ⟨T, x, z, h1, h2, h3, h4, h5⟩ := y
    exact ⟨T, x, z, h1, h2, h3, h4 xs q.1, h5 ys q.2⟩
end
end R1

/-! enumerate(t), t a tuple -/
namespace PySem
open PySem.Spec PyProof.Rows PySem.W
theorem meets_enum1 {v : Value} {o : Obj} {H : Heap → Prop} (B : Begins v o H) :
    Meets (Builtin.«enumerate.__new__» ⟨[.type "enumerate", v], []⟩) (fun _ R s => H s.heap ∧
      R (.ok (.ret (.ref (s.heap.push o).objs.size))) { s with heap := (s.heap.push o).push { cls := .type "enumerate", data := .fields #[.none, .bool false, .ref s.heap.objs.size, rawInt 0, .none, .none] } }) :=
  .of_wp fun prog w A R s h => by
    obtain ⟨hp, g, d, tk, os⟩ := s; obtain ⟨h1, h⟩ := h
    have hsub := sub_enumerate
    have q1 : ∀ {A' : Around} {E : Value → Shared → Prop} {Q : Value → Shared → Prop}, Q (.ref hp.objs.size) ⟨hp.push o, g, d, tk, os⟩ → wpAny (model prog w) A' (pyIter v) Q E ⟨hp, g, d, tk, os⟩ :=
      fun q => B.iter prog w _ _ ⟨hp, g, d, tk, os⟩ _ h1 q
    wp_walk using q1
    refine wpAny_stack_any fun st => wpAny_pure ?_
    split
    · rename_i c _ _ _ _ _
      cases (c == Value.type "enumerate")
      · wp_walk using q1
        exact ⟨_, rfl, h⟩
      · wp_walk using q1
        exact ⟨_, rfl, h⟩
    · wp_walk using q1
      exact ⟨_, rfl, h⟩
section
variable {prog : Program} {w : World} {A : Around} {E : Value → Shared → Prop} {s : Shared}
theorem enum1 {v : Value} {o : Obj} {H : Heap → Prop} {Q : Value → Shared → Prop} (B : Begins v o H) (h1 : H s.heap)
    (h : ∀ h', IsEnum h' (s.heap.objs.size + 1) s.heap.objs.size 0 .none → h'.get? s.heap.objs.size = some o → h'.objs.size = s.heap.objs.size + 2 →
      (∀ b o, s.heap.get? b = some o → h'.get? b = some o) → Q (.ref (s.heap.objs.size + 1)) { s with heap := h' }) :
    wpAny (model prog w) A (call (.type "enumerate") [v]) Q E s := by
  refine callType_new F.called_enumerate (by decide) (F.typeCall_enumerate_1 _) (F.newCall_enumerate_1 _) (fun obj => F.args_object_init_2 obj _) F.entry_enumerate_new
    (meets_enum1 B) ⟨h1, ?_⟩
  have hz : (s.heap.push o).objs.size = s.heap.objs.size + 1 := Heap.size_push ..
  show _ ∧ _
  rw [hz]
  have he : IsEnum ((s.heap.push o).push { cls := .type "enumerate", data := .fields #[.none, .bool false, .ref s.heap.objs.size, rawInt 0, .none, .none] }) (s.heap.objs.size + 1) s.heap.objs.size 0 .none := by
    have := Heap.get?_push_size (s.heap.push o) (o := { cls := .type "enumerate", data := .fields #[.none, .bool false, .ref s.heap.objs.size, rawInt 0, .none, .none] }) rfl
    rw [hz] at this; exact this
  exact ⟨⟨_, he, rfl⟩, h _ he (Heap.get?_push_of_some _ (Heap.get?_push_size _ B.free)) (by rw [Heap.size_push, hz]) fun b o x => Heap.get?_push_of_some _ (Heap.get?_push_of_some _ x)⟩
end
end PySem

namespace PySem
section
variable {prog : Program} {w : World} {A : Around} {E : Value → Shared → Prop} {s : Shared}
theorem enum_endT {e it l : Addr} {i : Nat} {items : Array Value} {old : Value} {Q : Option Value → Shared → Prop} (hh : A.handled = none)
    (he : IsEnum s.heap e it i old) (hit : s.heap.IsTupleIter it l i) (hl : s.heap.IsTuple l items) (hx : items[i]? = none)
    (hQ : ∀ h', Heap.ExtBut it s.heap h' → Q none { s with heap := h' }) : wpAny (model prog w) A (pyNext (.ref e)) Q E s := by
  have hT : s.TypeIs (.ref e) "enumerate" := ⟨_, he, rfl⟩
  unfold pyNext
  refine wpAny_bind (wpAny_attempt (wpAny_callSpecial?_slot (name := Str.ofString "__next__") hT F.slot_enumerate_next
    (wpAny_call_entry F.slot_enumerate_next hT F.entry_enumerate_next ?_ (F.args_enumerate_next_1 _))))
  show wpAny _ _ (field (.ref e) 2 >>= _) _ _ _
  refine wpAny_bind (wpAny_field he rfl (x := .ref it) rfl ?_)
  refine wpAny_bind (wpAny_nextOf_tuple_end hh hit hl hx fun h' x he' hx' => ?_)
  obtain ⟨o, ho, hc⟩ := hx'
  refine wpAny_bind (wpAny_isInstance (T := "StopIteration") (b := true) ⟨o, ho, hc⟩ isSubtype_stop ?_)
  exact wpAny_pure (hQ _ he')
end
end PySem
namespace R1
open PySem PySem.Spec PyProof.Rows L2
def IteT (K : PySem.W.Frag) (a : Addr) : It :=
  ⟨fun i H => ∃ (xs : List V) (x : V), SqT K H a xs ∧ xs[i]? = some x, fun i H v H' => ∃ T x, v = .ref T ∧ H T = none ∧ H' = upd H T (.tup [.int (i : Nat), x]) ∧ ∀ xs, SqT K H a xs → xs[i]? = some x, fun i H => ∃ xs : List V, SqT K H a xs ∧ xs.length ≤ i⟩
theorem turn_enumT {P : Program} {w : World} {K : PySem.W.Frag} {elts : List Expr} {kk : Nat} {tpos : Pos} (a e it : Addr) :
    Turn P w K (.Tuple elts kk tpos) (IteT K a) [e, it] e (fun i h => (∃ old, IsEnum h e it ((i : Nat) : Int) old) ∧ h.IsTupleIter it a i ∧ e ≠ it ∧ a ≠ it ∧ a ≠ e) where
  mem := by simp
  obj := fun i h st b hb => by
    obtain ⟨⟨old, he⟩, ⟨o, ho, hc, hd⟩, _⟩ := st
    have e' : b = e ∨ b = it := by simpa using hb
    rcases e' with z | z
    · rw [z]; exact ⟨_, he, fun v q => nomatch q⟩
    · rw [z]; exact ⟨o, ho, fun v q => by rw [hd] at q; cases q⟩
  keep := fun i h h' st k => let ⟨⟨old, he⟩, hi, hne⟩ := st; ⟨⟨old, k e (by simp) _ he⟩, hi.at fun o q => k it (by simp) o q, hne⟩
  item := by
    intro X hP hw hK hc i pins s σ H E I hf st hg
    subst hP hw hK
    obtain ⟨⟨old, he⟩, hit, hne, hai, hae⟩ := st
    obtain ⟨xs, x, hq, hx⟩ := hg
    obtain ⟨its, rv, p, hz⟩ := I.tuple hq
    obtain ⟨u, hu, ru⟩ := rv.get hx
    have hel : e < s.heap.objs.size := Heap.lt_size he
    have hil : it < s.heap.objs.size := by obtain ⟨_, q, _⟩ := hit; exact Heap.lt_size q
    have hli : i < its.toArray.size := by
      have := rv.length
      have h2 : i < xs.length := by
        by_cases z : i < xs.length
        · exact z
        · rw [List.getElem?_eq_none (by omega)] at hx; cases hx
      simp; omega
    refine wpAny_pyNext_enum_itemD (PySem.Draws.tuple (show X.A.in1.handled = none from I.ok.hd hc) it a hai its.toArray) he ⟨hit, p⟩ hli hne (by simp [hne, Ne.symm hae]) fun x' h' tk hP' ho hst' hT hsz hk => ?_
    have ex : x' = u := by
      rw [List.getElem?_toArray, hu] at hP'
      exact (Option.some.inj hP').symm
    subst ex
    refine ⟨_, rfl, wpAny_letOwnedTupleGo_enum (s := { s with heap := h', toks := tk + 1 }) ho fun h'' he' sb => ?_⟩
    have hT2 : h''.get? s.heap.objs.size = some { cls := .type "tuple", data := .seq #[.int i tk, x'] } := (sb.2 _ (Nat.ne_of_gt hel)).trans hT
    have new : ObjOk X.prog X.w (upd H s.heap.objs.size (.tup [.int (i : Nat), x])) h'' s.heap.objs.size (.tup [.int (i : Nat), x]) :=
      ⟨by show 2 ≤ sizeLine; decide, [.int i tk, x'], .cons ⟨_, rfl⟩ (.cons ru .nil), ⟨_, hT2, rfl, _, rfl⟩⟩
    have I1 : Inv X pins σ (upd H s.heap.objs.size (.tup [.int (i : Nat), x])) { s with heap := h'', toks := tk + 1 } :=
      I.turnedNew (ch := [e, it]) (fun b ob hb q => (sb.2 b (fun z => hb (by simp [z]))).trans (hk b ob (fun z => hb (by simp [z])) (fun z => hb (by simp [z])) q)) hf (Nat.le_refl _) new
    refine ⟨.ref s.heap.objs.size, _, I1, rfl, ⟨_, x, rfl, I.hok.fresh (Nat.le_refl _), rfl, fun ys hy => by rw [I.tuple_inj hy hq]; exact hx⟩, ⟨⟨x', ?_⟩, hst'.1.at fun o q => (sb.2 it (Ne.symm hne)).trans q, hne, hai, hae⟩, fun b hb => ?_⟩
    · have e1 : ((i + 1 : Nat) : Int) = (i : Int) + 1 := by omega
      rw [e1]; exact he'
    · have hb' : b < s.heap.objs.size := by
        have e' : b = e ∨ b = it := by simpa using hb
        rcases e' with z | z
        · rw [z]; exact hel
        · rw [z]; exact hil
      rw [upd_ne (Nat.ne_of_lt hb')]
      exact (hf b hb).1
  done := by
    intro X hP hw hK hc i pins s σ H E I hf st hg
    subst hP hw hK
    obtain ⟨⟨old, he⟩, hit, hne, hai, hae⟩ := st
    obtain ⟨xs, hq, hx⟩ := hg
    obtain ⟨its, rv, p, hz⟩ := I.tuple hq
    obtain ⟨f0, f1, f2, f3, f4, f5⟩ := hf it (by simp)
    have hl := rv.length
    exact enum_endT (I.ok.hd hc) he hit p (by simp; omega) fun h' eb => ⟨rfl, I.turned (t' := s.toks) (fun b o hb q => eb b o hb q) f0 f1 f3 f4 f5⟩
  self := fun A i s Q E st h => let ⟨⟨_, he⟩, _⟩ := st; wpAny_pyIter_enum he h
end R1

namespace R1
open PySem PySem.Spec PyProof.Rows L2
def iEnumT (K : PySem.W.Frag) (ta : TA) : TI := fun σ H R => ta σ H fun vs H1 => ∃ a xs, vs = [.ref a] ∧ SqT K H1 a xs ∧ R (IteT K a) H1
theorem pi_enumT {X : Cx} {e : Expr} {ta : TA} {p pos tpos : Pos} {elts : List Expr} {kk : Nat} (hg : Gl X "enumerate") (hm : X.mg "enumerate" = none) (ha : PA X [e] ta) (hs : starEach [e] X.env = [(false, eval e X.env)] := by rfl) :
    PI X (.Tuple elts kk tpos) (.Call (.Name "enumerate" p) [e] [] pos) (iEnumT X.K ta) := by
  refine ⟨fun pins s σ H R I h => ?_⟩
  refine Call_ (ld_blt I hg hm boot_enumerate (PyProof.Rows.callWith_type1 (thn (ha.run pos pins s σ H _ I h) fun us s1 ⟨vs, H1, I1, r1, q1⟩ => ?_) hs rfl))
  obtain ⟨a, xs, ex, hq, q⟩ := q1
  subst ex
  cases r1 with
  | cons r rr =>
    cases rr
    cases r
    obtain ⟨its, rv, p', hz⟩ := I1.tuple hq
    have hla : a < s1.heap.objs.size := by
      obtain ⟨o, ho, _⟩ := id p'
      exact Heap.lt_size ho
    refine enum1 (begins_tuple a its.toArray) p' fun h' he hit hsz hk => wpAny_pyIter_enum he ?_
    have I2 : Inv X pins σ H1 { s1 with heap := h' } := I1.kept (t' := s1.toks) hk
    refine ⟨s1.heap.objs.size + 1, [s1.heap.objs.size + 1, s1.heap.objs.size], _, _, H1, rfl, I2, turn_enumT a (s1.heap.objs.size + 1) s1.heap.objs.size, ⟨⟨.none, he⟩, ⟨_, hit, rfl, rfl⟩, Nat.succ_ne_self _, Nat.ne_of_lt hla, Nat.ne_of_lt (Nat.lt_succ_of_lt hla)⟩, fun b hb => ?_, q⟩
    have e' : b = s1.heap.objs.size + 1 ∨ b = s1.heap.objs.size := by simpa using hb
    have hle : s1.heap.objs.size ≤ b := by
      rcases e' with z | z
      · rw [z]; exact Nat.le_add_right _ _
      · rw [z]; exact Nat.le_refl _
    exact I1.fpOk hle (I1.hok.fresh hle)
section
variable {K : PySem.W.Frag} {a : Addr} {xs : List V}
theorem walk_enumT : Walk (IteT K a) xs.length (fun H => SqT K H a xs) (YPair (fun i => some (.int (i : Nat))) (fun i => xs[i]?)) := by
  refine ⟨fun i _ hi q => ⟨xs, xs[i], q, by simp [hi]⟩, fun _ q => ⟨xs, q, Nat.le_refl _⟩, fun i H v H' _ q y => ?_⟩
  obtain ⟨T, x, h1, h2, h3, h4⟩ := y
  exact ⟨T, .int (i : Nat), x, h1, h2, h3, rfl, h4 xs q⟩
end
end R1

namespace R1
open PySem PySem.Spec PyProof.Rows L2
section
variable {P : Program} {w : World} {K : PySem.W.Frag} {mg : Str → Option Value} {base : Heap} {CX : CXT} {k : Nat} {f : Addr} {fd : FuncData} {ps : List Str}
/-- one def, two contracts -/
theorem fn_or {sp sp' : Sp} (F : FnOk P w K mg base CX k f fd ps sp) (G : FnOk P w K mg base CX k f fd ps sp') : FnOk P w K mg base CX k f fd ps (fun vs H Q E => sp vs H Q E ∨ sp' vs H Q E) :=
  ⟨fun vs H Q E q => q.elim (F.len vs H Q E) (G.len vs H Q E), fun A outer s H args us vs Q E hr he hb hv hs => hs.elim (F.run A outer s H args us vs Q E hr he hb hv) (G.run A outer s H args us vs Q E hr he hb hv)⟩
end
end R1

namespace R1
open PySem PySem.Spec PyProof.Rows L2
/-! ### what sorted leaves, by the items' own rows -/
section
variable {κ : Type} {R : V → κ → Prop} (enc : κ → PyData)
def sortK (rs : List κ) : List κ := rs.mergeSort (PySem.W.dataLe false enc)
theorem zip_al : ∀ {xs : List V} {rs : List κ}, xs.length = rs.length → (xs.zip rs).map Prod.fst = xs ∧ (xs.zip rs).map Prod.snd = rs
  | [], [], _ => ⟨rfl, rfl⟩
  | x :: xs, r :: rs, h => by
    obtain ⟨a, b⟩ := zip_al (Nat.succ.inj h)
    exact ⟨by rw [List.zip_cons_cons, List.map_cons, a], by rw [List.zip_cons_cons, List.map_cons, b]⟩
theorem sort_al {xs : List V} {rs : List κ} (h : Al R xs rs) : Al R (R0.sortV xs (rs.map enc)) (sortK enc rs) := by
  obtain ⟨e1, e2⟩ := zip_al h.1
  obtain ⟨zs, hzs⟩ : ∃ zs, zs = (xs.zip rs).mergeSort (PySem.W.dataLe false fun z : V × κ => enc z.2) := ⟨_, rfl⟩
  have hz : xs.zip (rs.map enc) = (xs.zip rs).map fun z => (z.1, enc z.2) := by
    rw [List.zip_map_right]
    exact List.map_congr_left fun z _ => rfl
  have hs1 : R0.sortV xs (rs.map enc) = zs.map Prod.fst := by
    unfold R0.sortV
    rw [hz, ← List.map_mergeSort (f := fun z : V × κ => (z.1, enc z.2)) (r := PySem.W.dataLe false fun z : V × κ => enc z.2) (s := PySem.W.dataLe false Prod.snd) (fun a _ b _ => rfl), List.map_map, hzs]
    rfl
  have hs2 : sortK enc rs = zs.map Prod.snd := by
    unfold sortK
    rw [hzs, List.map_mergeSort (r := PySem.W.dataLe false fun z : V × κ => enc z.2) (s := PySem.W.dataLe false enc) (fun a _ b _ => rfl), e2]
  rw [hs1, hs2]
  refine ⟨by simp, fun i x r hx hr => ?_⟩
  rw [List.getElem?_map] at hx hr
  cases e : zs[i]? with
  | none => rw [e] at hx; cases hx
  | some z =>
    rw [e] at hx hr
    obtain rfl : z.1 = x := Option.some.inj hx
    obtain rfl : z.2 = r := Option.some.inj hr
    have hm : z ∈ xs.zip rs := by
      have := List.mem_of_getElem? e
      rw [hzs, List.mem_mergeSort] at this
      exact this
    obtain ⟨j, hj⟩ := List.mem_iff_getElem?.mp hm
    have hj' := List.getElem?_zip_eq_some.mp hj
    exact h.2 j z.1 z.2 hj'.1 hj'.2
end
end R1

/-! list(zip(a, b)), a and b tuples of one length -/
namespace R1
open PySem PySem.Spec PyProof.Rows L2
theorem lt1000 {k : Nat} (h : k ≤ 1000) : k < sizeLine := by
  have : (1000 : Nat) < sizeLine := by decide
  omega
theorem zip_has_no_len : typeLookup (.type "zip") "__len__" = pure none := am_miss_of_fast (by decide +kernel)
theorem zip_has_no_hint : typeLookup (.type "zip") "__length_hint__" = pure none := am_miss_of_fast (by decide +kernel)
section
variable {prog : Program} {w : World} {A : Around} {E : Value → Shared → Prop} {s : Shared} {z TI TO T i1 i2 a b S : Addr} {f : Bool} {oT : Obj} {i n : Nat} {xs ys : Array Value} {x y : Value}
theorem zheld_item {Q : Value → Shared → Prop} (D : ZipApart z TI TO i1 i2 a b) (hz : IsZipHeld s.heap z TI TO T f) (hT : s.heap.get? T = some oT) (ti : IsPair s.heap TI (.ref i1) (.ref i2))
    (t1 : s.heap.IsTupleIter i1 a i) (t2 : s.heap.IsTupleIter i2 b i) (ha : s.heap.IsTuple a xs) (hb : s.heap.IsTuple b ys) (hx : xs[i]? = some x) (hy : ys[i]? = some y)
    (q : ∀ h', IsZipHeld h' z TI TO T true → h'.IsTupleIter i1 a (i + 1) → h'.IsTupleIter i2 b (i + 1) → IsPair h' s.heap.objs.size x y →
      (∀ c o, c ≠ z → c ≠ i1 → c ≠ i2 → s.heap.get? c = some o → h'.get? c = some o) → Q (.ref s.heap.objs.size) { s with heap := h' }) :
    wpAny (model prog w) A (Builtin.«zip.__next__» ⟨[.ref z], []⟩) (fun r s2 => ∃ u, r = .done (.ret u) ∧ Q u s2) E s := by
  show wpAny _ _ (field (.ref z) 2 >>= _) _ _ s
  refine wpAny_bind (wpAny_field hz rfl (x := .bool false) rfl ?_); show wpAny _ _ (field (.ref z) 3 >>= _) _ _ s
  refine wpAny_bind (wpAny_field hz rfl (x := .ref TI) rfl ?_); refine wpAny_bind (wpAny_seqItems ti rfl ?_)
  show wpAny _ _ (Builtin.SmallTypes.ownedTupleIsFree (.ref z) >>= _) _ _ s
  refine wpAny_bind (wpAny_tupleHeld_zip hz hT fun g1 z1 k1 => ?_); simp only [Bool.false_eq_true, if_false]
  refine wpAny_bind ?_; rw [← Array.forIn_toList]; simp only [List.forIn_cons, List.forIn_nil]
  refine wpAny_bind (wpAny_bind (wpAny_holding ?_)); show wpAny _ _ (Builtin.SmallTypes.nextOf (.ref i1) >>= _) _ _ _
  refine wpAny_bind (RZ.nextOf_tuple_item (s := { s with heap := g1 }) (t1.extBut k1.extBut D.i1z) (ha.extBut k1.extBut D.l1z) hx fun g2 t1' k2 => wpAny_pure (wpAny_pure ?_))
  refine wpAny_bind (wpAny_bind (wpAny_holding ?_)); show wpAny _ _ (Builtin.SmallTypes.nextOf (.ref i2) >>= _) _ _ _
  refine wpAny_bind (RZ.nextOf_tuple_item (s := { s with heap := g2 }) ((t2.extBut k1.extBut D.i2z).extBut k2.extBut D.i12.symm) ((hb.extBut k1.extBut D.l2z).extBut k2.extBut D.l2i1) hy fun g3 t2' k3 => wpAny_pure (wpAny_pure (wpAny_pure ?_)))
  show wpAny _ _ (newTuple [x, y] >>= _) _ _ _
  refine wpAny_bind (wpAny_newTuple (wpAny_pure ⟨_, rfl, ?_⟩))
  have e0 : g3.objs.size = s.heap.objs.size := by rw [k3.1, k2.1, k1.1]
  have z3 : IsZipHeld g3 z TI TO T true := k3.extBut _ _ D.i2z.symm (k2.extBut _ _ D.i1z.symm z1)
  have up : ∀ c o, c ≠ z → c ≠ i1 → c ≠ i2 → s.heap.get? c = some o → g3.get? c = some o := fun c o n1 n2 n3 e => k3.extBut _ _ n3 (k2.extBut _ _ n2 (k1.extBut _ _ n1 e))
  have t13 : g3.IsTupleIter i1 a (i + 1) := t1'.extBut k3.extBut D.i12
  have new : IsPair (g3.push { cls := .type "tuple", data := .seq #[x, y] }) g3.objs.size x y := Heap.get?_push_size _ rfl
  show Q (.ref g3.objs.size) _
  rw [e0] at new ⊢
  exact q _ (Heap.get?_push_of_some _ z3) (t13.at fun o e => Heap.get?_push_of_some _ e) (t2'.at fun o e => Heap.get?_push_of_some _ e) new fun c o n1 n2 n3 e => Heap.get?_push_of_some _ (up c o n1 n2 n3 e)
theorem zheld_end {Q : Fin → Shared → Prop} (hh : A.handled = none) (D : ZipApart z TI TO i1 i2 a b) (hz : IsZipHeld s.heap z TI TO T f) (hT : s.heap.get? T = some oT) (ti : IsPair s.heap TI (.ref i1) (.ref i2))
    (t1 : s.heap.IsTupleIter i1 a i) (ha : s.heap.IsTuple a xs) (hx : xs[i]? = none)
    (q : ∀ h' e, (∀ c o, c ≠ z → c ≠ i1 → c ≠ i2 → s.heap.get? c = some o → h'.get? c = some o) → (∃ o, h'.get? e = some o ∧ o.cls = .type "StopIteration") → E (.ref e) { s with heap := h' }) :
    wpAny (model prog w) A (Builtin.«zip.__next__» ⟨[.ref z], []⟩) Q E s := by
  show wpAny _ _ (field (.ref z) 2 >>= _) _ _ s
  refine wpAny_bind (wpAny_field hz rfl (x := .bool false) rfl ?_); show wpAny _ _ (field (.ref z) 3 >>= _) _ _ s
  refine wpAny_bind (wpAny_field hz rfl (x := .ref TI) rfl ?_); refine wpAny_bind (wpAny_seqItems ti rfl ?_)
  show wpAny _ _ (Builtin.SmallTypes.ownedTupleIsFree (.ref z) >>= _) _ _ s
  refine wpAny_bind (wpAny_tupleHeld_zip hz hT fun g1 z1 k1 => ?_); simp only [Bool.false_eq_true, if_false]
  refine wpAny_bind ?_; rw [← Array.forIn_toList]; simp only [List.forIn_cons, List.forIn_nil]
  refine wpAny_bind (wpAny_bind (wpAny_holding ?_)); show wpAny _ _ (Builtin.SmallTypes.nextOf (.ref i1) >>= _) _ _ _
  exact wpAny_bind (RZ.nextOf_tuple_end (s := { s with heap := g1 }) hh (t1.extBut k1.extBut D.i1z) (ha.extBut k1.extBut D.l1z) hx fun g2 e k2 he => q g2 e (fun c o n1 n2 _ v => k2 _ _ n2 (k1.extBut _ _ n1 v)) he)
theorem znext_item {Q : Option Value → Shared → Prop} (D : ZipApart z TI TO i1 i2 a b) (hz : IsZipHeld s.heap z TI TO T f) (hT : s.heap.get? T = some oT) (ti : IsPair s.heap TI (.ref i1) (.ref i2))
    (t1 : s.heap.IsTupleIter i1 a i) (t2 : s.heap.IsTupleIter i2 b i) (ha : s.heap.IsTuple a xs) (hb : s.heap.IsTuple b ys) (hx : xs[i]? = some x) (hy : ys[i]? = some y)
    (q : ∀ h', IsZipHeld h' z TI TO T true → h'.IsTupleIter i1 a (i + 1) → h'.IsTupleIter i2 b (i + 1) → IsPair h' s.heap.objs.size x y →
      (∀ c o, c ≠ z → c ≠ i1 → c ≠ i2 → s.heap.get? c = some o → h'.get? c = some o) → Q (some (.ref s.heap.objs.size)) { s with heap := h' }) :
    wpAny (model prog w) A (pyNext (.ref z)) Q E s := by
  have ty : s.TypeIs (.ref z) "zip" := ⟨_, hz, rfl⟩
  unfold pyNext
  exact wpAny_bind (wpAny_attempt (wpAny_callSpecial?_slot (name := Str.ofString "__next__") ty F.slot_zip_next (wpAny_call_entry F.slot_zip_next ty F.entry_zip_next (zheld_item D hz hT ti t1 t2 ha hb hx hy fun h' c1 c2 c3 c4 c5 => wpAny_pure (q h' c1 c2 c3 c4 c5)) (F.args_zip_next_1 _))))
theorem znext_end {Q : Option Value → Shared → Prop} (hh : A.handled = none) (D : ZipApart z TI TO i1 i2 a b) (hz : IsZipHeld s.heap z TI TO T f) (hT : s.heap.get? T = some oT) (ti : IsPair s.heap TI (.ref i1) (.ref i2))
    (t1 : s.heap.IsTupleIter i1 a i) (ha : s.heap.IsTuple a xs) (hx : xs[i]? = none)
    (q : ∀ h', (∀ c o, c ≠ z → c ≠ i1 → c ≠ i2 → s.heap.get? c = some o → h'.get? c = some o) → Q none { s with heap := h' }) : wpAny (model prog w) A (pyNext (.ref z)) Q E s := by
  have ty : s.TypeIs (.ref z) "zip" := ⟨_, hz, rfl⟩
  unfold pyNext
  refine wpAny_bind (wpAny_attempt (wpAny_callSpecial?_slot (name := Str.ofString "__next__") ty F.slot_zip_next (wpAny_call_entry F.slot_zip_next ty F.entry_zip_next (zheld_end hh D hz hT ti t1 ha hx fun h' e k ⟨o, ho, hc⟩ => ?_) (F.args_zip_next_1 _))))
  exact wpAny_bind (wpAny_isInstance (T := "StopIteration") (b := true) ⟨o, ho, hc⟩ isSubtype_stop (wpAny_pure (q _ k)))
/-- where the iterator stands, i pairs given out -/
structure ZAt (h : Heap) (z TI TO i1 i2 a b : Addr) (i : Nat) : Prop where
  ti : IsPair h TI (.ref i1) (.ref i2)
  t1 : h.IsTupleIter i1 a i
  t2 : h.IsTupleIter i2 b i
  out : (IsZip h z TI TO .none ∧ ∃ u v, IsPair h TO u v) ∨ ∃ T f oT, IsZipHeld h z TI TO T f ∧ h.get? T = some oT ∧ T ≠ z ∧ T ≠ i1 ∧ T ≠ i2 ∧ T ≠ S
/-- the pairs given out -/
structure Prs (h : Heap) (lo : Addr) (xs ys : Array Value) (as : List Addr) : Prop where
  rise : as.Pairwise (· < ·)
  above : ∀ c ∈ as, lo ≤ c
  pair : ∀ (j : Nat) (c : Addr), as[j]? = some c → ∃ x y, xs[j]? = some x ∧ ys[j]? = some y ∧ IsPair h c x y
theorem Prs.there {h : Heap} {lo : Addr} {as : List Addr} (g : Prs h lo xs ys as) {c : Addr} (hc : c ∈ as) : c < h.objs.size := by
  obtain ⟨j, hj⟩ := List.mem_iff_getElem?.mp hc
  obtain ⟨_, _, _, _, e⟩ := g.pair j c hj
  exact Heap.lt_size e
theorem zat_item {Q : Option Value → Shared → Prop} (D : ZipApart z TI TO i1 i2 a b) (Z : ZAt (S := S) s.heap z TI TO i1 i2 a b i) (hS : S < s.heap.objs.size) (ha : s.heap.IsTuple a xs) (hb : s.heap.IsTuple b ys) (hx : xs[i]? = some x) (hy : ys[i]? = some y)
    (q : ∀ h', ZAt (S := S) h' z TI TO i1 i2 a b (i + 1) → IsPair h' s.heap.objs.size x y → (∀ c o, c ≠ z → c ≠ TO → c ≠ i1 → c ≠ i2 → s.heap.get? c = some o → h'.get? c = some o) → Q (some (.ref s.heap.objs.size)) { s with heap := h' }) :
    wpAny (model prog w) A (pyNext (.ref z)) Q E s := by
  have l1 : i1 < s.heap.objs.size := by obtain ⟨_, e, _⟩ := Z.t1; exact Heap.lt_size e
  have l2 : i2 < s.heap.objs.size := by obtain ⟨_, e, _⟩ := Z.t2; exact Heap.lt_size e
  rcases Z.out with ⟨hz, u, v, hO⟩ | ⟨T, f, oT, hz, hT, n1, n2, n3, n4⟩
  · have lz : z < s.heap.objs.size := Heap.lt_size hz
    refine RZ.pyNext_zipT_item D hz Z.ti hO Z.t1 Z.t2 ha hb hx hy fun h' z' o' t1' t2' hN _ k => q h' ⟨k _ _ D.TIz D.TITO D.TIi1 D.TIi2 Z.ti, t1', t2', .inr ⟨s.heap.objs.size, false, _, z', hN, Nat.ne_of_gt lz, Nat.ne_of_gt l1, Nat.ne_of_gt l2, Nat.ne_of_gt hS⟩⟩ hN k
  · refine znext_item D hz hT Z.ti Z.t1 Z.t2 ha hb hx hy fun h' z' t1' t2' hN k => q h' ⟨k _ _ D.TIz D.TIi1 D.TIi2 Z.ti, t1', t2', .inr ⟨T, true, oT, z', k _ _ n1 n2 n3 hT, n1, n2, n3, n4⟩⟩ hN fun c o m1 _ m3 m4 e => k c o m1 m3 m4 e
theorem zat_end {Q : Option Value → Shared → Prop} (hh : A.handled = none) (D : ZipApart z TI TO i1 i2 a b) (Z : ZAt (S := S) s.heap z TI TO i1 i2 a b i) (ha : s.heap.IsTuple a xs) (hb : s.heap.IsTuple b ys) (hx : xs[i]? = none)
    (q : ∀ h', (∀ c o, c ≠ z → c ≠ TO → c ≠ i1 → c ≠ i2 → s.heap.get? c = some o → h'.get? c = some o) → Q none { s with heap := h' }) : wpAny (model prog w) A (pyNext (.ref z)) Q E s := by
  rcases Z.out with ⟨hz, u, v, hO⟩ | ⟨T, f, oT, hz, hT, n1, n2, n3, n4⟩
  · exact RZ.pyNext_zipT_end hh D hz Z.ti hO Z.t1 Z.t2 ha hb (.inl hx) fun h' k => q h' k
  · exact znext_end hh D hz hT Z.ti Z.t1 ha hx fun h' k => q h' fun c o m1 _ m3 m4 e => k c o m1 m3 m4 e
theorem ZAt.keep {h h' : Heap} (Z : ZAt (S := S) h z TI TO i1 i2 a b i) (k : ∀ c o, c ≠ S → h.get? c = some o → h'.get? c = some o) (m1 : z ≠ S) (m2 : TI ≠ S) (m3 : TO ≠ S) (m4 : i1 ≠ S) (m5 : i2 ≠ S) : ZAt (S := S) h' z TI TO i1 i2 a b i :=
  ⟨k _ _ m2 Z.ti, Z.t1.at fun o e => k _ o m4 e, Z.t2.at fun o e => k _ o m5 e, Z.out.elim (fun ⟨hz, u, v, hO⟩ => .inl ⟨k _ _ m1 hz, u, v, k _ _ m3 hO⟩) fun ⟨T, f, oT, hz, hT, n1, n2, n3, n4⟩ => .inr ⟨T, f, oT, k _ _ m1 hz, k _ _ n4 hT, n1, n2, n3, n4⟩⟩
/-- all five cells and the list lie below lo -/
structure ZLow (lo S z TI TO i1 i2 a b : Addr) : Prop where
  fs : S < lo
  fz : z < lo
  fo : TO < lo
  f1 : i1 < lo
  f2 : i2 < lo
  nz : z ≠ S
  nI : TI ≠ S
  nO : TO ≠ S
  n1 : i1 ≠ S
  n2 : i2 ≠ S
  na : a ≠ S
  nb : b ≠ S
theorem zloop {R : Result → Shared → Prop} {lo : Addr} {h1 : Heap} (hh : A.handled = none) (D : ZipApart z TI TO i1 i2 a b) (L : ZLow lo S z TI TO i1 i2 a b) (ex : xs.size = n) (ey : ys.size = n) (hn : n ≤ 1000) (res : Value)
    (hR : ∀ h' acc c as, (∀ d o, d ≠ S → d ≠ z → d ≠ TO → d ≠ i1 → d ≠ i2 → h1.get? d = some o → h'.get? d = some o) → h'.get? S = some { cls := .type "list", dict := none, data := .seq acc c, slots := #[] } → as.length = n → Prs h' lo xs ys as →
      acc.toList = as.map Value.ref → R (.ok (.ret res)) { s with heap := h' }) :
    ∀ (k i : Nat) (h : Heap) (c : Nat) (acc : Array Value) (as : List Addr), n - i = k → i ≤ n → ZAt (S := S) h z TI TO i1 i2 a b i → h.IsTuple a xs → h.IsTuple b ys → (∀ d o, d ≠ S → d ≠ z → d ≠ TO → d ≠ i1 → d ≠ i2 → h1.get? d = some o → h.get? d = some o) →
      h.get? S = some { cls := .type "list", dict := none, data := .seq acc c, slots := #[] } → acc.toList = as.map Value.ref → as.length = i → Prs h lo xs ys as → lo ≤ h.objs.size →
      codeAny (model prog w) A (.builtin "list.extend.loop" ⟨[.ref S, .ref z, res], []⟩) R { s with heap := h } := by
  intro k
  induction k with
  | zero =>
    intro i h c acc as hk hi Z ha hb kp hS hacc hal G hlo
    refine codeAny_builtin PySem.F.entry_extend_loop ?_; rw [Around.under_plainId PySem.F.plain_extend_loop _]
    show wpAny _ A.in1 (pyNext (.ref z) >>= _) _ _ _
    refine wpAny_bind (zat_end (s := { s with heap := h }) (A := A.in1) hh D Z ha hb (Array.getElem?_eq_none (by omega)) fun h' k' => wpAny_pure ?_)
    refine hR h' acc c as (fun d o d0 d1 d2 d3 d4 e => k' d o d1 d2 d3 d4 (kp d o d0 d1 d2 d3 d4 e)) (k' _ _ L.nz.symm L.nO.symm L.n1.symm L.n2.symm hS) (by omega) ⟨G.rise, G.above, fun j d hj => ?_⟩ hacc
    obtain ⟨u, v, e1, e2, e3⟩ := G.pair j d hj
    have ge := G.above d (List.mem_of_getElem? hj)
    exact ⟨u, v, e1, e2, k' d _ (Nat.ne_of_gt (Nat.lt_of_lt_of_le L.fz ge)) (Nat.ne_of_gt (Nat.lt_of_lt_of_le L.fo ge)) (Nat.ne_of_gt (Nat.lt_of_lt_of_le L.f1 ge)) (Nat.ne_of_gt (Nat.lt_of_lt_of_le L.f2 ge)) e3⟩
  | succ k ih =>
    intro i h c acc as hk hi Z ha hb kp hS hacc hal G hlo
    have lt : i < n := by omega
    have hx : xs[i]? = some (xs[i]'(by omega)) := Array.getElem?_eq_getElem _
    have hy : ys[i]? = some (ys[i]'(by omega)) := Array.getElem?_eq_getElem _
    have hsz : acc.size = i := by rw [← Array.length_toList, hacc, List.length_map, hal]
    refine codeAny_builtin PySem.F.entry_extend_loop ?_; rw [Around.under_plainId PySem.F.plain_extend_loop _]
    show wpAny _ A.in1 (pyNext (.ref z) >>= _) _ _ _
    refine wpAny_bind (zat_item (s := { s with heap := h }) (S := S) D Z (Heap.lt_size hS) ha hb hx hy fun h' Z' hN k' => ?_)
    dsimp only at hN k' ⊢
    have hS' := k' S _ L.nz.symm L.nO.symm L.n1.symm L.n2.symm hS
    have up : ∀ d o, d ≠ S → h'.get? d = some o → (h'.update S (Obj.mapSeq (·.push (Value.ref h.objs.size)))).get? d = some o := fun d o hd e => (Heap.get?_update_other _ _ (Ne.symm hd)).trans e
    have lS : S < h.objs.size := Heap.lt_size hS
    show wpAny _ A.in1 (updateSeq S (·.push (Value.ref h.objs.size)) >>= _) _ _ _
    refine wpAny_bind (wpAny_updateSeq hS' rfl (wpAny_pure ⟨plainId_quiet PySem.F.plain_extend_loop _, ih (i + 1) _ _ (acc.push (Value.ref h.objs.size)) (as ++ [h.objs.size]) (by omega) lt (Z'.keep up L.nz L.nI L.nO L.n1 L.n2)
      (ha.at fun o e => up a o L.na (k' a o D.l1z D.l1TO D.l1i1 D.l1i2 e)) (hb.at fun o e => up b o L.nb (k' b o D.l2z D.l2TO D.l2i1 D.l2i2 e)) (fun d o d0 d1 d2 d3 d4 e => up d o d0 (k' d o d1 d2 d3 d4 (kp d o d0 d1 d2 d3 d4 e)))
      (Heap.get?_update_self _ hS' rfl) (by rw [Array.toList_push, hacc, List.map_append]; rfl) (by rw [List.length_append, hal]; rfl) ⟨?_, ?_, ?_⟩ ?_⟩) ?_ ?_)
    · exact List.pairwise_append.mpr ⟨G.rise, List.pairwise_singleton _ _, fun u hu v hv => by rw [List.mem_singleton.mp hv]; exact G.there hu⟩
    · intro u hu
      rcases List.mem_append.mp hu with hu | hu
      · exact G.above u hu
      · rw [List.mem_singleton.mp hu]; exact hlo
    · intro j d hj
      by_cases h1 : j < as.length
      · rw [List.getElem?_append_left h1] at hj
        obtain ⟨u, v, e1, e2, e3⟩ := G.pair j d hj
        have ge := G.above d (List.mem_of_getElem? hj)
        exact ⟨u, v, e1, e2, up d _ (Nat.ne_of_gt (Nat.lt_of_lt_of_le L.fs ge)) (k' d _ (Nat.ne_of_gt (Nat.lt_of_lt_of_le L.fz ge)) (Nat.ne_of_gt (Nat.lt_of_lt_of_le L.fo ge)) (Nat.ne_of_gt (Nat.lt_of_lt_of_le L.f1 ge)) (Nat.ne_of_gt (Nat.lt_of_lt_of_le L.f2 ge)) e3)⟩
      · rw [List.getElem?_append_right (by omega)] at hj
        have e0 : j - as.length = 0 := by
          cases e : j - as.length with
          | zero => rfl
          | succ m => rw [e] at hj; simp at hj
        rw [e0] at hj
        have hd : h.objs.size = d := by simpa using hj
        have hji : j = i := by omega
        subst hd
        subst hji
        exact ⟨_, _, hx, hy, up _ _ (Nat.ne_of_gt lS) hN⟩
    · have e : (h'.update S (Obj.mapSeq (·.push (Value.ref h.objs.size)))).get? h.objs.size = _ := up _ _ (Nat.ne_of_gt lS) hN
      exact Nat.le_trans hlo (Nat.le_of_lt (Heap.lt_size e))
    · rw [hsz]; exact Nat.le_of_lt (lt1000 (by omega))
    · show (acc.push (Value.ref h.objs.size)).size ≤ sizeLine + 1
      rw [Array.size_push, hsz]
      have := lt1000 (show i ≤ 1000 by omega)
      omega
end
end R1

namespace R1
open PySem PySem.Spec PyProof.Rows L2
section
variable {prog : Program} {w : World} {A : Around} {E : Value → Shared → Prop} {s : Shared} {z TI TO i1 i2 a b S : Addr} {n : Nat} {xs ys : Array Value} {u v : Value}
theorem zip_hint (hz : s.TypeIs (.ref z) "zip") {Q : Bool → Shared → Prop} (q : Q true s) : wpAny (model prog w) A (Builtin.List.listLengthHint (.ref z)) Q E s := by
  unfold Builtin.List.listLengthHint
  refine wpAny_bind (wpAny_specialOf hz zip_has_no_len ?_)
  show wpAny _ A (specialOf (Value.ref z) (Str.ofString "__length_hint__") >>= _) _ _ _
  exact wpAny_bind (wpAny_specialOf hz zip_has_no_hint (wpAny_pure q))
def ZKept (S z TO i1 i2 : Addr) (h h' : Heap) : Prop := ∀ d o, d ≠ S → d ≠ z → d ≠ TO → d ≠ i1 → d ≠ i2 → h.get? d = some o → h'.get? d = some o
theorem zextend {R : Result → Shared → Prop} {c0 : Nat} (hh : A.handled = none) (D : ZipApart z TI TO i1 i2 a b) (L : ZLow s.heap.objs.size S z TI TO i1 i2 a b) (hz : IsZip s.heap z TI TO .none) (ti : IsPair s.heap TI (.ref i1) (.ref i2)) (hO : IsPair s.heap TO u v)
    (t1 : s.heap.IsTupleIter i1 a 0) (t2 : s.heap.IsTupleIter i2 b 0) (ha : s.heap.IsTuple a xs) (hb : s.heap.IsTuple b ys) (ex : xs.size = n) (ey : ys.size = n) (hn : n ≤ 1000) (res : Value) (hS : s.heap.get? S = some { cls := .type "list", data := .seq #[] c0 })
    (hR : ∀ h' acc c as, ZKept S z TO i1 i2 s.heap h' → h'.get? S = some { cls := .type "list", dict := none, data := .seq acc c, slots := #[] } → as.length = n → Prs h' s.heap.objs.size xs ys as → acc.toList = as.map Value.ref → R (.ok (.ret res)) { s with heap := h' }) :
    wpAny (model prog w) A.in1 (Builtin.List.listExtendWith (.ref S) (.ref z) res)
      (fun r s' => match r with | .done f => R (.ok f) s' | .again c' => c'.quiet = true ∧ codeAny (model prog w) A c' R s') (fun e s' => R (.error e) s') s := by
  have ty : s.TypeIs (.ref z) "zip" := ⟨_, hz, rfl⟩
  have n1 : Builtin.List.listSameRef (.ref S) (.ref z) = false := by simp [Builtin.List.listSameRef, L.nz.symm]
  have n2 : (Value.type "zip" == Value.type "list") = false := by decide
  have n3 : (Value.type "zip" == Value.type "tuple") = false := by decide
  unfold Builtin.List.listExtendWith
  refine wpAny_bind (wpAny_typeOf ty ?_); simp only [n1, n2, n3, Bool.or_false, Bool.false_eq_true, if_false]
  refine wpAny_bind (wpAny_pyIter_zip hz ?_); refine wpAny_bind (wpAny_holding (zip_hint ty ?_)); simp only [Bool.true_or, if_true]
  refine wpAny_bind (wpAny_rule ?_)
  refine wpAny_bind ?_; show wpAny _ A.in1 (updateSeq S (·.push .none) >>= fun _ => updateSeq S (·.pop)) _ _ s
  refine wpAny_bind (wpAny_updateSeq hS rfl ?_)
  have g2 := Heap.get?_update_self (Obj.mapSeq (·.push Value.none)) hS rfl
  refine wpAny_updateSeq (hz := by seq_fits) g2 rfl ?_
  have g3 := Heap.get?_update_self (Obj.mapSeq (·.pop)) g2 rfl
  have ot : ∀ d o, d ≠ S → s.heap.get? d = some o → ((s.heap.update S (Obj.mapSeq (·.push Value.none))).update S (Obj.mapSeq (·.pop))).get? d = some o := fun d o hd e =>
    (Heap.get?_update_other _ _ (Ne.symm hd)).trans ((Heap.get?_update_other _ _ (Ne.symm hd)).trans e)
  generalize eh : (s.heap.update S (Obj.mapSeq (·.push Value.none))).update S (Obj.mapSeq (·.pop)) = hf at g3 ot ⊢
  have sz : s.heap.objs.size ≤ hf.objs.size := by rw [← eh]; simp [Heap.update]
  have Z0 : ZAt (S := S) s.heap z TI TO i1 i2 a b 0 := ⟨ti, t1, t2, .inl ⟨hz, u, v, hO⟩⟩
  exact wpAny_pure ⟨plainId_quiet PySem.F.plain_extend_loop _, zloop (s := s) (h1 := s.heap) hh D L ex ey hn res (fun h' acc c as kp hS' hl G hacc => hR h' acc c as kp hS' hl G hacc) n 0 hf _ _ [] (Nat.sub_zero _) (Nat.zero_le _) (Z0.keep ot L.nz L.nI L.nO L.n1 L.n2)
    (ha.at fun o e => ot a o L.na e) (hb.at fun o e => ot b o L.nb e) (fun d o d0 _ _ _ _ e => ot d o d0 e) g3 rfl rfl ⟨List.Pairwise.nil, (fun _ h => nomatch h), fun j c hj => by simp at hj⟩ sz⟩
theorem zcall {Q : Value → Shared → Prop} (hh : A.handled = none) (D : ZipApart z TI TO i1 i2 a b) (hz : IsZip s.heap z TI TO .none) (ti : IsPair s.heap TI (.ref i1) (.ref i2)) (hO : IsPair s.heap TO u v)
    (t1 : s.heap.IsTupleIter i1 a 0) (t2 : s.heap.IsTupleIter i2 b 0) (ha : s.heap.IsTuple a xs) (hb : s.heap.IsTuple b ys) (ex : xs.size = n) (ey : ys.size = n) (hn : n ≤ 1000)
    (q : ∀ h' acc c as, (∀ d o, d ≠ z → d ≠ TO → d ≠ i1 → d ≠ i2 → s.heap.get? d = some o → h'.get? d = some o) → h'.get? s.heap.objs.size = some { cls := .type "list", dict := none, data := .seq acc c, slots := #[] } → as.length = n → Prs h' (s.heap.objs.size + 1) xs ys as →
      acc.toList = as.map Value.ref → Q (.ref s.heap.objs.size) { s with heap := h' }) : wpAny (model prog w) A (call (.type "list") [.ref z]) Q E s := by
  have lz : z < s.heap.objs.size := Heap.lt_size hz
  have lI : TI < s.heap.objs.size := Heap.lt_size ti
  have lO : TO < s.heap.objs.size := Heap.lt_size hO
  have l1 : i1 < s.heap.objs.size := by obtain ⟨_, e, _⟩ := t1; exact Heap.lt_size e
  have l2 : i2 < s.heap.objs.size := by obtain ⟨_, e, _⟩ := t2; exact Heap.lt_size e
  have la : a < s.heap.objs.size := by obtain ⟨_, e, _⟩ := id ha; exact Heap.lt_size e
  have lb : b < s.heap.objs.size := by obtain ⟨_, e, _⟩ := id hb; exact Heap.lt_size e
  refine callType_codes (Q₁ := fun obj s2 => obj = .ref s.heap.objs.size ∧ s2 = { s with heap := s.heap.push { cls := .type "list", data := .seq #[] } }) PySem.F.called_list (PySem.F.typeCall_list_1 _) PySem.F.entry_list_init (code_list_new _ ⟨rfl, rfl⟩) fun obj s2 h2 => ?_
  obtain ⟨rfl, rfl⟩ := h2
  have hS : (s.heap.push { cls := .type "list", data := .seq #[] }).get? s.heap.objs.size = some { cls := .type "list", data := .seq #[] } := Heap.get?_push_size _ rfl
  have pz : (s.heap.push { cls := .type "list", data := .seq #[] }).objs.size = s.heap.objs.size + 1 := Heap.size_push ..
  have up : ∀ d o, s.heap.get? d = some o → (s.heap.push { cls := .type "list", data := .seq #[] }).get? d = some o := fun d o e => Heap.get?_push_of_some _ e
  generalize eg : s.heap.push { cls := .type "list", data := .seq #[] } = g at hS pz up ⊢
  refine ⟨⟨_, hS, rfl⟩, PySem.F.args_list_init_2 _ _, ?_⟩
  show wpAny _ _ (do let old ← Builtin.List.listItems (.ref s.heap.objs.size); Builtin.List.listUpdate (.ref s.heap.objs.size) (fun _ => #[]); letGo old.toList.reverse; Builtin.List.listExtendWith (.ref s.heap.objs.size) (.ref z) .none) _ _ _
  refine wpAny_bind ?_; unfold Builtin.List.listItems
  refine wpAny_bind (wpAny_seqItems hS rfl (wpAny_pure ?_))
  show wpAny _ _ (updateSeq s.heap.objs.size (fun _ => #[]) >>= fun _ => letGo (#[] : Array Value).toList.reverse >>= fun _ => Builtin.List.listExtendWith (.ref s.heap.objs.size) (.ref z) .none) _ _ _
  refine wpAny_bind (wpAny_updateSeq hS rfl ?_)
  have hS2 := Heap.get?_update_self (Obj.mapSeq (fun _ => (#[] : Array Value))) hS rfl
  have ot : ∀ d o, d ≠ s.heap.objs.size → g.get? d = some o → (g.update s.heap.objs.size (Obj.mapSeq (fun _ => (#[] : Array Value)))).get? d = some o := fun d o hd e => (Heap.get?_update_other _ _ (Ne.symm hd)).trans e
  have sz2 : (g.update s.heap.objs.size (Obj.mapSeq (fun _ => (#[] : Array Value)))).objs.size = s.heap.objs.size + 1 := by rw [← pz]; simp [Heap.update]
  refine wpAny_bind (wpAny_letGo ?_)
  generalize g.update s.heap.objs.size (Obj.mapSeq (fun _ => (#[] : Array Value))) = g2 at hS2 ot sz2 ⊢
  have k2 : ∀ d o, s.heap.get? d = some o → g2.get? d = some o := fun d o e => ot d o (Nat.ne_of_lt (Heap.lt_size e)) (up d o e)
  refine zextend (A := A.in1) (R := wants (fun r s₂ => r = Value.none ∧ Q (Value.ref s.heap.objs.size) s₂) E) (s := { s with heap := g2 }) (n := n) hh D ⟨?_, ?_, ?_, ?_, ?_, Nat.ne_of_lt lz, Nat.ne_of_lt lI, Nat.ne_of_lt lO, Nat.ne_of_lt l1, Nat.ne_of_lt l2, Nat.ne_of_lt la, Nat.ne_of_lt lb⟩ (k2 _ _ hz) (k2 _ _ ti) (k2 _ _ hO)
    (t1.at fun o e => k2 _ o e) (t2.at fun o e => k2 _ o e) (ha.at fun o e => k2 _ o e) (hb.at fun o e => k2 _ o e) ex ey hn .none hS2 fun h' acc c as kp hS' hl G hacc => ⟨rfl, q h' acc c as (fun d o d1 d2 d3 d4 e => kp d o (Nat.ne_of_lt (Heap.lt_size e)) d1 d2 d3 d4 (k2 d o e)) hS' hl (by rw [← sz2]; exact G) hacc⟩
  all_goals (show _ < g2.objs.size; rw [sz2])
  · exact Nat.lt_succ_self _
  · exact Nat.lt_succ_of_lt lz
  · exact Nat.lt_succ_of_lt lO
  · exact Nat.lt_succ_of_lt l1
  · exact Nat.lt_succ_of_lt l2
end
/-! ### tracked -/
def putP : Hp → List Addr → List (V × V) → Hp
  | H, c :: cs, p :: ps => putP (upd H c (.tup [p.1, p.2])) cs ps
  | H, _, _ => H
theorem putP_off {d : Addr} : ∀ (cs : List Addr) (ps : List (V × V)) (H : Hp), d ∉ cs → putP H cs ps d = H d
  | [], _, _, _ => rfl
  | _ :: _, [], _, _ => rfl
  | c :: cs, p :: ps, H, h => by
    have h2 : d ≠ c ∧ d ∉ cs := ⟨fun e => h (e ▸ List.mem_cons_self), fun e => h (List.mem_cons_of_mem _ e)⟩
    show putP (upd H c (.tup [p.1, p.2])) cs ps d = H d
    rw [putP_off cs ps _ h2.2, upd_ne h2.1]
theorem putP_at : ∀ (cs : List Addr) (ps : List (V × V)) (H : Hp), cs.Nodup → ∀ (j : Nat) (c : Addr) (p : V × V), cs[j]? = some c → ps[j]? = some p → putP H cs ps c = some (.tup [p.1, p.2])
  | [], _, _, _, _, _, _, h, _ => by simp at h
  | _ :: _, [], _, _, _, _, _, _, h => by simp at h
  | c :: cs, p :: ps, H, nd, 0, d, r, h1, h2 => by
    cases h1; cases h2
    show putP (upd H c (.tup [p.1, p.2])) cs ps c = _
    rw [putP_off cs ps _ (List.nodup_cons.mp nd).1, upd_same]
  | c :: cs, p :: ps, H, nd, j + 1, d, r, h1, h2 => putP_at cs ps _ (List.nodup_cons.mp nd).2 j d r (by simpa using h1) (by simpa using h2)
theorem refs_vals : ∀ as : List Addr, Vals (as.map V.ref) (as.map Value.ref)
  | [] => .nil
  | _ :: as => .cons rfl (refs_vals as)
theorem LiI_get : ∀ {vs : List V} {us : List Value}, Vals vs us → ∀ {j : Nat} {u : Value}, us[j]? = some u → ∃ v, vs[j]? = some v ∧ RelV v u
  | _, _, .nil, j, u, h => by simp at h
  | _, _, .cons r t, 0, u, h => by cases h; exact ⟨_, rfl, r⟩
  | _, _, .cons r t, j + 1, u, h => by simpa using LiI_get t (by simpa using h)
section
variable {X : Cx}
theorem zip_laid {pins : List (Addr × Obj)} {σ : L2.St} {H : Hp} {s : Shared} {h' : Heap} {l : Addr} {acc : Array Value} {c tk : Nat} {as : List Addr} {vs ws : List V} {us rs : List Value} (I : Inv X pins σ H s) (rv : Vals vs us) (rw' : Vals ws rs) (hl : as.length ≤ 1000) (hk : ∀ d o, s.heap.get? d = some o → h'.get? d = some o)
    (ll : s.heap.objs.size ≤ l) {lw : Addr} (hlw : l < lw) (hS : h'.get? l = some { cls := .type "list", dict := none, data := .seq acc c, slots := #[] }) (G : Prs h' lw us.toArray rs.toArray as) (hacc : acc.toList = as.map Value.ref) :
    ∃ H' : Hp, Same H H' ∧ H l = none ∧ H' l = some (.lst (as.map V.ref)) ∧ (∀ (j : Nat) (d : Addr) (x y : V), as[j]? = some d → vs[j]? = some x → ws[j]? = some y → H' d = some (.tup [x, y])) ∧ Inv X pins σ H' { s with heap := h', toks := tk } := by
  have nd : as.Nodup := List.Pairwise.imp (fun {d e} (h : d < e) => Nat.ne_of_lt h) G.rise
  have lo : ∀ d ∈ as, s.heap.objs.size ≤ d ∧ d ≠ l := fun d hd => by
    have q : l < d := Nat.lt_of_lt_of_le hlw (G.above d hd)
    exact ⟨Nat.le_of_lt (Nat.lt_of_le_of_lt ll q), Nat.ne_of_gt q⟩
  have nl : H l = none := I.hok.fresh ll
  have nw : ∀ d ∈ as, H d = none := fun d hd => I.hok.fresh (lo d hd).1
  have zl : (vs.zip ws).length = min vs.length ws.length := List.length_zip
  have gz : ∀ (j : Nat) (x y : V), vs[j]? = some x → ws[j]? = some y → (vs.zip ws)[j]? = some (x, y) := fun j x y h1 h2 => List.getElem?_zip_eq_some.mpr ⟨h1, h2⟩
  generalize eH : putP (upd H l (.lst (as.map V.ref))) as (vs.zip ws) = H'
  have off : ∀ d, d ∉ as → d ≠ l → H' d = H d := fun d h1 h2 => by rw [← eH, putP_off as _ _ h1, upd_ne h2]
  have atl : H' l = some (.lst (as.map V.ref)) := by rw [← eH, putP_off as _ _ (fun z => (lo l z).2 rfl), upd_same]
  have att : ∀ (j : Nat) (d : Addr) (x y : V), as[j]? = some d → vs[j]? = some x → ws[j]? = some y → H' d = some (.tup [x, y]) := fun j d x y h1 h2 h3 => by
    rw [← eH]; exact putP_at as _ _ nd j d (x, y) h1 (gz j x y h2 h3)
  have kp : Same H H' := fun d o e => by
    rw [off d (fun z => by rw [nw d z] at e; cases e) (fun z => by rw [z, nl] at e; cases e)]; exact e
  refine ⟨H', kp, nl, atl, att, I.call' (ch := []) rfl ⟨fun d o e _ _ _ => hk d o e, fun d o e _ _ _ => ⟨o.slots, hk d o e⟩, fun d o e n _ => ?_, fun d o e _ => ⟨o, hk d o e⟩, fun d r e => kp d _ e, fun d o r e => kp d _ e, fun d r e => ⟨#[], by rw [kp d _ e]; simp⟩⟩ (fun d o e => ?_) I.bare fun d z => by simp at z⟩
  · have q := Heap.lt_size e
    rw [off d (fun z => absurd q (Nat.not_lt.mpr (lo d z).1)) (fun z => absurd q (Nat.not_lt.mpr (z ▸ ll)))]; exact n
  · by_cases hd : d ∈ as
    · obtain ⟨j, hj⟩ := List.mem_iff_getElem?.mp hd
      obtain ⟨x, y, e1, e2, e3⟩ := G.pair j d hj
      obtain ⟨p, hp, rp⟩ := LiI_get rv (by simpa using e1)
      obtain ⟨r, hr, rr⟩ := LiI_get rw' (by simpa using e2)
      rw [att j d p r hj hp hr] at e
      cases e
      exact ⟨by show 2 ≤ sizeLine; decide, [x, y], .cons rp (.cons rr .nil), ⟨_, e3, rfl, _, rfl⟩⟩
    · by_cases h2 : d = l
      · subst h2
        rw [atl] at e
        cases e
        refine ⟨by rw [List.length_map]; exact Nat.le_of_lt (lt1000 hl), acc.toList, c, by rw [hacc]; exact refs_vals as, ?_⟩
        rw [Array.toArray_toList]; exact hS
      · rw [off d hd h2] at e
        exact (I.hok d o e).stay (fun g v _ y => hk g v y) (fun g y => kp g _ y) fun g r y => kp g _ y
def tListZip (K : PySem.W.Frag) (ta : TA) : TE := fun σ H Q => ta σ H fun vs H1 => ∃ a b xs ys, vs = [.ref a, .ref b] ∧ SqT K H1 a xs ∧ SqT K H1 b ys ∧ xs.length = ys.length ∧ xs.length ≤ 1000 ∧
  ∀ (H2 : Hp) (l : Addr) (as : List Addr), Same H1 H2 → H1 l = none → as.length = xs.length → H2 l = some (.lst (as.map V.ref)) → (∀ (j : Nat) (d : Addr) (x y : V), as[j]? = some d → xs[j]? = some x → ys[j]? = some y → H2 d = some (.tup [x, y])) → Q (.ref l) H2
theorem pe_listZip {e e2 : Expr} {ta : TA} {p p2 pos pos2 : Pos} (hc : X.calm = true) (hg : Gl X "list") (hm : X.mg "list" = none) (hg2 : Gl X "zip") (hm2 : X.mg "zip" = none) (ha : PA X [e, e2] ta)
    (na : starEach [.Call (.Name "zip" p2) [e, e2] [] pos2] X.env = (false, eval (.Call (.Name "zip" p2) [e, e2] [] pos2) X.env) :: starEach [] X.env := by rfl)
    (hs : starEach [e, e2] X.env = (false, eval e X.env) :: starEach [e2] X.env := by rfl) (hpl : (backTo pos2 (starEach [e2] X.env)).any (·.1) = false := by rfl) :
    PE X (.Call (.Name "list" p) [.Call (.Name "zip" p2) [e, e2] [] pos2] [] pos) (tListZip X.K ta) := by
  refine ⟨fun pins s σ H Q I h => ?_⟩
  refine Call_ (ld_blt I hg hm PyProof.Rows.boot_list ?_)
  refine PyProof.Rows.callWith_type1 (PyProof.Rows.args_cons ?_ na) na rfl
  refine Call_ (ld_blt I hg2 hm2 PyProof.Rows.boot_zip (PyProof.Rows.callWith_type1 (thn (ha.run pos2 pins s σ H _ I h) fun us s1 ⟨vs, H1, I1, r1, q1⟩ => ?_) hs hpl))
  obtain ⟨a, b, xs, ys, rfl, hqx, hqy, hl, hl2, q⟩ := q1
  obtain ⟨u1, u2, rfl, e1, e2⟩ := vals2 r1
  obtain rfl : u1 = Value.ref a := e1
  obtain rfl : u2 = Value.ref b := e2
  obtain ⟨its, rv, p1, _⟩ := I1.tuple hqx
  obtain ⟨its2, rv2, p2', _⟩ := I1.tuple hqy
  obtain ⟨o1, ho1, _⟩ := id p1
  obtain ⟨o2, ho2, _⟩ := id p2'
  have y1 := rv.length
  have y2 := rv2.length
  refine RZ.call_zipT (show s1.heap.IsTuple a its.toArray from p1) (show s1.heap.IsTuple b its2.toArray from p2') fun h' hz hTI hTO h1 h2 hsz hk => ?_
  refine PyProof.Rows.args_nil ?_
  refine zcall (s := { s1 with heap := h' }) (n := xs.length) (xs := its.toArray) (ys := its2.toArray) (I1.ok.hd hc) (PySem.W.ktu_apart s1.heap.objs.size a b (Heap.lt_size ho1) (Heap.lt_size ho2)) hz hTI hTO h1 h2 (let ⟨o, ho, r⟩ := p1; ⟨o, hk a o ho, r⟩) (let ⟨o, ho, r⟩ := p2'; ⟨o, hk b o ho, r⟩) (by rw [List.size_toArray]; omega) (by rw [List.size_toArray]; omega) hl2 fun h3 acc c as k3 hS hal G hacc => ?_
  have I2 : Inv X pins σ H1 { s1 with heap := h' } := I1.kept (t' := s1.toks) hk
  have ne : ∀ d o, s1.heap.get? d = some o → h3.get? d = some o := fun d o e => by
    have q := Heap.lt_size e
    have nq : ∀ m : Nat, d ≠ s1.heap.objs.size + m := fun m z => absurd q (Nat.not_lt.mpr (z ▸ Nat.le_add_right _ _))
    exact k3 d o (nq 4) (nq 3) (nq 0) (nq 1) (hk d o e)
  obtain ⟨H2, sm, n0, at0, att, J⟩ := zip_laid (tk := s1.toks) I1 rv rv2 (by omega) ne (by rw [hsz]; omega) (Nat.lt_succ_self _) hS G hacc
  exact ⟨.ref h'.objs.size, H2, J, rfl, q H2 _ as sm n0 hal at0 att⟩
end
end R1

/-! text * int, the int any count -/
namespace R1
open PySem PySem.Spec PyProof.Rows L2
def repT (n : Nat) (z : List Nat) : List Nat := (List.replicate n z).flatten
theorem rep_fold (z : Array Nat) : ∀ (n : Nat) (b : Array Nat), ((List.replicate n z).foldl (· ++ ·) b).toList = b.toList ++ (List.replicate n z.toList).flatten
  | 0, b => by simp
  | n + 1, b => by
    rw [List.replicate_succ, List.foldl_cons, rep_fold z n, Array.toList_append, List.replicate_succ, List.flatten_cons, List.append_assoc]
theorem rep_len (z : List Nat) : ∀ n : Nat, (repT n z).length = n * z.length
  | 0 => by simp [repT]
  | n + 1 => by
    have := rep_len z n
    unfold repT at *
    rw [List.replicate_succ, List.flatten_cons, List.length_append, this, Nat.add_mul]
    omega
theorem op_rep {X : Cx} : OpR X (binaryOp .Mult) (fun x y H Q => ∃ (z : List Nat) (n : Nat), x = .str ⟨z.toArray⟩ ∧ y = .int n ∧ n ≤ 1000 ∧ 1 ≤ z.length ∧ z.length ≤ 1000 ∧ Q (.str ⟨(repT n z).toArray⟩) H) := by
  intro pins s σ H x y v u Q I rx ry h
  obtain ⟨z, n, rfl, rfl, h2, h3, h4, q⟩ := h
  obtain ⟨t, rfl⟩ := rx
  obtain ⟨t', rfl⟩ := ry
  have ez : (⟨z.toArray⟩ : Str).length = z.length := by show z.toArray.size = _; simp
  have e24 : sizeLine = 16777216 := by decide
  have hm : z.length * n ≤ 1000 * 1000 := Nat.mul_le_mul h4 h2
  refine PySem.P.mul_str ?_ (fun h1 _ => ?_) (fun _ _ => ?_) ?_
  · rw [decide_eq_false (by omega), decide_eq_false (by omega)]
    rfl
  · have : (1000 : Int) ≤ (2 ^ 63 - 1) / (n : Int) := by
      rw [Int.le_ediv_iff_mul_le (by omega)]
      omega
    rw [ez]
    omega
  · refine decide_eq_false ?_
    rw [e24, ez, Int.toNat_natCast]
    omega
  · have fin : ∀ s' : Shared, s' = { s with toks := s.toks + 1 } → EP X pins σ Q (.str ⟨(repT n z).toArray⟩ s.toks) s' := fun s' e => by
      subst e
      exact ⟨.str ⟨(repT n z).toArray⟩, H, I.tok _, ⟨_, rfl⟩, q⟩
    by_cases h0 : n = 0
    · subst h0
      rw [if_pos (by decide)]
      exact ⟨by decide, fin _ rfl⟩
    · rw [if_neg (by omega)]
      by_cases h1 : n = 1
      · subst h1
        rw [if_pos (by rfl)]
        have e1 : repT 1 z = z := by simp [repT]
        rw [e1] at q
        exact ⟨.str ⟨z.toArray⟩, H, I, ⟨_, rfl⟩, q⟩
      · have c1 : ((n : Int) == 1 || (⟨z.toArray⟩ : Str).length == 0) = false := by
          rw [Bool.or_eq_false_iff, ez]
          exact ⟨by rw [beq_eq_false_iff_ne]; omega, by rw [beq_eq_false_iff_ne]; omega⟩
        rw [c1, if_neg Bool.false_ne_true]
        have eq : (⟨(List.replicate (n : Int).toNat (⟨z.toArray⟩ : Str).cps).foldl (· ++ ·) #[]⟩ : Str) = ⟨(repT n z).toArray⟩ := by
          congr 1
          apply Array.toList_inj.mp
          rw [rep_fold, Int.toNat_natCast]
          simp [repT]
        rw [eq]
        refine ⟨?_, fin _ rfl⟩
        show (repT n z).toArray.size ≤ sizeLine
        rw [e24, List.size_toArray, rep_len, Nat.mul_comm]
        omega
end R1

/-! t[::-1], t a tuple -/
namespace R1
open PySem PySem.Spec PyProof.Rows L2 HT
section
variable {prog : Program} {w : World} {A : Around} {E : Value → Shared → Prop} {s : Shared}
theorem adjust_rev (n : Nat) : Builtin.Slice.sliceAdjust none none (-1) (n : Int) = ((n : Int) - 1, -1) := by
  unfold Builtin.Slice.sliceAdjust
  simp
theorem places_rev (n : Nat) : Builtin.Slice.slicePlaces ((n : Int) - 1) (-1) (-1) = n := by
  unfold Builtin.Slice.slicePlaces
  have h1 : ¬ ((-1 : Int) > 0) := by decide
  simp only [h1, if_false]
  split
  · rw [show (-(-1 : Int)) = 1 by decide, Int.ediv_one]
    omega
  · omega
theorem applied_rev {sl : Addr} {v : Value} {n : Nat} {Q : Int × Int × Nat → Shared → Prop} (hs : s.heap.IsSliceOf sl .none .none v) (p : IsPart v (some (-1))) (q : Q ((n : Int) - 1, -1, n) s) : wpAny (model prog w) A (Builtin.Slice.sliceApplied (.ref sl) (pure (n : Int))) Q E s := by
  obtain ⟨os, hos, hcs, hds⟩ := id hs
  unfold Builtin.Slice.sliceApplied Builtin.Slice.sliceFields
  refine wpAny_bind (wpAny_bind (wpAny_field hos hds (x := .none) rfl (wpAny_bind (wpAny_field hos hds (x := .none) rfl (wpAny_bind (wpAny_field hos hds (x := v) rfl (wpAny_pure ?_)))))))
  refine wpAny_bind (slicePart_ p ?_)
  show wpAny _ _ (if ((-1 : Int) == 0) = true then _ else _) _ _ s
  rw [if_neg (by decide)]
  refine wpAny_bind (slicePart_none (wpAny_bind (slicePart_none (wpAny_bind (wpAny_pure ?_)))))
  show wpAny _ _ (match Builtin.Slice.sliceAdjust none none (-1) (n : Int) with | (l, u) => pure (l, (-1 : Int), Builtin.Slice.slicePlaces l u (-1))) _ _ s
  rw [adjust_rev n]
  show wpAny _ _ (pure ((n : Int) - 1, (-1 : Int), Builtin.Slice.slicePlaces ((n : Int) - 1) (-1) (-1))) _ _ s
  rw [places_rev]
  exact wpAny_pure q
theorem pick_rev (xs : Array Value) : ((List.range xs.size).filterMap fun (m : Nat) => xs[(((xs.size : Int) - 1) + (m : Int) * (-1)).toNat]?).toArray = xs.toList.reverse.toArray := by
  congr 1
  have e : (fun (m : Nat) => xs[(((xs.size : Int) - 1) + (m : Int) * (-1)).toNat]?) = fun m => xs[xs.size - 1 - m]? := by
    funext m
    have : (((xs.size : Int) - 1) + (m : Int) * (-1)).toNat = xs.size - 1 - m := by omega
    rw [this]
  rw [e]
  have f : (List.range xs.size).filterMap (fun m => xs[xs.size - 1 - m]?) = ((List.range xs.size).map fun k => xs.size - 1 - k).filterMap (xs[·]?) := by
    rw [List.filterMap_map]; rfl
  rw [f, PySem.W.krv_range, List.filterMap_reverse, PySem.W.krv_all]
theorem getItem_rev {t sl : Addr} {items : Array Value} {v : Value} {Q : Value → Shared → Prop} (ht : IsTup s.heap t items) (hs : s.heap.IsSliceOf sl .none .none v) (p : IsPart v (some (-1)))
    (h : Q (.ref s.heap.objs.size) { s with heap := s.heap.push { cls := .type "tuple", data := .seq items.toList.reverse.toArray } }) (hz : items.size ≤ sizeLine) : wpAny (model prog w) A (getItem (.ref t) (.ref sl)) Q E s := by
  have hz2 : sizeOk (.seq items.toList.reverse.toArray) := by
    show items.toList.reverse.toArray.size ≤ sizeLine
    rw [List.size_toArray, List.length_reverse, Array.length_toList]; exact hz
  obtain ⟨os, hos, hcs, hds⟩ := id hs
  have ty : s.TypeIs (.ref sl) "slice" := ⟨os, hos, hcs⟩
  unfold getItem
  try with_reducible refine wpAny_holding ?_
  first | refine wpAny_bind (wpAny_pure ?_) | skip
  refine wpAny_bind (wpAny_sequenceKey ht.typeIs (by decide) ?_)
  refine wpAny_bind (wpAny_callSpecial?_slot (name := Str.ofString "__getitem__") ht.typeIs PyProof.Rows.slot_tuple_getitem (wpAny_call_entry PyProof.Rows.slot_tuple_getitem ht.typeIs entry_tuple_getitem ?_ (args_tuple_getitem _ _)))
  show wpAny _ _ (Builtin.Tuple.tupleItemsOf (.ref t) >>= _) _ _ s
  refine wpAny_bind (tupleItemsOf_ ht ?_)
  refine wpAny_bind (wpAny_typeOf ty ?_)
  rw [if_pos (by decide)]
  refine wpAny_bind (applied_rev hs p ?_)
  have hno : ¬ ((((items.size : Int) - 1) == 0 && (-1 : Int) == 1 && items.size == items.size) = true) := by
    rw [show ((-1 : Int) == 1) = false from by decide]
    simp
  show wpAny _ _ (if (((items.size : Int) - 1) == 0 && (-1 : Int) == 1 && items.size == items.size) = true then _ else _) _ _ s
  rw [if_neg hno, pick_rev]
  first
    | exact wpAny_bind (m := Builtin.Tuple.tupleExact _) (wpAny_newObj_type (wpAny_pure ⟨_, rfl, wpAny_pure h⟩) hz2)
    | exact wpAny_bind (m := Builtin.Tuple.tupleExact _) (wpAny_newObj_type (wpAny_bind (wpAny_pure (wpAny_pure ⟨_, rfl, wpAny_pure h⟩))) hz2)
    | exact wpAny_bind (wpAny_bind (m := Builtin.Tuple.tupleExact _) (wpAny_newObj_type (wpAny_pure (wpAny_pure ⟨_, rfl, wpAny_pure h⟩)) hz2))
    | exact wpAny_bind (wpAny_bind (m := Builtin.Tuple.tupleExact _) (wpAny_newObj_type (wpAny_pure ⟨_, rfl, wpAny_pure h⟩) hz2))
end
def tRevT (K : PySem.W.Frag) (te : TE) : TE := fun σ H Q => te σ H fun x H1 => ∃ a xs, x = .ref a ∧ SqT K H1 a xs ∧ ∀ p, H1 p = none → Q (.ref p) (upd H1 p (.tup xs.reverse))
theorem pe_revT {X : Cx} {e : Expr} {te : TE} {k : Nat} {p1 p2 p3 pos : Pos} (he : PE X e te) : PE X (.Subscript e (.Slice none none (some (.UnaryOp .USub (.Constant (.int 1) k p1) p2)) p3) pos) (tRevT X.K te) := by
  refine ⟨fun pins s σ H Q I h => Subscript_ (thn (he.run pins s σ H _ I h) fun v s1 ⟨x, H1, I1, r1, a, xs, ex, hx, q⟩ => ?_)⟩
  subst ex
  cases r1
  have ps : PO X (some (.UnaryOp .USub (.Constant (.int 1) k p1) p2)) (tPart (tUn (rU fun i => .int (-i)) (tC (.int 1)))) := po_some (pe_un un_neg pe_int)
  refine wpAny_Slice (thn (po_none.run pins s1 σ H1 (fun o F => o = none ∧ F = H1) I1 ⟨rfl, rfl⟩) fun vl s2 ⟨l, H2, I2, pl, el, e2⟩ => ?_)
  subst el e2
  refine thn (po_none.run pins s2 σ H2 (fun o F => o = none ∧ F = H2) I2 ⟨rfl, rfl⟩) fun vu s3 ⟨u, H3, I3, pu, eu, e3⟩ => ?_
  subst eu e3
  refine thn (ps.run pins s3 σ H3 (fun o F => o = some (-1) ∧ F = H3) I3 ⟨1, rfl, -1, rfl, rfl, rfl⟩) fun vs s4 ⟨o, H4, I4, pp, eo, e4⟩ => ?_
  subst eo e4
  cases pl
  cases pu
  have J : Inv X pins σ H4 { s4 with heap := s4.heap.push { cls := .type "slice", data := .fields #[.none, .none, vs] } } := I4.kept (t' := s4.toks) fun b ob q => Heap.get?_push_of_some _ q
  obtain ⟨its, r, ht, hz⟩ := J.tuple hx
  have hl := r.length
  show wpAny (model X.prog X.w) X.A (subscriptTail e (.Slice none none (some (.UnaryOp .USub (.Constant (.int 1) k p1) p2)) p3) (.ref a) (.ref s4.heap.objs.size)) (EP X pins σ Q) X.xe { s4 with heap := s4.heap.push { cls := .type "slice", data := .fields #[.none, .none, vs] } }
  refine tail_any (ops := [.ref a, .ref s4.heap.objs.size]) ht.typeIs (PyProof.Rows.slot_tuple_getitem.lookup) ?_ (by with_unfolding_all rfl)
  refine getItem_rev ht (Heap.IsSliceOf.new _ .none .none vs) pp ?_ (by rw [List.size_toArray]; omega)
  refine ⟨.ref _, _, J.laid (t' := s4.toks) (o := .tup xs.reverse) (fun b ob q => Heap.get?_push_of_some _ q) (Nat.le_refl _) ?_, rfl, q _ (J.hok.fresh (Nat.le_refl _))⟩
  exact ⟨by rw [List.length_reverse]; exact hz, _, r.reverse, IsTup.new _ _⟩
end R1

/-! dict(d), a copy -/
namespace R1
open PySem PySem.Spec PyProof.Rows L2
theorem call_dict_of {X : Cx} : CallR X (.type "dict") (fun xs H Q => ∃ (a : Addr) (kvs : List (Key × V)), xs = [.ref a] ∧ H a = some (.dK kvs) ∧ ∀ p, H p = none → Q (.ref p) (upd H p (.dK kvs))) := by
  intro pins s σ H xs us Q I r h
  obtain ⟨a, kvs, rfl, ha, q⟩ := h
  obtain ⟨u, rfl, rx⟩ := vals1 r
  cases rx
  exact d_copyOf I (.inl ha) fun p s' np J => ⟨.ref p, _, J, rfl, q p np⟩
end R1

/-! C.m(..), m a staticmethod of the class at C -/
namespace R1
open PySem PySem.Spec PyProof.Rows L2 ClX
structure SMet (K : PySem.W.Frag) (C : Addr) (mc : Value) (m : Str) (p g : Addr) : Prop where
  at_ : PySem.W.findCls K (.ref C) mc m = some (.get (.builtin "staticmethod.__get__") (.ref p) .none (.ref C))
  rc : ∃ rest, PySem.W.recIn K p "staticmethod" = some (.ref g :: rest)
  kp : PySem.W.keepIn K (.ref g) = true
section
variable {X : Cx} {pins : List (Addr × Obj)} {σ : L2.St} {H : Hp} {s : Shared} {C p g : Addr} {mc : Value} {m : Str} {A : Around} {E : Value → Shared → Prop}
theorem getmethsm_ok {pl : Sem Bool} {Q : Value × List Value → Shared → Prop} (I : Inv X pins σ H s) (r : CRead X.K C mc) (k : SMet X.K C mc m p g) (h : ∀ s', Inv X pins σ H s' → Q (.ref g, []) s') : wpAny (model X.prog X.w) A (getMethod (.ref C) m pl) Q E s := by
  obtain ⟨rest, hp⟩ := k.rc
  refine PySem.W.method_cls I.kIn r.ga (PySem.W.cls_bind I.kIn r.rd k.at_ (wpAny_call (PySem.W.sm_get (s := { s with toks := s.toks + 1 }) I.kIn hp (PySem.W.handed_on rfl ?_))))
  exact h _ (I.tok _)
end
def tSMeth (C : Addr) (sp : Sp) (E : XK) (ta : TE) (t : TA) : TE := fun σ H Q => ta σ H fun x H1 => x = .ref C ∧ t σ H1 fun vs H2 => sp vs H2 Q E
section
variable {X : Cx} {CX : CXT} {k : Nat} {C p g : Addr} {mc : Value} {sp : Sp} {E : XK} {o e : Expr} {es : List Expr} {f m : Str} {pos apos : Pos} {ta : TE} {t : TA} {pl : Sem Bool}
theorem pe_smeth (he : PE X o ta) (r : CRead X.K C mc) (c : SMet X.K C mc m p g) (F : FnR X.prog X.w X.K X.mg X.base CX k g sp) (hr : Room k X.A) (hx : Passes CX X E) (ha : PA X (e :: es) t)
    (hst : starEach (e :: es) X.env = (false, eval e X.env) :: starEach es X.env := by rfl) (hpl : (backTo pos (starEach es X.env)).any (·.1) = false := by rfl)
    (ht : eval (.Call (.Attribute o m apos) (e :: es) [] pos) X.env = (do
      let ov ← eval o X.env
      standAt apos.atName
      let (f, first) ← holding [ov] (getMethod ov m pl)
      callWith pos f first (backTo pos (starEach (e :: es) X.env)) (backToKw pos (keywordEach [] X.env))) := by rfl) :
    PE X (.Call (.Attribute o m apos) (e :: es) [] pos) (tSMeth C sp E ta t) := by
  refine ⟨fun pins s σ H Q I h => ?_⟩
  refine PySem.W.methodCall_KW (pl := pl) (thn (he.run pins s σ H _ I h) fun u s1 ⟨x, H1, I1, rx, ex, q⟩ => ?_) ht
  subst ex
  obtain rfl : u = Value.ref C := rx
  refine getmethsm_ok I1 r c fun s2 I2 => ?_
  refine PySem.W.callWith_K (first := []) (h₀ := X.base) I.ok.mod.kin c.kp (thn (ha.run pos pins s2 σ H1 _ I2 q) fun us s3 ⟨vs, H2, I3, rv, q2⟩ => ⟨I3.kIn, ?_⟩) hst hpl
  exact wpAny_call (run_fnR F hr hx I3 rv q2)
theorem pe_smeth0 (he : PE X o ta) (r : CRead X.K C mc) (c : SMet X.K C mc m p g) (F : FnR X.prog X.w X.K X.mg X.base CX k g sp) (hr : Room k X.A) (hx : Passes CX X E)
    (ht : eval (.Call (.Attribute o m apos) [] [] pos) X.env = (do
      let ov ← eval o X.env
      standAt apos.atName
      let (f, first) ← holding [ov] (getMethod ov m pl)
      callWith pos f first (backTo pos (starEach [] X.env)) (backToKw pos (keywordEach [] X.env))) := by rfl) :
    PE X (.Call (.Attribute o m apos) [] [] pos) (tSMeth C sp E ta tNil) := by
  refine ⟨fun pins s σ H Q I h => ?_⟩
  refine PySem.W.methodCall_KW (pl := pl) (thn (he.run pins s σ H _ I h) fun u s1 ⟨x, H1, I1, rx, ex, q⟩ => ?_) ht
  subst ex
  obtain rfl : u = Value.ref C := rx
  refine getmethsm_ok I1 r c fun s2 I2 => ?_
  exact PySem.W.callWith_K0 (first := []) I2.kIn c.kp (wpAny_call (run_fnR (us := []) (vs := []) F hr hx I2 .nil q))
end
end R1

/-! len(x), k in x, x[k] by the own defs of x's class -/
namespace R1
open PySem PySem.Spec PyProof.Rows L2
section
variable {X : Cx} {CX : CXT} {n : Nat} {C g : Addr} {sp : Sp} {E : XK}
theorem run_fnR1 {pins : List (Addr × Obj)} {σ : L2.St} {H : Hp} {s : Shared} {Q : VK} {us : List Value} {vs : List V} (F : FnR X.prog X.w X.K X.mg X.base CX n g sp) (hr : Room (n + 1) X.A) (hx : Passes CX X E) (I : Inv X pins σ H s) (r : Vals vs us) (h : sp vs H Q E) :
    codeAny (model X.prog X.w) X.A.in1 (.call (.ref g) ⟨us, []⟩) (fun r s' => match r with | .ok (.ret v) => EP X pins σ Q v s' | .ok _ => False | .error e => X.xe e s') s := by
  refine codeAny_mono (F X.A.in1 X.stack s H us vs Q E hr.in1 I.env0.in1 r h) fun r s' hq => ?_
  cases r with
  | error e => exact hx pins σ H s e s' I hq
  | ok fl =>
    cases fl with
    | ret u => exact I.after hq
    | next => exact False.elim hq
    | brk => exact False.elim hq
    | cont => exact False.elim hq
def rLenO (C : Addr) (sp : Sp) (E : XK) : List V → Hp → VK → Prop := fun xs H Q => ∃ a dx fs, xs = [.ref a] ∧ H a = some (.ins C dx fs) ∧ sp [.ref a] H (fun v H' => ∃ k : Nat, v = .int k ∧ k < 1000000 ∧ Q (.int k) H') E
theorem call_lenO (hs : PySem.W.findIn X.K (.ref C) "__len__" = some (some (.ref g))) (hf : PySem.W.isFn X.K (.ref g) = true) (F : FnR X.prog X.w X.K X.mg X.base CX n g sp) (hr : Room (n + 1) X.A) (hx : Passes CX X E) : CallR X (.builtin "len") (rLenO C sp E) := by
  intro pins s σ H xs us Q I r h
  obtain ⟨a, dx, fs, rfl, ha, q⟩ := h
  obtain rfl := Vals.ref1 r
  obtain ⟨mA, O, _, _, _, _⟩ := ins_get I.hok ha
  obtain ⟨od, J, _⟩ := O.look
  obtain ⟨m, hF⟩ := I.fr
  refine PySem.W.len_K hF I.ok.mod.kin J hs hf (wpAny_mono (wpAny_call (run_fnR1 (us := [.ref a]) (vs := [.ref a]) F hr hx I (.cons rfl .nil) q)) (fun v s' z => ?_) fun _ _ x => x)
  obtain ⟨x, H', I', rx, k, rfl, hk, q'⟩ := z
  obtain ⟨t, rfl⟩ := rx
  exact ⟨⟨by omega, by omega⟩, .int k, H', I'.tok _, ⟨_, rfl⟩, q'⟩
def rInO (C : Addr) (sp : Sp) (E : XK) (neg : Bool) : R2 := fun x y H Q => ∃ a dx fs, y = .ref a ∧ H a = some (.ins C dx fs) ∧ sp [.ref a, x] H (fun v H' => ∃ b, v = .bl b ∧ Q (.bl (if neg then !b else b)) H') E
theorem op_inO (hs : PySem.W.findIn X.K (.ref C) "__contains__" = some (some (.ref g))) (hf : PySem.W.isFn X.K (.ref g) = true) (F : FnR X.prog X.w X.K X.mg X.base CX n g sp) (hr : Room n X.A) (hx : Passes CX X E) : OpR X (compareOp .In) (rInO C sp E false) := by
  intro pins s σ H x y v u Q I rx ry h
  obtain ⟨a, dx, fs, rfl, ha, q⟩ := h
  cases (show u = Value.ref a from ry)
  obtain ⟨mA, O, _, _, _, _⟩ := ins_get I.hok ha
  obtain ⟨od, J, _⟩ := O.look
  obtain ⟨m, hF⟩ := I.fr
  refine PySem.W.in_K hF I.ok.mod.kin J hs hf (wpAny_mono (wpAny_call (run_fnR (us := [.ref a, v]) (vs := [.ref a, x]) F hr hx I (.cons rfl (.cons rx .nil)) q)) (fun w s' z => ?_) fun _ _ x => x)
  obtain ⟨z', H', I', rz, b, rfl, q'⟩ := z
  cases (show w = Value.bool b from rz)
  exact wpAny_pure ⟨.bl b, H', I', rfl, q'⟩
theorem op_notInO (hs : PySem.W.findIn X.K (.ref C) "__contains__" = some (some (.ref g))) (hf : PySem.W.isFn X.K (.ref g) = true) (F : FnR X.prog X.w X.K X.mg X.base CX n g sp) (hr : Room n X.A) (hx : Passes CX X E) : OpR X (compareOp .NotIn) (rInO C sp E true) := by
  intro pins s σ H x y v u Q I rx ry h
  obtain ⟨a, dx, fs, rfl, ha, q⟩ := h
  cases (show u = Value.ref a from ry)
  obtain ⟨mA, O, _, _, _, _⟩ := ins_get I.hok ha
  obtain ⟨od, J, _⟩ := O.look
  obtain ⟨m, hF⟩ := I.fr
  refine PySem.W.notIn_K hF I.ok.mod.kin J hs hf (wpAny_mono (wpAny_call (run_fnR (us := [.ref a, v]) (vs := [.ref a, x]) F hr hx I (.cons rfl (.cons rx .nil)) q)) (fun w s' z => ?_) fun _ _ x => x)
  obtain ⟨z', H', I', rz, b, rfl, q'⟩ := z
  cases (show w = Value.bool b from rz)
  exact wpAny_pure ⟨.bl (!b), H', I', rfl, q'⟩
/-- x[k] -/
def rIxO (C : Addr) (sp : Sp) (E : XK) : R2 := fun x y H Q => ∃ a dx fs, x = .ref a ∧ H a = some (.ins C dx fs) ∧ sp [.ref a, y] H Q E
theorem op_ixO (hq : PySem.W.noSeq X.K C = true) (hs : PySem.W.findIn X.K (.ref C) "__getitem__" = some (some (.ref g))) (hf : PySem.W.isFn X.K (.ref g) = true) (F : FnR X.prog X.w X.K X.mg X.base CX n g sp) (hr : Room n X.A) (hx : Passes CX X E) : OpR X getItem (rIxO C sp E) := by
  intro pins s σ H x y v u Q I rx ry h
  obtain ⟨a, dx, fs, rfl, ha, q⟩ := h
  cases (show v = Value.ref a from rx)
  obtain ⟨mA, O, _, _, _, _⟩ := ins_get I.hok ha
  obtain ⟨od, J, _⟩ := O.look
  obtain ⟨m, hF⟩ := I.fr
  exact PySem.W.getItem_K hF I.ok.mod.kin J hq hs hf (wpAny_call (run_fnR (us := [.ref a, u]) (vs := [.ref a, y]) F hr hx I (.cons rfl (.cons ry .nil)) q))
end
end R1

/-! dicts whose keys are nested tuples: what stands in the heap -/
namespace RN
open PySem PySem.Spec PyProof.Rows L2
/-! ### data as keys -/
mutual
def nk : PyData → NestedKey
  | .none => .none
  | .bool b => .num (if b = true then 1 else 0)
  | .int i => .num i
  | .str x => .text x
  | .tuple ds => .tup (nks ds)
  | .list _ => .none
  | .dict _ => .none
def nks : List PyData → List NestedKey
  | [] => []
  | d :: ds => nk d :: nks ds
end
mutual
def kb : PyData → Bool
  | .tuple ds => kbs ds
  | .list _ => false
  | .dict _ => false
  | _ => true
def kbs : List PyData → Bool
  | [] => true
  | d :: ds => kb d && kbs ds
end
section
variable {X : Cx} {pins : List (Addr × Obj)} {σ : L2.St} {H : Hp} {s : Shared}
mutual
theorem nested_of (I : Inv X pins σ H s) : ∀ (d : PyData) (v : V) (u : Value), Dp X.K H v d → RelV v u → kb d = true → NestedIs s.heap (nk d) u
  | .none, _, _, h, r, _ => by cases h; cases r; exact .none
  | .bool b, _, _, h, r, _ => by cases h; cases r; exact .bool rfl
  | .int i, _, _, h, r, _ => by cases h; obtain ⟨t, rfl⟩ := r; exact .int i t
  | .str x, _, _, h, r, _ => by cases h; obtain ⟨t, rfl⟩ := r; exact .text x t
  | .tuple ds, _, _, h, r, k => by
    cases h with
    | tup hs ha =>
      cases r
      obtain ⟨its, rv, ⟨o, ho, hc, n, hd⟩, _⟩ := I.tuple hs
      exact .tup ho hc hd (by simpa using nesteds_of I ds _ its ha rv k)
  | .list _, _, _, _, _, k => by cases k
  | .dict _, _, _, _, _, k => by cases k
theorem nesteds_of (I : Inv X pins σ H s) : ∀ (ds : List PyData) (vs : List V) (us : List Value), DpAll X.K H vs ds → Vals vs us → kbs ds = true → NestedAll s.heap (nks ds) us
  | [], _, _, h, r, _ => by cases h; cases r; exact .nil
  | d :: ds, _, _, h, r, k => by
    cases h with
    | cons h1 h2 =>
      cases r with
      | cons r1 r2 =>
        have k' : (kb d && kbs ds) = true := k
        rw [Bool.and_eq_true] at k'
        exact .cons (nested_of I d _ _ h1 r1 k'.1) (nesteds_of I ds _ _ h2 r2 k'.2)
end
end
/-- the key k is at b -/
def KeyAt (K : PySem.W.Frag) (H : Hp) (k : NestedKey) (b : Addr) : Prop := ∃ d, Dp K H (.ref b) d ∧ kb d = true ∧ nk d = k ∧ k.depth ≤ 8
theorem key_is {X : Cx} {pins : List (Addr × Obj)} {σ : L2.St} {H : Hp} {s : Shared} {k : NestedKey} {b : Addr} (I : Inv X pins σ H s) (h : KeyAt X.K H k b) : (nestedKind X.prog X.w).is s.heap k b := by
  obtain ⟨d, h1, h2, rfl, h4⟩ := h
  exact ⟨nested_of I d _ _ h1 rfl h2, h4⟩
/-! ### entries: key, where it stands, value -/
abbrev Ent := NestedKey × Addr × V
def getN (es : List Ent) (k : NestedKey) : Option V := (es.find? fun p => decide (p.1 = k)).map fun p => p.2.2
def putN (es : List Ent) (k : NestedKey) (b : Addr) (v : V) : List Ent :=
  if (getN es k).isSome = true then es.map fun p => if p.1 = k then (p.1, p.2.1, v) else p else es ++ [(k, b, v)]
theorem putN_len (es : List Ent) (k : NestedKey) (b : Addr) (v : V) : (putN es k b v).length ≤ es.length + 1 := by
  unfold putN
  split
  · rw [List.length_map]; omega
  · rw [List.length_append]; exact Nat.le_refl _
abbrev RE : List Ent → List (NestedKey × Addr × Value) → Prop := Paired fun p q => p.1 = q.1 ∧ p.2.1 = q.2.1 ∧ RelV p.2.2 q.2.2
theorem re_get {es : List Ent} {xs : List (NestedKey × Addr × Value)} (r : RE es xs) (k : NestedKey) : RelO (getN es k) ((atKey xs k).map (·.2)) := by
  induction r with
  | nil => exact True.intro
  | @cons p q ps qs h t ih =>
    by_cases e : p.1 = k
    · have e2 : q.1 = k := h.1.symm.trans e
      have a1 : getN (p :: ps) k = some p.2.2 := by simp [getN, List.find?_cons, e]
      have a2 : atKey (q :: qs) k = some q.2 := by simp [atKey, List.find?_cons, e2]
      rw [a1, a2]
      exact h.2.2
    · have e2 : ¬ q.1 = k := fun z => e (h.1.trans z)
      have a1 : getN (p :: ps) k = getN ps k := by simp [getN, List.find?_cons, e]
      have a2 : atKey (q :: qs) k = atKey qs k := by simp [atKey, List.find?_cons, e2]
      rw [a1, a2]
      exact ih
theorem re_some {es : List Ent} {xs : List (NestedKey × Addr × Value)} (r : RE es xs) (k : NestedKey) : (getN es k).isSome = (atKey xs k).isSome := by
  rw [(re_get r k).isSome_eq, Option.isSome_map]
theorem re_map {es : List Ent} {xs : List (NestedKey × Addr × Value)} (r : RE es xs) (k : NestedKey) {v : V} {u : Value} (rv : RelV v u) :
    RE (es.map fun p => if p.1 = k then (p.1, p.2.1, v) else p) (xs.map (putAt k u)) := by
  induction r with
  | nil => exact .nil
  | @cons p q ps qs h t ih =>
    refine .cons ?_ ih
    unfold putAt
    dsimp only
    by_cases e : p.1 = k
    · rw [if_pos e, if_pos (h.1.symm.trans e)]
      exact ⟨h.1, h.2.1, rv⟩
    · rw [if_neg e, if_neg fun z => e (h.1.trans z)]
      exact h
theorem re_put {es : List Ent} {xs : List (NestedKey × Addr × Value)} (r : RE es xs) (k : NestedKey) (b : Addr) {v : V} {u : Value} (rv : RelV v u) : RE (putN es k b v) (storedH xs k b u) := by
  unfold putN storedH
  rw [re_some r k]
  by_cases q : (atKey xs k).isSome = true
  · rw [if_pos q, if_pos q]
    exact re_map r k rv
  · rw [if_neg q, if_neg q]
    exact Paired.snoc r ⟨rfl, rfl, rv⟩
theorem re_keys {es : List Ent} {xs : List (NestedKey × Addr × Value)} (r : RE es xs) {P : NestedKey → Addr → Prop} (h : ∀ p ∈ es, P p.1 p.2.1) : ∀ x ∈ xs, P x.1 x.2.1 := by
  induction r with
  | nil => intro x hx; cases hx
  | @cons p q ps qs e t ih =>
    intro x hx
    rcases List.mem_cons.mp hx with rfl | hx
    · have := h p List.mem_cons_self
      rw [e.1, e.2.1] at this
      exact this
    · exact ih (fun p hp => h p (List.mem_cons_of_mem _ hp)) x hx
theorem putN_keys {P : NestedKey → Addr → Prop} {es : List Ent} {k : NestedKey} {b : Addr} {v : V} (h : ∀ p ∈ es, P p.1 p.2.1) (hb : P k b) : ∀ p ∈ putN es k b v, P p.1 p.2.1 := by
  intro p hp
  unfold putN at hp
  split at hp
  · obtain ⟨q, hq, rfl⟩ := List.mem_map.mp hp
    split
    · exact h q hq
    · exact h q hq
  · rcases List.mem_append.mp hp with hp | hp
    · exact h p hp
    · rw [List.mem_singleton.mp hp]
      exact hb
/-! ### the object -/
def phiN (w : World) (d : Addr) (es : List Ent) (h : Heap) : Prop := es.length ≤ sizeLine ∧ (d == sysModules) = false ∧ ∃ xs : List (NestedKey × Addr × Value), RE es xs ∧ (xs.map (·.1)).Nodup ∧
  ∃ (o : Obj) (arr : Array DictEntry) (ep : Nat), h.get? d = some o ∧ o.ExactDict ∧ o.data = .dict arr ep ∧ arr.toList = xs.map fun x => (⟨x.1.hash w, .ref x.2.1, x.2.2⟩ : DictEntry)
def dN (w : World) (d : Addr) (es : List Ent) : HO := .ext (phiN w d es)
def KeysAt (K : PySem.W.Frag) (H : Hp) (es : List Ent) : Prop := ∀ p ∈ es, KeyAt K H p.1 p.2.1
theorem dN_ok {P : Program} {w : World} {H : Hp} {h : Heap} {d : Addr} {es : List Ent} (x : phiN w d es h) : ObjOk P w H h d (dN w d es) := by
  obtain ⟨_, _, _, _, _, o, _, _, ho, _⟩ := id x
  refine ⟨x, ⟨o, ho⟩, fun h1 h2 y k => ?_⟩
  obtain ⟨a1, a2, xs, a3, a4, o, arr, ep, b1, b2, b3, b4⟩ := y
  exact ⟨a1, a2, xs, a3, a4, o, arr, ep, k o b1, b2, b3, b4⟩
theorem dN_empty {P : Program} {w : World} {H : Hp} (h : Heap) (hb : sysModules < h.objs.size) : ObjOk P w H (h.push { cls := .type "dict", data := .dict #[] }) h.objs.size (dN w h.objs.size []) :=
  dN_ok ⟨Nat.zero_le _, beq_eq_false_iff_ne.mpr (Ne.symm (Nat.ne_of_lt hb)), [], .nil, List.nodup_nil, _, #[], 0, Heap.get?_push_size _ rfl, ⟨rfl, rfl, rfl⟩, rfl, rfl⟩
section
variable {X : Cx} {pins : List (Addr × Obj)} {σ : L2.St} {H : Hp} {s : Shared} {d b : Addr} {es : List Ent} {k : NestedKey} {A : Around} {E : Value → Shared → Prop}
theorem dN_of (I : Inv X pins σ H s) (hd : H d = some (dN X.w d es)) (hk : KeysAt X.K H es) :
    es.length ≤ sizeLine ∧ (d == sysModules) = false ∧ ∃ xs, RE es xs ∧ s.heap.DictOfH (nestedKind X.prog X.w) d xs := by
  obtain ⟨⟨a1, a2, xs, a3, a4, o, arr, ep, b1, b2, b3, b4⟩, _, _⟩ := (show ObjOk X.prog X.w H s.heap d (dN X.w d es) from I.hok d _ hd)
  exact ⟨a1, a2, xs, a3, o, arr, ep, b1, b2, b3, b4, re_keys a3 (P := fun k b => (nestedKind X.prog X.w).is s.heap k b) fun p hp => key_is I (hk p hp), a4⟩
end
/-! ### tuples stay -/
def Tk (H H' : Hp) : Prop := ∀ a xs, Rd H a (.tup xs) → Rd H' a (.tup xs)
theorem Tk.rfl' {H : Hp} : Tk H H := fun _ _ h => h
theorem Tk.trans {H H1 H2 : Hp} (h : Tk H H1) (g : Tk H1 H2) : Tk H H2 := fun a xs z => g a xs (h a xs z)
theorem tk_all {H H' : Hp} (h : ∀ a o, H a = some o → H' a = some o) : Tk H H' := fun a xs z => by
  rcases z with z | ⟨o, z⟩
  · exact .inl (h _ _ z)
  · exact .inr ⟨o, h _ _ z⟩
/-- not a tuple -/
def NoTup : HO → Prop
  | .tup _ => False
  | .frz _ (.tup _) => False
  | _ => True
theorem tk_but {H H' : Hp} {d : Addr} {o : HO} (hd : H d = some o) (ho : NoTup o) (h : ∀ a o, a ≠ d → H a = some o → H' a = some o) : Tk H H' := fun a xs z => by
  have ne : a ≠ d := by
    rintro rfl
    rcases z with z | ⟨o', z⟩
    · rw [hd] at z; cases z; exact ho
    · rw [hd] at z; cases z; exact ho
  rcases z with z | ⟨o', z⟩
  · exact .inl (h _ _ ne z)
  · exact .inr ⟨o', h _ _ ne z⟩
theorem tk_upd {H : Hp} {d : Addr} {o o' : HO} (hd : H d = some o) (ho : NoTup o) : Tk H (upd H d o') := tk_but hd ho fun a u ne z => by rw [upd_ne ne]; exact z
theorem tk_new {H : Hp} {d : Addr} {o' : HO} (hd : H d = none) : Tk H (upd H d o') := tk_all fun a o z => by rw [upd_ne (ne_of_none z hd)]; exact z
theorem sqT_tk {K : PySem.W.Frag} {H H' : Hp} {a : Addr} {xs : List V} (t : Tk H H') (h : SqT K H a xs) : SqT K H' a xs := by
  rcases h with h | h
  · exact .inl (t _ _ h)
  · exact .inr h
section
variable {K : PySem.W.Frag} {H H' : Hp}
mutual
theorem dp_tk (t : Tk H H') : ∀ (d : PyData) (v : V), Dp K H v d → kb d = true → Dp K H' v d
  | .none, _, h, _ => by cases h; exact .non
  | .bool _, _, h, _ => by cases h; exact .bl _
  | .int _, _, h, _ => by cases h; exact .int _
  | .str _, _, h, _ => by cases h; exact .str _
  | .tuple ds, _, h, k => by
    cases h with
    | tup hs ha => exact .tup (sqT_tk t hs) (dps_tk t ds _ ha k)
  | .list _, _, _, k => by cases k
  | .dict _, _, _, k => by cases k
theorem dps_tk (t : Tk H H') : ∀ (ds : List PyData) (vs : List V), DpAll K H vs ds → kbs ds = true → DpAll K H' vs ds
  | [], _, h, _ => by cases h; exact .nil
  | d :: ds, _, h, k => by
    cases h with
    | cons h1 h2 =>
      have k' : (kb d && kbs ds) = true := k
      rw [Bool.and_eq_true] at k'
      exact .cons (dp_tk t d _ h1 k'.1) (dps_tk t ds _ h2 k'.2)
end
theorem KeyAt.tk {k : NestedKey} {b : Addr} (t : Tk H H') (h : KeyAt K H k b) : KeyAt K H' k b := by
  obtain ⟨d, h1, h2, h3⟩ := h
  exact ⟨d, dp_tk t d _ h1 h2, h2, h3⟩
theorem KeysAt.tk {es : List Ent} (t : Tk H H') (h : KeysAt K H es) : KeysAt K H' es := fun p hp => (h p hp).tk t
end
/-! ### one entry more, and the reads -/
section
variable {X : Cx} {pins : List (Addr × Obj)} {σ : L2.St} {H : Hp} {s : Shared} {d b : Addr} {es : List Ent} {k : NestedKey} {A : Around} {E : Value → Shared → Prop} {z : V} {r : Value}
theorem room_n {A : Around} {w : World} {P : Program} (hu : A.units + 16 < cLine) : (nestedKind P w).room A := by show A.units + 8 < cLine; omega
theorem room_n1 {A : Around} {w : World} {P : Program} (hu : A.units + 16 < cLine) : (nestedKind P w).room A.in1 := by
  show A.in1.units + 8 < cLine
  simp only [Around.in1_units]
  omega
/-- what is written back -/
theorem back_n {h' : Heap} {tk : Nat} {xs : List (NestedKey × Addr × Value)} (I : Inv X pins σ H s) (hd : H d = some (dN X.w d es)) (hz : es.length < sizeLine) (hm : (d == sysModules) = false) (re : RE es xs) (rz : RelV z r)
    (dd : h'.DictOfH (nestedKind X.prog X.w) d (storedH xs k b r)) (sb : Heap.SameBut d s.heap h') : Inv X pins σ (upd H d (dN X.w d (putN es k b z))) { s with heap := h', toks := tk } := by
  obtain ⟨o, arr, ep, b1, b2, b3, b4, _, b5⟩ := dd
  have := putN_len es k b z
  exact d_write (t' := tk) I (by rw [hd]; exact True.intro) sb ⟨o, b1⟩ (dN_ok ⟨by omega, hm, _, re_put re k b rz, b5, o, arr, ep, b1, b2, b3, b4⟩)
theorem set_n {Q : Unit → Shared → Prop} (hu : X.A.units + 16 < cLine) (I : Inv X pins σ H s) (hd : H d = some (dN X.w d es)) (hk : KeysAt X.K H es) (hb : KeyAt X.K H k b) (hz : es.length < sizeLine) (rz : RelV z r)
    (h : ∀ s', Inv X pins σ (upd H d (dN X.w d (putN es k b z))) s' → Q () s') : wpAny (model X.prog X.w) X.A (dictSet d (.ref b) r) Q E s := by
  obtain ⟨z1, z2, xs, re, dd⟩ := dN_of I hd hk
  have hl : xs.length ≤ sizeLine := by rw [← Paired.length re]; exact z1
  exact wpAny_dictSet_heap (hsz := hl) (room_n hu) (key_is I hb) dd fun h' d' sb => h _ (back_n I hd hz z2 re rz d' sb)
theorem setItem_n {Q : Unit → Shared → Prop} (hu : X.A.units + 16 < cLine) (I : Inv X pins σ H s) (hd : H d = some (dN X.w d es)) (hk : KeysAt X.K H es) (hb : KeyAt X.K H k b) (hz : es.length < sizeLine) (rz : RelV z r)
    (h : ∀ s', Inv X pins σ (upd H d (dN X.w d (putN es k b z))) s' → Q () s') : wpAny (model X.prog X.w) X.A (setItem (.ref d) (.ref b) r) Q E s := by
  obtain ⟨z1, z2, xs, re, dd⟩ := dN_of I hd hk
  have hl : xs.length ≤ sizeLine := by rw [← Paired.length re]; exact z1
  exact wpAny_setItem_heap (hsz := hl) (room_n1 hu) (key_is I hb) dd fun h' d' sb => h _ (back_n I hd hz z2 re rz d' sb)
/-- x in d, x not in d -/
def rInN (K : PySem.W.Frag) (w : World) (neg : Bool) : R2 := fun x y H Q => ∃ (b d : Addr) (es : List Ent) (k : NestedKey), x = .ref b ∧ y = .ref d ∧ H d = some (dN w d es) ∧ KeysAt K H es ∧ KeyAt K H k b ∧ Q (.bl (if neg then !(getN es k).isSome else (getN es k).isSome)) H
theorem op_inN {K : PySem.W.Frag} {w : World} (hu : X.A.units + 16 < cLine) (hK : X.K = K) (hW : X.w = w) : OpR X (compareOp .In) (rInN K w false) := by
  subst hK hW
  intro pins s σ H x y v u Q I rx ry h
  obtain ⟨b, d, es, k, rfl, rfl, hd, hk, hb, q⟩ := h
  cases rx
  cases ry
  obtain ⟨z1, z2, xs, re, dd⟩ := dN_of I hd hk
  refine wpAny_in_heap (room_n1 hu) (key_is I hb) z2 dd ?_
  rw [← re_some re]
  exact ⟨.bl (getN es k).isSome, H, I.tok _, rfl, q⟩
theorem op_notInN {K : PySem.W.Frag} {w : World} (hu : X.A.units + 16 < cLine) (hK : X.K = K) (hW : X.w = w) : OpR X (compareOp .NotIn) (rInN K w true) := by
  subst hK hW
  intro pins s σ H x y v u Q I rx ry h
  obtain ⟨b, d, es, k, rfl, rfl, hd, hk, hb, q⟩ := h
  cases rx
  cases ry
  obtain ⟨z1, z2, xs, re, dd⟩ := dN_of I hd hk
  refine wpAny_notIn_heap (room_n1 hu) (key_is I hb) z2 dd ?_
  rw [← re_some re]
  exact ⟨.bl (!(getN es k).isSome), H, I.tok _, rfl, q⟩
/-- d[x], there -/
def tIxN (K : PySem.W.Frag) (w : World) (td ty : TE) : TE := fun σ H Q => td σ H fun y H1 => ty σ H1 fun x H2 => ∃ (b d : Addr) (es : List Ent) (k : NestedKey) (v : V), x = .ref b ∧ y = .ref d ∧ H2 d = some (dN w d es) ∧ KeysAt K H2 es ∧ KeyAt K H2 k b ∧ getN es k = some v ∧ Q v H2
theorem pe_ixN {o i : Expr} {td ty : TE} {pos : Pos} {K : PySem.W.Frag} {w : World} (hu : X.A.units + 16 < cLine) (hK : X.K = K) (hW : X.w = w) (ho : PE X o td) (hi : PE X i ty) (hs : NoSl i) : PE X (.Subscript o i pos) (tIxN K w td ty) := by
  subst hK hW
  refine ⟨fun pins s σ H Q I h => ?_⟩
  refine subD_of PySem.F.slot_dict_getitem.lookup hs (thn (ho.run pins s σ H _ I h) fun u s1 ⟨y, H1, I1, ry, q1⟩ => thn (hi.run pins s1 σ H1 _ I1 q1) fun iv s2 ⟨x, H2, I2, rx, b, d, es, k, v, ex, ey, hd, hk, hb, hv, q⟩ => ?_)
  subst ex ey
  cases rx
  cases ry
  obtain ⟨z1, z2, xs, re, dd⟩ := dN_of I2 hd hk
  have g := re_get re k
  rw [hv] at g
  obtain ⟨w', hw, rw'⟩ := RelO.some_of g
  obtain ⟨p, hp, hp2⟩ := Option.map_eq_some_iff.mp hw
  refine ⟨dd.typeIs, wpAny_getItem_heap (room_n1 hu) (key_is I2 hb) dd hp ?_⟩
  rw [hp2]
  exact ⟨v, H2, I2.tok _, rw', q⟩
/-- d[x] = v -/
def rSetN (K : PySem.W.Frag) (w : World) : TSet := fun o i v H Q => ∃ (b d : Addr) (es : List Ent) (k : NestedKey), i = .ref b ∧ o = .ref d ∧ H d = some (dN w d es) ∧ KeysAt K H es ∧ KeyAt K H k b ∧ es.length < sizeLine ∧ Q (upd H d (dN w d (putN es k b v)))
theorem set_dictN (hu : X.A.units + 16 < cLine) : PSet X (rSetN X.K X.w) := by
  intro pins s σ H o i v ov iv u Q I ro ri rv h
  obtain ⟨b, d, es, k, rfl, rfl, hd, hk, hb, hz, q⟩ := h
  cases ro
  cases ri
  exact setItem_n hu I hd hk hb hz rv fun s' I' => ⟨_, I', q⟩
end
end RN

/-! a dict comprehension whose keys are nested tuples -/
namespace RN
open PySem PySem.Spec PyProof.Rows L2
/-- the reading of {k: v for target in iter if ..} with such keys -/
def tDcN (K : PySem.W.Frag) (w : World) (src : TI) (g : TG) (tt : TT) (tk tv : TE) (own : List Nat) : TE := fun σ H Q => src σ H fun J G => ∀ D, G D = none → ∃ W : Nat → Nat → Hp → Prop, (∃ m, W 0 m (upd G D (dN w D []))) ∧ ∀ i m F, W i m F →
  (J.stop i F ∧ Q (.ref D) F) ∨ (J.go i F ∧ ∃ Nx : Hp → Prop, (∀ F', Nx F' → ∃ m', m' < m ∧ W (i + 1) m' F') ∧ ∀ x F', J.yld i F x F' → g x (wipe σ own) F' fun τ F2 => wipe τ own = wipe σ own ∧ tt τ F2 fun c F3 =>
    if c = true then tk τ F3 fun y F4 => tv τ F4 fun z F5 => ∃ es k b, y = .ref b ∧ KeyAt K F5 k b ∧ F5 D = some (dN w D es) ∧ KeysAt K F5 es ∧ es.length < sizeLine ∧ Nx (upd F5 D (dN w D (putN es k b z))) else Nx F3)
section
variable {X : Cx} {kx vx tg iter : Expr} {ifs : List Expr} {scope : Scope} {own : List (Str × Nat)} {pos : Pos} {src : TI} {g : TG} {tt : TT} {tk tv : TE}
theorem dcN_core {pins : List (Addr × Obj)} {s : Shared} {σ : L2.St} {H : Hp} {Q : VK} {pos' : Pos} {use : Option (Value → Sem Unit)} {Qf : Value → Shared → Prop} (I : Inv X pins σ H s)
    (hu : X.A.units + 64 < cLine) (hc : X.calm = true) (hN : X.N.Nodup) (hi : PI X tg iter src) (ok : BlkOk X.N X.env.scope scope own)
    (hg : ∀ (s : Shared) (G : Hp) (C : Addr) (cl : List (Str × Addr)) (fp : List Addr), PG (X.blk s G scope (compEnvC scope cl C X.env) fp) tg g)
    (ht : ∀ (s : Shared) (G : Hp) (C : Addr) (cl : List (Str × Addr)) (fp : List Addr), PTs (X.blk s G scope (compEnvC scope cl C X.env) fp) ifs tt)
    (hk : ∀ (s : Shared) (G : Hp) (C : Addr) (cl : List (Str × Addr)) (fp : List Addr), PE (X.blk s G scope (compEnvC scope cl C X.env) fp) kx tk)
    (hv : ∀ (s : Shared) (G : Hp) (C : Addr) (cl : List (Str × Addr)) (fp : List Addr), PE (X.blk s G scope (compEnvC scope cl C X.env) fp) vx tv)
    (hs : ∀ x, foldedSetIterable iter X.env x = pure x) (h : tDcN X.K X.w src g tt tk tv (own.map (·.2)) σ H Q)
    (hR : ∀ D C s' m F, Inv X pins σ F s' → Q (.ref D) F → s'.heap.Ns C m → FpOk X pins F C → compPost (model X.prog X.w) X.A X.xe use Qf (.ref D) C (.ok .next) s') :
    wpAny (model X.prog X.w) X.A (comprehension (.DictComp kx vx [⟨tg, iter, ifs, 0⟩] scope pos) scope X.env pos' newDict false (eval iter X.env) use) Qf X.xe s := by
  have fr : ∀ y ∈ scope.names, y.2 = .free → ∃ c, X.env.cells.lookup y.1 = some c := fun y hy e => (ok.free y hy e).elim (fun z => I.ok.has _ (.inl z)) fun z => I.ok.has _ (.inr z)
  refine wpAny_comprehension_free (use := use) rfl hs (closure_ok fr) ok.kind (fun y hy e => by rw [ok.uniq y hy, e]) (thn (hi.run pins s σ H _ I h) fun xv s1 hx => thn hx fun iv s2 a2 => ?_)
  obtain ⟨it, fp, tn, J, G, rfl, K2, T, t2, p2, q⟩ := a2
  refine wpAny_newObj_type (newEnv_comp ?_)
  obtain ⟨W, ⟨m0, w0⟩, turn⟩ := q s2.heap.objs.size (K2.hok.fresh (Nat.le_refl _))
  generalize eD : s2.heap.objs.size = D at w0 turn
  have nD : G D = none := K2.hok.fresh (Nat.le_of_eq eD)
  -- the new dict
  generalize e3 : ({ s2 with heap := s2.heap.push { cls := .type "dict", data := .dict #[] } } : Shared) = s3
  have K3 : Inv X pins σ (upd G D (dN X.w D [])) s3 := by
    subst e3
    refine K2.laid (t' := s2.toks) (fun b o z => Heap.get?_push_of_some _ z) (Nat.le_of_eq eD) ?_
    subst eD
    exact dN_empty s2.heap K2.big
  have z3 : s3.heap = s2.heap.push { cls := .type "dict", data := .dict #[] } := by subst e3; rfl
  have p3 : ∀ b ∈ fp, FpOk X pins (upd G D (dN X.w D [])) b ∧ b < s3.heap.objs.size := fun b hb => by
    obtain ⟨o, y, _⟩ := T.obj _ _ t2 b hb
    have lt : b < s2.heap.objs.size := Heap.lt_size y
    refine ⟨⟨?_, (p2 b hb).2⟩, by rw [z3, Heap.size_push]; exact Nat.lt_succ_of_lt lt⟩
    rw [upd_ne (by rw [← eD]; exact Nat.ne_of_lt lt)]
    exact (p2 b hb).1
  have t3 : tn 0 s3.heap := T.keep _ _ _ t2 fun b _ o y => by rw [z3]; exact Heap.get?_push_of_some _ y
  have K4 := block_start K3 ok hN p3
  have qg := hg s3 (upd G D (dN X.w D [])) s3.heap.objs.size (cellsFrom (s3.heap.objs.size + 1) scope.names (cloFrom X.env.cells scope.names [])) fp
  have qt := ht s3 (upd G D (dN X.w D [])) s3.heap.objs.size (cellsFrom (s3.heap.objs.size + 1) scope.names (cloFrom X.env.cells scope.names [])) fp
  have qk := hk s3 (upd G D (dN X.w D [])) s3.heap.objs.size (cellsFrom (s3.heap.objs.size + 1) scope.names (cloFrom X.env.cells scope.names [])) fp
  have qv := hv s3 (upd G D (dN X.w D [])) s3.heap.objs.size (cellsFrom (s3.heap.objs.size + 1) scope.names (cloFrom X.env.cells scope.names [])) fp
  have np : ∀ b ∈ fp, (upd G D (dN X.w D [])) b = none := fun b hb => (p3 b hb).1.1
  show codeAny _ _ (.compStart (.DictComp kx vx [⟨tg, iter, ifs, 0⟩] scope pos) 0 (.ref it) (.ref D) (compEnvC scope (cellsFrom (s3.heap.objs.size + 1) scope.names (cloFrom X.env.cells scope.names [])) s3.heap.objs.size X.env)) (compPost (model X.prog X.w) X.A X.xe use _ (.ref D) s3.heap.objs.size) { s3 with heap := pushCells (s3.heap.push { cls := .type "dict", data := .dict #[] }) scope.names }
  generalize ec : compEnvC scope (cellsFrom (s3.heap.objs.size + 1) scope.names (cloFrom X.env.cells scope.names [])) s3.heap.objs.size X.env = ce at K4 qg qt qk qv ⊢
  have eL : ce.locals = s3.heap.objs.size := by subst ec; rfl
  generalize eG : upd G D (dN X.w D []) = G3 at K3 K4 qg qt qk qv w0 np p3
  generalize e4 : ({ s3 with heap := pushCells (s3.heap.push { cls := .type "dict", data := .dict #[] }) scope.names } : Shared) = s4 at K4 ⊢
  have t4 : tn 0 s4.heap := T.keep _ _ _ t3 fun b _ o y => by subst e4; exact pushCells_keeps _ _ _ _ (Heap.get?_push_of_some _ y)
  have still : ∀ {τ : L2.St} {F : Hp} {s' : Shared}, Inv (X.blk s3 G3 scope ce fp) [] τ F s' → (∀ b ∈ fp, F b = none) → ∀ b ∈ fp, FpOk (X.blk s3 G3 scope ce fp) [] F b := fun {τ F s'} L n b hb =>
    ⟨n b hb, (L.ok.exf b hb).1, L.ok.exfs b hb, .inl hb, fun x c y => (L.ok.exf b hb).2 x c y, fun p hp => absurd (show p ∈ ([] : List (Addr × Obj)) ++ [] from hp) (by simp)⟩
  have go : codeAny (model X.prog X.w) X.A (.compLoop (.DictComp kx vx [⟨tg, iter, ifs, 0⟩] scope pos) 0 (.ref it) (.ref D) ce) (compPost (model X.prog X.w) X.A X.xe use Qf (.ref D) s3.heap.objs.size) s4 := by
    refine compLoop_anyD (fun n s' => ∃ i F, Inv (X.blk s3 G3 scope ce fp) [] (wipe σ (own.map (·.2))) F s' ∧ tn i s'.heap ∧ (∀ b ∈ fp, F b = none) ∧ W i n F) ?_ m0 ⟨0, G3, K4, t4, np, w0⟩
    rintro n s5 ⟨i, F, L, t5, n5, w5⟩
    rcases turn i n F w5 with ⟨stop, qq⟩ | ⟨hgo, Nx, hNx, step⟩
    · refine thnF (T.done (X.blk s3 G3 scope ce fp) rfl rfl rfl hc i [] s5 _ F (fun _ _ => False) L (still L n5) t5 stop) fun r s6 ⟨hr, L6⟩ => ?_
      subst hr
      have M : Inv X pins σ F s6 := K3.call' (ch := fp) L6.os L6.base L6.hok L6.bare fun b hb => ⟨(p3 b hb).1.2.2.2.1, (p3 b hb).1.2.1, (p3 b hb).1.2.2.2.2.1, (p3 b hb).1.2.2.2.2.2⟩
      have nC : F s3.heap.objs.size = none := eL ▸ L6.free
      obtain ⟨m, hn, _⟩ := L6.loc
      have hn' : s6.heap.Ns ce.locals m := hn
      rw [eL] at hn'
      exact hR D s3.heap.objs.size s6 m F M qq hn' (K3.fpOk (Nat.le_refl _) nC)
    · refine thnF (T.item (X.blk s3 G3 scope ce fp) rfl rfl rfl hc i [] s5 _ F (fun _ _ => False) L (still L n5) t5 hgo) fun r s6 ⟨u, hr, h6⟩ => ?_
      subst hr
      refine thnF h6 fun _ s7 ⟨x, F7, L7, r7, y7, t7, n7⟩ => ?_
      have L7' := L7.pinned (still L7 n7) (T.obj _ _ t7)
      refine thnF (qg.run _ s7 _ F7 x u _ L7' r7 (step x F7 y7)) fun _ s8 ⟨τ, F8, L8, hw, q8⟩ => ?_
      refine thnF (qt.run _ s8 τ F8 _ L8 q8) fun c s9 ⟨F9, L9, q9⟩ => ?_
      have fin : ∀ {s' : Shared} {F' : Hp}, Inv (X.blk s3 G3 scope ce fp) ([] ++ pinsAt fp s7.heap) τ F' s' → Nx F' → ∃ m, m < n ∧ ∃ i F', Inv (X.blk s3 G3 scope ce fp) [] (wipe σ (own.map (·.2))) F' s' ∧ tn i s'.heap ∧ (∀ b ∈ fp, F' b = none) ∧ W i m F' := fun {s' F'} L' nx => by
        obtain ⟨m', hm, w'⟩ := hNx F' nx
        have pin : ∀ b ∈ fp, ∀ o, s7.heap.get? b = some o → s'.heap.get? b = some o ∧ F' b = none := fun b hb o y =>
          have z := L'.pin (b, o) (List.mem_append_right _ (List.mem_append_right _ (mem_pinsAt hb y)))
          ⟨z.1, z.2.1⟩
        refine ⟨m', hm, i + 1, F', (L'.unpinned (pins := [])).weak (by rw [← hw, wipe_length]) (fun j v y => ?_), T.keep _ _ _ t7 fun b hb o y => (pin b hb o y).1, fun b hb => ?_, w'⟩
        · rw [← hw] at y
          exact (wipe_some y).1
        · obtain ⟨o, y, _⟩ := T.obj _ _ t7 b hb
          exact (pin b hb o y).2
      cases c with
      | false =>
        simp only [Bool.false_eq_true, if_false] at q9 ⊢
        exact fin L9 q9
      | true =>
        simp only [if_true] at q9 ⊢
        refine thnF (qk.run _ s9 τ F9 _ L9 q9) fun a1 s10 ⟨yk, F10, L10, r10, q10⟩ => ?_
        refine thnF (qv.run _ s10 τ F10 _ L10 q10) fun a2 s11 ⟨yv, F11, L11, r11, es, k, b, ek, hb, hD, hk, hz, nx⟩ => ?_
        subst ek
        cases (show a1 = Value.ref b from r10)
        exact set_n (X := X.blk s3 G3 scope ce fp) (by show X.A.units + 16 < cLine; omega) L11 hD hk hb hz r11 fun s12 L12 => fin L12 nx
  exact codeAny_compStart_dict go (T.self X.A 0 _ _ _ t4 go)
theorem pe_dcN (hu : X.A.units + 64 < cLine) (hc : X.calm = true) (hN : X.N.Nodup) (hi : PI X tg iter src) (ok : BlkOk X.N X.env.scope scope own)
    (hg : ∀ (s : Shared) (G : Hp) (C : Addr) (cl : List (Str × Addr)) (fp : List Addr), PG (X.blk s G scope (compEnvC scope cl C X.env) fp) tg g)
    (ht : ∀ (s : Shared) (G : Hp) (C : Addr) (cl : List (Str × Addr)) (fp : List Addr), PTs (X.blk s G scope (compEnvC scope cl C X.env) fp) ifs tt)
    (hk : ∀ (s : Shared) (G : Hp) (C : Addr) (cl : List (Str × Addr)) (fp : List Addr), PE (X.blk s G scope (compEnvC scope cl C X.env) fp) kx tk)
    (hv : ∀ (s : Shared) (G : Hp) (C : Addr) (cl : List (Str × Addr)) (fp : List Addr), PE (X.blk s G scope (compEnvC scope cl C X.env) fp) vx tv)
    (hs : ∀ x, foldedSetIterable iter X.env x = pure x := by intro _; rfl) : PE X (.DictComp kx vx [⟨tg, iter, ifs, 0⟩] scope pos) (tDcN X.K X.w src g tt tk tv (own.map (·.2))) := by
  refine ⟨fun pins s σ H Q I h => ?_⟩
  rw [arm_eval_DictComp]
  refine dcN_core I hu hc hN hi ok hg ht hk hv hs h fun D C s' m F J q hn f => ⟨m, hn, fun h'' sb => ?_⟩
  obtain ⟨y0, y1, y2, y3, y4, y5⟩ := f
  exact ⟨.ref D, F, J.turned (t' := s'.toks) (fun b o hb z => (sb.2 b hb).trans z) y0 y1 y3 y4 y5, rfl, q⟩
theorem ps_setDcN {i : Nat} {y : Str} {py spos : Pos} (hy : X.N[i]? = some y) (hl : X.env.scope.names.lookup y = some .local) (hsw : swapsWith (.DictComp kx vx [⟨tg, iter, ifs, 0⟩] scope pos) (some (.Name y py)) spos.line X.env = pure true)
    (hu : X.A.units + 64 < cLine) (hc : X.calm = true) (hN : X.N.Nodup) (hi : PI X tg iter src) (ok : BlkOk X.N X.env.scope scope own)
    (hg : ∀ (s : Shared) (G : Hp) (C : Addr) (cl : List (Str × Addr)) (fp : List Addr), PG (X.blk s G scope (compEnvC scope cl C X.env) fp) tg g)
    (ht : ∀ (s : Shared) (G : Hp) (C : Addr) (cl : List (Str × Addr)) (fp : List Addr), PTs (X.blk s G scope (compEnvC scope cl C X.env) fp) ifs tt)
    (hk : ∀ (s : Shared) (G : Hp) (C : Addr) (cl : List (Str × Addr)) (fp : List Addr), PE (X.blk s G scope (compEnvC scope cl C X.env) fp) kx tk)
    (hv : ∀ (s : Shared) (G : Hp) (C : Addr) (cl : List (Str × Addr)) (fp : List Addr), PE (X.blk s G scope (compEnvC scope cl C X.env) fp) vx tv)
    (hs : ∀ x, foldedSetIterable iter X.env x = pure x := by intro _; rfl) : PS X (.Assign [.Name y py] (.DictComp kx vx [⟨tg, iter, ifs, 0⟩] scope pos) spos) (tAsg (tDcN X.K X.w src g tt tk tv (own.map (·.2))) (gName i)) := by
  refine ⟨fun pins s σ H Ds I h => ?_⟩
  rw [exec_Assign_Name_used _ _ _ _ hsw]
  refine wpAny_bind (wpAny_standAt (wpAny_bind ?_))
  show wpAny _ X.A (do let _ ← comprehension (.DictComp kx vx [⟨tg, iter, ifs, 0⟩] scope pos) scope X.env (firstIterPos [⟨tg, iter, ifs, 0⟩] pos) newDict false (eval iter X.env) (some (assign (.Name y py) X.env))) _ _ s
  have h' : tDcN X.K X.w src g tt tk tv (own.map (·.2)) σ H (fun x G => gName i x σ G Ds.nx) := h
  exact wpAny_bind (thn (dcN_core (Qf := fun _ s' => SP X pins Ds .next s') I hu hc hN hi ok hg ht hk hv hs h' fun D C s' m F J q hn f => R1.dc_store hN hy hl J q hn f) fun _ s' hq => wpAny_pure (wpAny_pure hq))
end
section
variable {J : It} {n : Nat} {G : Hp → Prop} {Y : Nat → Hp → V → Hp → Prop} {g : TG} {tt : TT} {tk tv : TE} {vs : List Nat} {σ : L2.St} {H1 : Hp} {D : Addr} {Qd : Hp → Prop} {K : PySem.W.Frag} {w : World}
theorem dN_it (wk : Walk J n G Y) (Pv : Nat → Hp → Prop) (h0 : Pv 0 (upd H1 D (dN w D []))) (hG : ∀ i H, i ≤ n → Pv i H → G H)
    (hs : ∀ i x H H', i < n → Pv i H → Y i H x H' → g x (wipe σ vs) H' fun τ F2 => wipe τ vs = wipe σ vs ∧ tt τ F2 fun c F3 =>
      if c = true then tk τ F3 fun y F4 => tv τ F4 fun z F5 => ∃ es k b, y = .ref b ∧ KeyAt K F5 k b ∧ F5 D = some (dN w D es) ∧ KeysAt K F5 es ∧ es.length < sizeLine ∧ Pv (i + 1) (upd F5 D (dN w D (putN es k b z))) else Pv (i + 1) F3) (hd : ∀ H, Pv n H → Qd H) :
    ∃ W : Nat → Nat → Hp → Prop, (∃ m, W 0 m (upd H1 D (dN w D []))) ∧ ∀ i m F, W i m F → (J.stop i F ∧ Qd F) ∨ (J.go i F ∧ ∃ Nx : Hp → Prop, (∀ F', Nx F' → ∃ m', m' < m ∧ W (i + 1) m' F') ∧ ∀ x F', J.yld i F x F' → g x (wipe σ vs) F' fun τ F2 => wipe τ vs = wipe σ vs ∧ tt τ F2 fun c F3 =>
      if c = true then tk τ F3 fun y F4 => tv τ F4 fun z F5 => ∃ es k b, y = .ref b ∧ KeyAt K F5 k b ∧ F5 D = some (dN w D es) ∧ KeysAt K F5 es ∧ es.length < sizeLine ∧ Nx (upd F5 D (dN w D (putN es k b z))) else Nx F3) := by
  refine ⟨fun i m F => i + m = n ∧ Pv i F, ⟨n, by omega, h0⟩, fun i m F hW => ?_⟩
  obtain ⟨hm, p⟩ := hW
  have q := hG i F (by omega) p
  by_cases lt : i < n
  · exact .inr ⟨wk.goes i F lt q, Pv (i + 1), fun F' p' => ⟨m - 1, by omega, by omega, p'⟩, fun x F' y => hs i x F F' lt p (wk.yields i F x F' lt q y)⟩
  · obtain rfl : i = n := by omega
    exact .inl ⟨wk.stops F q, hd F p⟩
end
end RN

/-! d.items(), list of it, dict(pairs), of dicts with nested keys -/
namespace RN
open PySem PySem.Spec PyProof.Rows L2
section
variable {X : Cx}
theorem re_at : ∀ {es : List Ent} {xs : List (NestedKey × Addr × Value)}, RE es xs → ∀ (j : Nat) (p : Ent), es[j]? = some p → ∃ q, xs[j]? = some q ∧ p.1 = q.1 ∧ p.2.1 = q.2.1 ∧ RelV p.2.2 q.2.2
  | _, _, .nil, j, p, h => by simp at h
  | _, _, .cons e t, 0, p, h => by cases h; exact ⟨_, rfl, e⟩
  | _, _, .cons e t, j + 1, p, h => by simpa using re_at t j p (by simpa using h)
theorem re_vals : ∀ {es : List Ent} {xs : List (NestedKey × Addr × Value)}, RE es xs → Vals (es.map fun p => p.2.2) (xs.map fun q => q.2.2) ∧ Vals (es.map fun p => V.ref p.2.1) (xs.map fun q => Value.ref q.2.1)
  | _, _, .nil => ⟨.nil, .nil⟩
  | _, _, .cons e t => ⟨.cons e.2.2 (re_vals t).1, .cons (show Value.ref _ = Value.ref _ from congrArg Value.ref e.2.1.symm) (re_vals t).2⟩
theorem raw_n {pins : List (Addr × Obj)} {σ : L2.St} {H : Hp} {s : Shared} {d : Addr} {es : List Ent} (I : Inv X pins σ H s) (hd : H d = some (dN X.w d es)) :
    es.length ≤ sizeLine ∧ (d == sysModules) = false ∧ ∃ xs arr ep, RE es xs ∧ s.heap.DictRaw d arr ep ∧ arr.toList = xs.map fun x => (⟨x.1.hash X.w, .ref x.2.1, x.2.2⟩ : DictEntry) := by
  obtain ⟨⟨a1, a2, xs, a3, a4, o, arr, ep, b1, b2, b3, b4⟩, _, _⟩ := (show ObjOk X.prog X.w H s.heap d (dN X.w d es) from I.hok d _ hd)
  exact ⟨a1, a2, xs, arr, ep, a3, ⟨o, b1, b2, b3⟩, b4⟩
/-- d.items() -/
def rItemsN (w : World) : V → List V → Hp → VK → Prop := fun x vs H Q => ∃ (d : Addr) (es : List Ent), x = .ref d ∧ vs = [] ∧ H d = some (dN w d es) ∧ ∀ p, H p = none → Q (.ref p) (upd H p (L2.DX.itemsO p d))
theorem mt_itemsN {w : World} (hW : X.w = w) : MtR X "dict.items" (rItemsN w) := by
  subst hW
  intro pins s σ H x vs v us Q I rx rxs h
  obtain ⟨d, es, rfl, rfl, hd, q⟩ := h
  cases rx
  cases rxs
  obtain ⟨_, lo, xs, arr, ep, _, ⟨o, b1, b2, b3⟩, _⟩ := raw_n I hd
  refine DT.callItems (es := arr) (ep := ep) lo ⟨o, b1, b2, b3⟩ ?_
  have hf : H s.heap.objs.size = none := I.hok.fresh (Nat.le_refl _)
  exact ⟨.ref s.heap.objs.size, upd H s.heap.objs.size (L2.DX.itemsO s.heap.objs.size d), I.laid (t' := s.toks) (fun b u e => Heap.get?_push_of_some _ e) (Nat.le_refl _) (L2.DX.itemsO_ok (Heap.get?_push_size _ rfl)), rfl, q _ hf⟩
/-- list(d.items()) -/
def rListItN (w : World) : List V → Hp → VK → Prop := fun vs H Q => ∃ (p d : Addr) (es : List Ent), vs = [.ref p] ∧ H p = some (L2.DX.itemsO p d) ∧ H d = some (dN w d es) ∧ es.length ≤ 1000 ∧
  ∀ (H2 : Hp) (l : Addr) (as : List Addr), Same H H2 → H l = none → as.length = es.length → H2 l = some (.lst (as.map V.ref)) → (∀ (j : Nat) (c : Addr) (e : Ent), as[j]? = some c → es[j]? = some e → H2 c = some (.tup [.ref e.2.1, e.2.2])) → Q (.ref l) H2
theorem call_listItN {w : World} (hc : X.calm = true) (hW : X.w = w) : CallR X (.type "list") (rListItN w) := by
  subst hW
  intro pins s σ H vs us Q I r h
  obtain ⟨p, d, es, rfl, hp, hd, hl, q⟩ := h
  obtain ⟨u, rfl, rx⟩ := vals1 r
  cases rx
  obtain ⟨_, lo, xs, arr, ep, re, raw, ha⟩ := raw_n I hd
  have hv : s.heap.IsItemsView p d := (show ObjOk X.prog X.w H s.heap p (L2.DX.itemsO p d) from I.hok p _ hp).1
  have l1 : xs.length = es.length := (Paired.length re).symm
  have l2 : arr.size = es.length := by
    rw [← Array.length_toList, ha, List.length_map, l1]
  obtain ⟨rv, rk⟩ := re_vals re
  refine PySem.W.dil_call (I.ok.hd hc) hv raw (by rw [l2, sizeLine_eq]; omega) fun h' tk acc c as hk hS hal G hacc => ?_
  have G2 : R1.Prs h' (s.heap.objs.size + 1) (xs.map fun q => Value.ref q.2.1).toArray (xs.map fun q => q.2.2).toArray as := by
    refine ⟨G.rise, fun c hc => G.above c hc, fun j c hj => ?_⟩
    obtain ⟨hj2, e⟩ := G.pairs j c hj
    have hx : j < xs.length := by rw [l1, ← l2]; exact hj2
    have e1 : arr[j] = (⟨xs[j].1.hash X.w, .ref xs[j].2.1, xs[j].2.2⟩ : DictEntry) := by
      have z : arr.toList[j]? = some arr[j] := by rw [Array.getElem?_toList]; exact Array.getElem?_eq_getElem hj2
      rw [ha, List.getElem?_map, List.getElem?_eq_getElem hx] at z
      exact (Option.some.inj z).symm
    rw [e1] at e
    exact ⟨_, _, by simp [hx], by simp [hx], e⟩
  obtain ⟨H2, sm, n0, at0, att, J⟩ := R1.zip_laid (tk := tk) I rk rv (by omega) hk (Nat.le_refl _) (Nat.lt_succ_self _) hS G2 hacc
  refine ⟨.ref s.heap.objs.size, H2, J, rfl, q H2 _ as sm n0 (by omega) at0 fun j c e hj he => att j c _ _ hj (by rw [List.getElem?_map, he]; rfl) (by rw [List.getElem?_map, he]; rfl)⟩
/-- tuple(xs) of a list, the very object known -/
def FrzT (H : Hp) (a : Addr) (xs : List V) : Prop := ∃ o : Obj, o.dict = none ∧ H a = some (.frz o (.tup xs))
theorem call_tupleF : CallR X (.type "tuple") (fun vs H Q => ∃ p ys, vs = [V.ref p] ∧ H p = some (.lst ys) ∧ ∀ l H', H l = none → Same H H' → FrzT H' l ys → Q (.ref l) H') := by
  intro pins s σ H vs us Q I r h
  obtain ⟨p, ys, rfl, hp, q⟩ := h
  obtain ⟨u, rfl, rx⟩ := vals1 r
  cases rx
  obtain ⟨its, r', pl, hz⟩ := I.list (show SqL X.K H p ys from .of hp)
  have hlen := r'.length
  refine call_tuple_list pl.isList (fun h' kp => ?_) (by simp only [List.size_toArray] <;> omega)
  have I1 : Inv X pins σ H { s with heap := h' } := I.kept (t' := s.toks) kp
  have nl : H h'.objs.size = none := I1.hok.fresh (Nat.le_refl _)
  have I2 : Inv X pins σ (upd H h'.objs.size (.frz { cls := .type "tuple", data := .seq its.toArray } (.tup ys))) { s with heap := h'.push { cls := .type "tuple", data := .seq its.toArray } } :=
    I1.laid (t' := s.toks) (fun b o e => Heap.get?_push_of_some _ e) (Nat.le_refl _) ⟨Heap.get?_push_size _ rfl, hz, its, r', IsTup.new _ _⟩
  refine ⟨.ref h'.objs.size, _, I2, rfl, q _ _ nl (fun a o e => by rw [upd_ne (ne_of_none e nl)]; exact e) ⟨_, rfl, upd_same⟩⟩
/-- dict(t), t a tuple of pairs with different keys -/
def rDictPN (K : PySem.W.Frag) (w : World) : List V → Hp → VK → Prop := fun vs H Q => ∃ (t : Addr) (cs : List Addr) (es : List Ent), vs = [.ref t] ∧ FrzT H t (cs.map V.ref) ∧ cs.length = es.length ∧ es.length ≤ 1000 ∧
  (∀ (j : Nat) (c : Addr) (e : Ent), cs[j]? = some c → es[j]? = some e → SqT K H c [.ref e.2.1, e.2.2]) ∧ KeysAt K H es ∧ (es.map (·.1)).Nodup ∧ ∀ d, H d = none → Q (.ref d) (upd H d (dN w d es))
theorem re_nodup : ∀ {es : List Ent} {xs : List (NestedKey × Addr × Value)}, RE es xs → es.map (·.1) = xs.map (·.1)
  | _, _, .nil => rfl
  | _, _, .cons e t => by rw [List.map_cons, List.map_cons, re_nodup t, e.1]
theorem pairs_n {pins : List (Addr × Obj)} {σ : L2.St} {H : Hp} {s : Shared} (I : Inv X pins σ H s) : ∀ (es : List Ent) (cs : List Addr), cs.length = es.length → (∀ (j : Nat) (c : Addr) (e : Ent), cs[j]? = some c → es[j]? = some e → SqT X.K H c [.ref e.2.1, e.2.2]) →
    ∃ xs, RE es xs ∧ ∀ (j : Nat) (c : Addr) (x : NestedKey × Addr × Value), cs[j]? = some c → xs[j]? = some x → s.heap.IsTuple c #[.ref x.2.1, x.2.2]
  | [], [], _, _ => ⟨[], .nil, fun j c x h => by simp at h⟩
  | e :: es, c :: cs, hl, f => by
    obtain ⟨xs, re, g⟩ := pairs_n I es cs (Nat.succ.inj hl) fun j b p h1 h2 => f (j + 1) b p (by simpa using h1) (by simpa using h2)
    obtain ⟨its, rv, ht, _⟩ := I.tuple (f 0 c e rfl rfl)
    obtain ⟨u1, u2, rfl, e1, e2⟩ := vals2 rv
    cases e1
    refine ⟨(e.1, e.2.1, u2) :: xs, .cons ⟨rfl, rfl, e2⟩ re, fun j b x h1 h2 => ?_⟩
    cases j with
    | zero => cases h1; cases h2; exact ht
    | succ j => exact g j b x (by simpa using h1) (by simpa using h2)
theorem refs_of : ∀ {cs : List Addr} {us : List Value}, Vals (cs.map V.ref) us → us = cs.map Value.ref
  | [], _, r => by cases r; rfl
  | c :: cs, _, r => by
    rw [List.map_cons] at r
    cases r with
    | cons h t => cases h; rw [List.map_cons, ← refs_of t]
theorem call_dictPN {K : PySem.W.Frag} {w : World} (hc : X.calm = true) (hu : X.A.units + 16 < cLine) (hK : X.K = K) (hW : X.w = w) : CallR X (.type "dict") (rDictPN K w) := by
  subst hK hW
  intro pins s σ H vs us Q I r h
  obtain ⟨t, cs, es, rfl, ⟨o, hod, ht⟩, hl, hl2, hp, hk, hn, q⟩ := h
  obtain ⟨u, rfl, rx⟩ := vals1 r
  cases rx
  obtain ⟨ho, hz, its, rv, o2, ho2, hcl, n, hdat⟩ := (show ObjOk X.prog X.w H s.heap t (.frz o (.tup (cs.map V.ref))) from I.hok t _ ht)
  rw [ho] at ho2
  obtain rfl : o = o2 := Option.some.inj ho2
  have ei := refs_of rv
  subst ei
  obtain ⟨xs, re, g⟩ := pairs_n I es cs hl hp
  have lx : xs.length = es.length := (Paired.length re).symm
  have nd : (xs.map (·.1)).Nodup := by rw [← re_nodup re]; exact hn
  have hi : ∀ x ∈ xs, (nestedKind X.prog X.w).is s.heap x.1 x.2.1 := re_keys re (P := fun k b => (nestedKind X.prog X.w).is s.heap k b) fun p hp => key_is I (hk p hp)
  have lps : (xs.map fun x => (Value.ref x.2.1, x.2.2)).length = xs.length := by rw [List.length_map]
  have c1 : X.A.units + 16 < cLine := hu
  refine call_dict_pairsH (knd := nestedKind X.prog X.w) (ps := xs) (PairArg.tuple t (cs.map Value.ref).toArray (fun j => cs.getD j 0) (xs.map fun x => (Value.ref x.2.1, x.2.2))) (I.ok.hd hc) (by show X.A.in1.in1.units + 8 < cLine; simp only [Around.in1_units]; omega)
    ⟨⟨o, n, ho, hcl, hod, hdat⟩, ⟨by simp; omega, fun j k v hj => ?_⟩⟩ ⟨lps.symm, fun i key v hi => ?_⟩ (fun h' kp x hx => ?_) (by rw [lps, lx, sizeLine_eq]; omega) fun h' tk dd kp => ?_
  · rw [List.getElem?_map] at hj
    cases e : xs[j]? with
    | none => rw [e] at hj; cases hj
    | some x =>
      rw [e] at hj
      cases hj
      have hj2 : j < cs.length := by
        have := (List.getElem?_eq_some_iff.mp e).1
        omega
      have gc : cs[j]? = some cs[j] := List.getElem?_eq_getElem hj2
      have gd : cs.getD j 0 = cs[j] := by rw [List.getD_eq_getElem?_getD, gc]; rfl
      refine ⟨by simp [hj2], .inl ?_⟩
      show s.heap.IsTuple (cs.getD j 0) _
      rw [gd]
      exact g j _ x gc e
  · have hi' : (xs.map fun x => (Value.ref x.2.1, x.2.2))[i]? = some (key, v) := hi
    rw [List.getElem?_map] at hi'
    cases e : xs[i]? with
    | none => rw [e] at hi'; cases hi'
    | some x =>
      rw [e] at hi'
      cases hi'
      exact ⟨x.1, x.2.1, rfl, rfl⟩
  · exact ⟨NestedIs.at (fun a ob vs m hb _ => kp a ob (Nat.ne_of_lt (Heap.lt_size hb)) (by simp) hb) _ _ (hi x hx).1, (hi x hx).2⟩
  · have k2 : ∀ b ob, s.heap.get? b = some ob → h'.get? b = some ob := fun b ob e => kp b ob (by simp) e
    rw [storedAllH_nil_of_nodup xs nd] at dd
    obtain ⟨od, arr, ep, b1, b2, b3, b4, _, b5⟩ := dd
    have hm : (s.heap.objs.size == sysModules) = false := beq_eq_false_iff_ne.mpr (Nat.ne_of_gt I.big)
    exact ⟨.ref s.heap.objs.size, _, I.laid (t' := tk) k2 (Nat.le_refl _) (dN_ok ⟨by rw [sizeLine_eq]; omega, hm, xs, re, nd, od, arr, ep, b1, b2, b3, b4⟩), rfl, q _ (I.hok.fresh (Nat.le_refl _))⟩
end
end RN

/-! iter(t) of a tuple; list(o), o of a class whose __iter__ gives such an iterator and whose __len__ gives a number -/
namespace RI
open PySem PySem.Spec PyProof.Rows L2
/-- an iterator over the tuple at t, at its first place -/
def ItTO (t it : Addr) : HO := .ext fun h => h.IsTupleIter it t 0
theorem itTO_ok {P : Program} {w : World} {H : Hp} {h : Heap} {t it : Addr} (e : h.IsTupleIter it t 0) (e2 : ∃ o, h.get? it = some o) : ObjOk P w H h it (ItTO t it) := ⟨e, e2, fun h1 h2 q k => q.at k⟩
/-- whatever stands there -/
def AnyO (it : Addr) : HO := .ext fun h => ∃ o, h.get? it = some o
theorem anyO_ok {P : Program} {w : World} {H : Hp} {h : Heap} {it : Addr} (e : ∃ o, h.get? it = some o) : ObjOk P w H h it (AnyO it) := ⟨e, e, fun h1 h2 q k => let ⟨o, z⟩ := q; ⟨o, k o z⟩⟩
section
variable {X : Cx}
theorem call_iterT : CallR X (.builtin "iter") (fun xs H Q => ∃ (t : Addr) (zs : List V), xs = [.ref t] ∧ SqT X.K H t zs ∧ ∀ it, H it = none → Q (.ref it) (upd H it (ItTO t it))) := by
  intro pins s σ H xs us Q I r h
  obtain ⟨t, zs, rfl, hq, q⟩ := h
  obtain ⟨u, rfl, rx⟩ := vals1 r
  cases rx
  obtain ⟨its, rv, pl, hz⟩ := I.tuple hq
  refine Calls.call_function_entry (by decide +kernel) (by decide +kernel) PySem.W.kdk_entry_iter (PySem.W.kdk_args_iter _) ?_
  unfold Builtin.«iter»
  refine wpAny_bind (m := someArgs "iter" 1 2 _) (wpAny_of_eq (a := [Value.ref t]) (by first | rfl | kernel_rfl!) ?_)
  show wpAny _ _ (pyIter (.ref t) >>= _) _ _ _
  refine wpAny_bind (wpAny_pyIter_tuple pl ?_)
  have hI : (s.heap.push { cls := .type "tuple_iterator", data := .fields #[.ref t, .int 0 0] }).IsTupleIter s.heap.objs.size t 0 := ⟨_, Heap.get?_push_size _ rfl, rfl, rfl⟩
  exact wpAny_pure ⟨_, rfl, .ref s.heap.objs.size, _, I.laid (t' := s.toks) (fun b u e => Heap.get?_push_of_some _ e) (Nat.le_refl _) (itTO_ok hI ⟨_, Heap.get?_push_size _ rfl⟩), rfl, q _ (I.hok.fresh (Nat.le_refl _))⟩
end
/-- what the class must have -/
structure ItL (K : PySem.W.Frag) (C fi fl : Addr) : Prop where
  it : PySem.W.findIn K (.ref C) "__iter__" = some (some (.ref fi))
  itF : PySem.W.isFn K (.ref fi) = true
  ln : PySem.W.findIn K (.ref C) "__len__" = some (some (.ref fl))
  lnF : PySem.W.isFn K (.ref fl) = true
/-- the heap behind the walk: the list is filled, the iterator is done -/
def behind (H : Hp) (q it : Addr) (xs : List V) : Hp := upd (upd H q (.lst xs)) it (AnyO it)
def rListO (K : PySem.W.Frag) (C : Addr) (spI spL : Sp) : List V → Hp → VK → Prop := fun vs H Q => ∃ (a dx : Addr) (fs : List (Str × V)), vs = [.ref a] ∧ H a = some (.ins C dx fs) ∧
  ∀ q, H q = none → spI [.ref a] (upd H q (.lst [])) (fun v H1 => ∃ (it t : Addr) (xs : List V), v = .ref it ∧ H1 it = some (ItTO t it) ∧ it ≠ t ∧ H1 q = some (.lst []) ∧ H1 a = some (.ins C dx fs) ∧
    spL [.ref a] H1 (fun v H2 => ∃ k : Nat, v = .int k ∧ k < 1000000 ∧ H2 it = some (ItTO t it) ∧ SqT K H2 t xs ∧ xs.length ≤ 1000 ∧ H2 q = some (.lst []) ∧ Q (.ref q) (behind H2 q it xs)) (fun _ _ _ => False)) (fun _ _ _ => False)
section
variable {X : Cx} {C fi fl : Addr} {spI spL : Sp} {n : Nat} {pins : List (Addr × Obj)} {σ : L2.St} {H : Hp} {s : Shared} {a q dx : Addr} {fs : List (Str × V)}
/-- the heap in which one object is given -/
theorem put_mid {h h' : Heap} {q it : Addr} {o : Obj} {o1 : Obj} (hq : h.get? q = some o1) (hne : q ≠ it) (hq' : h'.get? q = some o) (hk : ∀ b u, b ≠ q → b ≠ it → h.get? b = some u → h'.get? b = some u) :
    ∃ m : Heap, m.get? q = some o ∧ Heap.SameBut q h m ∧ ∀ b u, b ≠ it → m.get? b = some u → h'.get? b = some u := by
  have hf : o.isFreed = false := (Heap.get?_some_iff.mp hq').2
  refine ⟨h.update q (fun _ => o), Heap.get?_update_self (fun _ => o) hq hf, Heap.SameBut.update .., fun b u hb e => ?_⟩
  by_cases c : b = q
  · subst c
    have e2 : (h.update b (fun _ => o)).get? b = some o := Heap.get?_update_self (fun _ => o) hq hf
    rw [e2] at e
    cases e
    exact hq'
  · exact hk b u c hb ((Heap.get?_update_other _ _ (Ne.symm c)).symm.trans e)
theorem tup_done {it t : Addr} {i : Nat} {its : Array Value} {A : Around} {prog : Program} {w : World} {E : Value → Shared → Prop} {Qn : Option Value → Shared → Prop} (hA : A.handled = none)
    (hI : s.heap.IsTupleIter it t i) (hT : s.heap.IsTuple t its) (hn : its[i]? = none)
    (hq : ∀ h', (∀ b o, b ≠ it → s.heap.get? b = some o → h'.get? b = some o) → (∃ o, h'.get? it = some o) → Qn none { s with heap := h' }) : wpAny (model prog w) A (pyNext (.ref it)) Qn E s := by
  have hI2 := hI
  obtain ⟨⟨oc, od, odat, osl⟩, a1, a2, a3⟩ := hI2
  have a2' : oc = .type "tuple_iterator" := a2
  have a3' : odat = .fields #[.ref t, .int i 0] := a3
  subst a2' a3'
  obtain ⟨ot, b1, b2, nt, b3⟩ := hT
  have up := Heap.get?_update_self (Obj.mapFields (·.setIfInBounds 0 Value.none)) a1 (by first | rfl | simp [Obj.isFreed, Obj.mapFields])
  unfold pyNext; refine wpAny_bind (wpAny_attempt (wpAny_callSpecial?_slot (name := Str.ofString "__next__") hI.typeIs PySem.F.slot_tuple_iterator_next (wpAny_call_entry PySem.F.slot_tuple_iterator_next hI.typeIs PySem.F.entry_tuple_iterator_next ?_ (PySem.F.args_tuple_iterator_next_1 _))))
  show wpAny _ _ (field (.ref it) 0 >>= _) _ _ _; refine wpAny_bind (wpAny_field a1 a3 (x := .ref t) rfl ?_)
  show wpAny _ _ (if (Value.ref t == Value.none) = true then _ else _) _ _ _; refine PySem.W.KFB.if_not rfl ?_
  show wpAny _ _ (field (.ref it) 1 >>= _) _ _ _; refine wpAny_bind (wpAny_field a1 a3 (x := .int i 0) rfl ?_)
  show wpAny _ _ (seqItems? (.ref t) >>= _) _ _ _; refine wpAny_bind (wpAny_seqItems b1 b3 ?_); simp only [Int.toNat_natCast, hn]
  refine wpAny_bind (wpAny_rule (wpAny_bind (wpAny_setField a1 a3 (by simp) ?_)))
  show wpAny _ _ (newExc (.type "StopIteration") [] >>= _) _ _ _; refine wpAny_bind ?_; simp only [newExc, newTuple]
  refine wpAny_bind (wpAny_newObj_type ?_ (by size_fits)); refine wpAny_bind (m := firstArgMember _ _) (wpAny_of_eq (a := Value.none) (by first | rfl | (simp only [firstArgMember]; rfl)) ?_)
  refine wpAny_newObj_type ?_ (by size_fits); simp only [raiseNew]; refine wpAny_bind (wpAny_handled ?_); rw [show A.in1.handled = none from hA]
  refine wpAny_bind (wpAny_pure (wpAny_throw ?_)); refine wpAny_bind (wpAny_isInstance (T := "StopIteration") (b := true) ⟨_, Heap.get?_push_size _ rfl, rfl⟩ isSubtype_stop ?_)
  exact wpAny_pure (hq _ (fun b o hb e => Heap.get?_push_of_some _ (Heap.get?_push_of_some _ ((Heap.get?_update_other _ _ (Ne.symm hb)).trans e))) ⟨_, Heap.get?_push_of_some _ (Heap.get?_push_of_some _ up)⟩)
/-- the rest of the tuple is put behind the list at q -/
theorem tup_rest {it t q : Addr} {its : List Value} {A : Around} {prog : Program} {w : World} {Rs : Result → Shared → Prop} {h0 : Heap} (hA : A.handled = none) (hqi : q ≠ it) (hti : t ≠ it) (htq : t ≠ q) (hz : its.length ≤ 1000) (res : Value)
    (hq : ∀ h' c, (∀ b o, b ≠ q → b ≠ it → h0.get? b = some o → h'.get? b = some o) → (∃ o, h'.get? it = some o) → h'.get? q = some { cls := .type "list", dict := none, data := .seq its.toArray c, slots := #[] } → ∀ tk, Rs (.ok (.ret res)) { s with heap := h', toks := tk }) :
    ∀ (k i : Nat) (h : Heap) (tk c : Nat), its.length - i = k → i ≤ its.length → h.IsTupleIter it t i → h.IsTuple t its.toArray → (∀ b o, b ≠ q → b ≠ it → h0.get? b = some o → h.get? b = some o) →
      h.get? q = some { cls := .type "list", dict := none, data := .seq (its.take i).toArray c, slots := #[] } → codeAny (model prog w) A (.builtin "list.extend.loop" ⟨[.ref q, .ref it, res], []⟩) Rs { s with heap := h, toks := tk } := by
  intro k
  induction k with
  | zero =>
    intro i h tk c hk hi hI hT kp hS
    obtain rfl : i = its.length := by omega
    refine codeAny_builtin PySem.F.entry_extend_loop ?_; rw [Around.under_plainId PySem.F.plain_extend_loop _]; show wpAny _ A.in1 (pyNext (.ref it) >>= _) _ _ _
    refine wpAny_bind (tup_done (s := { s with heap := h, toks := tk }) (A := A.in1) hA hI hT (by simp) fun h' kp2 ex => ?_)
    rw [List.take_length] at hS
    exact wpAny_pure (hq h' c (fun b o h1 h2 e => kp2 b o h2 (kp b o h1 h2 e)) ex (kp2 q _ hqi hS) tk)
  | succ k ih =>
    intro i h tk c hk hi hI hT kp hS
    have lt : i < its.length := by omega
    have gx : its[i]? = some its[i] := List.getElem?_eq_getElem lt
    refine codeAny_builtin PySem.F.entry_extend_loop ?_; rw [Around.under_plainId PySem.F.plain_extend_loop _]; show wpAny _ A.in1 (pyNext (.ref it) >>= _) _ _ _
    refine wpAny_bind (wpAny_pyNext_tuple_item (s := { s with heap := h, toks := tk }) hI hT (x := its[i]) (by simpa using gx) fun h' hI' sb => ?_)
    have hS' : h'.get? q = _ := (sb.2 q hqi).trans hS
    show wpAny _ A.in1 (updateSeq q (·.push its[i]) >>= _) _ _ _
    have et : ((its.take i).toArray.push its[i]) = (its.take (i + 1)).toArray := by
      rw [List.take_add_one, gx]
      simp
    obtain ⟨c', z⟩ : ∃ c', (h'.update q (Obj.mapSeq (·.push its[i]))).get? q = some { cls := .type "list", dict := none, data := .seq (its.take (i + 1)).toArray c', slots := #[] } := ⟨_, by rw [← et]; exact Heap.get?_update_self (Obj.mapSeq (·.push its[i])) hS' rfl⟩
    refine wpAny_bind (wpAny_updateSeq hS' rfl (wpAny_pure ⟨plainId_quiet PySem.F.plain_extend_loop _, ih (i + 1) _ tk c' (by omega) lt ?_ ?_ (fun b o h1 h2 e => ?_) z⟩) (by rw [List.size_toArray, List.length_take, sizeLine_eq]; omega) (by show ((its.take i).toArray.push its[i]).size ≤ sizeLine + 1; rw [et, List.size_toArray, List.length_take, sizeLine_eq]; omega))
    · exact hI'.at fun o e => (Heap.get?_update_other _ _ hqi).trans e
    · obtain ⟨o, e, r⟩ := hT
      exact ⟨o, (Heap.get?_update_other _ _ (Ne.symm htq)).trans ((sb.2 t hti).trans e), r⟩
    · exact (Heap.get?_update_other _ _ (Ne.symm h1)).trans ((sb.2 b h2).trans (kp b o h1 h2 e))
theorem ext_listO {Qh : Hp → Prop} {Rs : Result → Shared → Prop} (hc : X.calm = true) (c : ItL X.K C fi fl) (FI : FnR X.prog X.w X.K X.mg X.base CX0 n fi spI) (FL : FnR X.prog X.w X.K X.mg X.base CX0 n fl spL) (hr : Room (n + 4) X.A)
    (I : Inv X pins σ H s) (ha : H a = some (.ins C dx fs)) (hq : H q = some (.lst []))
    (hsp : spI [.ref a] H (fun v H1 => ∃ (it t : Addr) (xs : List V), v = .ref it ∧ H1 it = some (ItTO t it) ∧ it ≠ t ∧ H1 q = some (.lst []) ∧ H1 a = some (.ins C dx fs) ∧
      spL [.ref a] H1 (fun v H2 => ∃ k : Nat, v = .int k ∧ k < 1000000 ∧ H2 it = some (ItTO t it) ∧ SqT X.K H2 t xs ∧ xs.length ≤ 1000 ∧ H2 q = some (.lst []) ∧ Qh (behind H2 q it xs)) (fun _ _ _ => False)) (fun _ _ _ => False))
    (hR : ∀ s' H', Inv X pins σ H' s' → Qh H' → Rs (.ok (.ret .none)) s') :
    wpAny (model X.prog X.w) X.A.in1.in1 (Builtin.List.listExtendWith (.ref q) (.ref a) .none)
      (fun fin s' => match fin with | .done f => Rs (.ok f) s' | .again c' => c'.quiet = true ∧ codeAny (model X.prog X.w) X.A.in1 c' Rs s') (fun e s' => Rs (.error e) s') s := by
  have hne : q ≠ a := ne_of hq ha (fun z => nomatch z)
  obtain ⟨mA, J, _⟩ := ins_get I.hok ha
  obtain ⟨od, J, _⟩ := J.look
  obtain ⟨m0, hF⟩ := I.fr
  unfold Builtin.List.listExtendWith
  refine wpAny_bind (J.type.here ?_)
  have h1 : Builtin.List.listSameRef (.ref q) (.ref a) = false := by simp [Builtin.List.listSameRef, hne]
  have h2 : (Value.ref C == Value.type "list") = false := rfl
  have h3 : (Value.ref C == Value.type "tuple") = false := rfl
  simp only [h1, h2, h3, Bool.or_false, Bool.false_eq_true, if_false]
  refine wpAny_bind (PySem.W.owit_iter hF I.ok.mod.kin J c.it c.itF ?_)
  have r4 : Room n X.A.in1.in1 := ((hr.mono (Nat.le_refl _)).in1.in1).mono (by omega)
  refine wpAny_call (codeAny_mono (FI X.A.in1.in1 X.stack s H [.ref a] [.ref a] _ _ r4 I.env0.in1.in1 (.cons rfl .nil) hsp) fun r s' hq' => ?_)
  cases r with
  | error e => exact False.elim hq'
  | ok f =>
    cases f with
    | next => exact False.elim hq'
    | brk => exact False.elim hq'
    | cont => exact False.elim hq'
    | ret u =>
      obtain ⟨v, H1, I1, rv, it, t, xs, ev, hit, hnt, hq1, ha1, hl⟩ := I.after hq'
      subst ev
      cases rv
      have hI : s'.heap.IsTupleIter it t 0 := (I1.hok it _ hit).1
      show PySem.W.OwitIt _ _ _ _ _ _
      unfold PySem.W.OwitIt
      refine wpAny_specialOf hI.typeIs PySem.F.slot_tuple_iterator_next.lookup ?_
      obtain ⟨mA1, J1, _⟩ := ins_get I1.hok ha1
      obtain ⟨od1, J1, _⟩ := J1.look
      obtain ⟨m1, hF1⟩ := I1.fr
      refine wpAny_bind (wpAny_holding ?_)
      unfold Builtin.List.listLengthHint
      refine wpAny_bind (wpAny_bind (J1.type.here ((PySem.W.looks_findIn I1.kIn c.ln).here ?_)))
      refine PySem.W.KFB.if_not rfl ?_
      refine PySem.W.KFB.if_so rfl ?_
      refine wpAny_bind (wpAny_rule ?_)
      have r5 : Room n X.A.in1.in1.in1 := ((hr.mono (Nat.le_refl _)).in1.in1.in1).mono (by omega)
      refine wpAny_bind (wpAny_attempt (PySem.W.len_K hF1 I1.ok.mod.kin J1 c.ln c.lnF ?_))
      refine wpAny_call (codeAny_mono (FL X.A.in1.in1.in1 X.stack s' H1 [.ref a] [.ref a] _ _ r5 I1.env0.in1.in1.in1 (.cons rfl .nil) hl) fun r s2 hq2 => ?_)
      cases r with
      | error e => exact False.elim hq2
      | ok f =>
        cases f with
        | next => exact False.elim hq2
        | brk => exact False.elim hq2
        | cont => exact False.elim hq2
        | ret u2 =>
          obtain ⟨v2, H2, I2, rv2, k, ev2, hk, hit2, ht2, hl2, hq2', hQ⟩ := I1.after hq2
          subst ev2
          obtain ⟨tk, rfl⟩ := rv2
          refine ⟨⟨by omega, by omega⟩, ?_⟩
          refine wpAny_bind (wpAny_pure ?_)
          refine PySem.W.KFB.if_not (decide_eq_false (by rw [sizeLine_eq]; omega)) (wpAny_pure ?_)
          have I3 := I2.tok (s2.toks + 1)
          have hqi : q ≠ it := ne_of hq2' hit2 (fun z => nomatch z)
          have key : ∀ (s4 : Shared), Inv X pins σ H2 s4 → codeAny (model X.prog X.w) X.A.in1 (.builtin "list.extend.loop" ⟨[.ref q, .ref it, .none], []⟩) Rs s4 := by
            intro s4 I4
            obtain ⟨z, its0, c0, r3, hl3, e3⟩ := I4.lstM hq2'
            cases r3
            have hI4 : s4.heap.IsTupleIter it t 0 := (I4.hok it _ hit2).1
            obtain ⟨its, rvt, plt, hzt⟩ := I4.tuple ht2
            have lz := rvt.length
            have htq : t ≠ q := by
              rintro rfl
              obtain ⟨o, e, f, _⟩ := plt
              rw [e3] at e
              cases e
              exact nomatch (show Value.type "list" = Value.type "tuple" from f)
            refine tup_rest (A := X.A.in1) (s := s4) (h0 := s4.heap) (its := its) (I4.ok.hd hc) hqi (Ne.symm hnt) htq (by omega) .none (fun h' c kp ex hS tk => ?_) its.length 0 s4.heap s4.toks c0 (by omega) (Nat.zero_le _) hI4 plt (fun b o _ _ e => e) (by simpa using e3)
            obtain ⟨m, e1, sb, kp2⟩ := put_mid e3 hqi hS kp
            have I5 : Inv X pins σ (upd H2 q (.lst xs)) { s4 with heap := m, toks := s4.toks } := I4.write (x := q) (e := q) (by rw [hq2']; exact True.intro) (.inl rfl) (fun b u hb e => (sb.2 b hb).trans e) ⟨_, e1⟩ ⟨hzt, its, c, rvt, e1⟩
            have g : upd H2 q (.lst xs) it = some (ItTO t it) := by rw [upd_ne (Ne.symm hqi)]; exact hit2
            have I6 : Inv X pins σ (behind H2 q it xs) { s4 with heap := h', toks := tk } := I5.write (x := it) (e := it) (by rw [g]; exact True.intro) (.inl rfl) kp2 ex (anyO_ok ex)
            exact hR _ _ I6 hQ
          refine wpAny_ite_split (fun _ => ?_) (fun _ => wpAny_pure ⟨plainId_quiet PySem.F.plain_extend_loop _, key _ I3⟩)
          obtain ⟨z, its0, c0, r3, hl3, e3⟩ := I3.lstM hq2'
          cases r3
          refine wpAny_bind (wpAny_rule (wpAny_bind ?_)); show wpAny _ _ (updateSeq q (·.push .none) >>= fun _ => updateSeq q (·.pop)) _ _ _
          have J2 := I3.lset (f := (·.push Value.none)) (its' := [Value.none]) (ys := [.non]) (t' := s2.toks + 1) hq2' e3 (by simp) (.cons rfl .nil) (by show 1 ≤ sizeLine; rw [sizeLine_eq]; decide)
          obtain ⟨z4, its4, k4, r4', hl4, e4⟩ := J2.lstM upd_same
          obtain ⟨u4, rfl, ru4⟩ := r4'.one
          refine wpAny_bind (wpAny_updateSeq e3 rfl (wpAny_updateSeq e4 rfl (wpAny_pure ⟨plainId_quiet PySem.F.plain_extend_loop _, key _ ?_⟩) (by show 1 ≤ sizeLine; rw [sizeLine_eq]; decide) (by show 0 ≤ sizeLine + 1; exact Nat.zero_le _)))
          have J3 := J2.lset (f := (·.pop)) (its := [u4]) (its' := []) (ys := []) (t' := s2.toks + 1) upd_same e4 (by rfl) .nil (Nat.zero_le _)
          have eH : upd (upd H2 q (.lst [.non])) q (.lst []) = H2 := by
            funext b
            by_cases hb : b = q
            · rw [hb, upd_same, hq2']
            · rw [upd_ne hb, upd_ne hb]
          rw [eH] at J3
          exact J3
/-- list(o) -/
theorem call_listO (hc : X.calm = true) (c : ItL X.K C fi fl) (FI : FnR X.prog X.w X.K X.mg X.base CX0 n fi spI) (FL : FnR X.prog X.w X.K X.mg X.base CX0 n fl spL) (hr : Room (n + 4) X.A) : CallR X (.type "list") (rListO X.K C spI spL) := by
  intro pins s σ H vs us Q I r h
  obtain ⟨a, dx, fs, rfl, ha, hq⟩ := h
  obtain ⟨u, rfl, ru⟩ := vals1 r
  cases ru
  have fr : H s.heap.objs.size = none := I.hok.fresh (Nat.le_refl _)
  have hp := hq _ fr
  have I1 : Inv X pins σ (upd H s.heap.objs.size (.lst [])) { s with heap := s.heap.push { cls := .type "list", data := .seq #[] } } := I.lnew (its := []) (t' := s.toks) .nil (Nat.zero_le _)
  have ha1 : upd H s.heap.objs.size (.lst []) a = some (.ins C dx fs) := by rw [upd_ne (ne_of_none ha fr)]; exact ha
  have hS : (s.heap.push { cls := .type "list", data := .seq #[] }).get? s.heap.objs.size = some { cls := .type "list", data := .seq #[] } := Heap.get?_push_size _ rfl
  refine callType_codes (Q₁ := fun obj s₁ => obj = .ref s.heap.objs.size ∧ s₁ = { s with heap := s.heap.push { cls := .type "list", data := .seq #[] } }) PySem.F.called_list (PySem.F.typeCall_list_1 _) PySem.F.entry_list_init (code_list_new _ ⟨rfl, rfl⟩) fun obj s₁ h₁ => ?_
  obtain ⟨rfl, rfl⟩ := h₁
  refine ⟨⟨_, hS, rfl⟩, PySem.F.args_list_init_2 _ _, ?_⟩
  show wpAny _ _ (do let old ← Builtin.List.listItems (.ref s.heap.objs.size); Builtin.List.listUpdate (.ref s.heap.objs.size) (fun _ => #[]); letGo old.toList.reverse; Builtin.List.listExtendWith (.ref s.heap.objs.size) (.ref a) .none) _ _ _
  refine wpAny_bind ?_; unfold Builtin.List.listItems; refine wpAny_bind (wpAny_seqItems hS rfl (wpAny_pure ?_))
  show wpAny _ _ (updateSeq s.heap.objs.size (fun _ => #[]) >>= fun _ => letGo (#[] : Array Value).toList.reverse >>= fun _ => Builtin.List.listExtendWith (.ref s.heap.objs.size) (.ref a) .none) _ _ _
  have J1 := I1.lset (f := fun _ => #[]) (its := []) (its' := []) (ys := []) (t' := s.toks) upd_same hS rfl .nil (Nat.zero_le _)
  rw [upd_upd] at J1
  refine wpAny_bind (wpAny_updateSeq hS rfl (wpAny_bind (wpAny_letGo ?_)))
  exact ext_listO (Qh := fun H' => Q (.ref s.heap.objs.size) H') (Rs := wants (fun r s₂ => r = .none ∧ EP X pins σ Q (.ref s.heap.objs.size) s₂) X.xe) hc c FI FL hr J1 ha1 upd_same hp fun s' H' I' hR => ⟨rfl, .ref s.heap.objs.size, H', I', rfl, hR⟩
end
end RI

/-! [d, l] != [d2, l2], a dict and a list within -/
namespace RN
open PySem PySem.Spec PyProof.Rows L2 SeqAt
theorem kv_same {kvs : List (Key × V)} : ∀ {xs ys : List (Key × Value)}, (∀ p ∈ kvs, ∃ a, p.2 = V.ref a) → KV kvs xs → KV kvs ys → xs = ys := by
  intro xs ys h r t
  induction r generalizing ys with
  | nil => cases t; rfl
  | @cons p q ps qs e r ih =>
    cases t with
    | @cons _ q2 _ qs2 e2 t =>
      obtain ⟨a, ha⟩ := h p List.mem_cons_self
      have z1 := e.2
      have z2 := e2.2
      rw [ha] at z1 z2
      have : q = q2 := Prod.ext (e.1.symm.trans e2.1) ((show q.2 = Value.ref a from z1).trans (show q2.2 = Value.ref a from z2).symm)
      rw [this, ih (fun p hp => h p (List.mem_cons_of_mem _ hp)) t]
theorem hits_self {A : Around} {s : Shared} {kb : List (Key × Value)} : ∀ (l : List (Key × Value)), (∀ p ∈ l, valueAt kb p.1 = some p.2) → PySem.W.KeqHits A s kb l true
  | [], _ => .nil
  | (k, v) :: r, h => by
    have := PySem.W.KeqHits.hit (A := A) (s := s) (h (k, v) List.mem_cons_self) (EqAt.same v) (hits_self r fun p hp => h p (List.mem_cons_of_mem _ hp))
    exact this
theorem pairs_to {P P' : Program} {w w' : World} : ∀ {es : List DictEntry} {xs : List (Key × Value)}, Pairs (mixKind P w) es xs → Pairs (mixKind P' w') es xs
  | _, _, .nil => .nil
  | _, _, .cons h e t => .cons h e (pairs_to t)
theorem pairs_mem {P : Program} {w : World} : ∀ {es : List DictEntry} {xs : List (Key × Value)}, Pairs (mixKind P w) es xs → ∀ e ∈ es, ∃ p ∈ xs, (mixKind P w).is p.1 e.key = true
  | _, _, .nil, _, h => nomatch h
  | _, _, .cons (kv := kv) h e t, x, hx => by
    rcases List.mem_cons.mp hx with rfl | hx
    · exact ⟨kv, List.mem_cons_self, h⟩
    · obtain ⟨p, hp, q⟩ := pairs_mem t x hx
      exact ⟨p, List.mem_cons_of_mem _ hp, q⟩
/-- a dict with int keys alone is one whatever the world -/
theorem dict_any {P P' : Program} {w w' : World} {h : Heap} {d : Addr} {xs : List (Key × Value)} (hi : ∀ p ∈ xs, ∃ n, p.1 = Sum.inl n) (x : h.DictOf (mixKind P w) d xs) : h.DictOf (mixKind P' w') d xs := by
  obtain ⟨o, es, ep, a1, a2, a3, a4, a5, a6⟩ := x
  refine ⟨o, es, ep, a1, a2, a3, fun e he => ?_, pairs_to a5, a6⟩
  obtain ⟨k, k1, k2⟩ := a4 e he
  obtain ⟨p, hp, p1⟩ := pairs_mem a5 e (by simpa using he)
  obtain ⟨n, hn⟩ := hi p hp
  have := (mixKind P w).inj _ _ _ k1 p1
  rw [hn] at this
  subst this
  exact ⟨.inl n, k1, k2⟩
section
variable {X : Cx}
def rNeDL (K : PySem.W.Frag) : R2 := fun x y H Q => ∃ (l m d e a b : Addr) (kvs : List (Key × V)) (u : PyData), x = .ref l ∧ y = .ref m ∧ SqL K H l [.ref d, .ref a] ∧ SqL K H m [.ref e, .ref b] ∧ H d = some (.dK kvs) ∧ H e = some (.dK kvs) ∧ (∀ p ∈ kvs, (∃ n, p.1 = Sum.inl n) ∧ ∃ c, p.2 = .ref c) ∧
  Dp K H (.ref a) u ∧ Dp K H (.ref b) u ∧ SeqAt.shaped u = true ∧ PyData.eqv u u = true ∧ Q (.bl false) H
theorem op_neDL (hu : X.A.units + 80 < cLine) : OpR X (compareOp .NotEq) (rNeDL X.K) := by
  intro pins s σ H x y v w Q I rx ry h
  obtain ⟨l, m, d, e, a, b, kvs, u, rfl, rfl, hl, hm, hd, he, hr, ha, hb, hs, huu, q⟩ := h
  cases rx
  cases ry
  obtain ⟨i1, r1, p1, _⟩ := I.list hl
  obtain ⟨i2, r2, p2, _⟩ := I.list hm
  obtain ⟨u1, u2, rfl, e1, e2⟩ := vals2 r1
  obtain ⟨u3, u4, rfl, e3, e4⟩ := vals2 r2
  cases e1; cases e2; cases e3; cases e4
  obtain ⟨zd, lod, xs, kx, dx⟩ := dk_of I.hok hd
  obtain ⟨ze, loe, ys, ky, dy⟩ := dk_of I.hok he
  obtain rfl := kv_same (fun p hp => (hr p hp).2) kx ky
  have nd : (xs.map (·.1)).Nodup := let ⟨_, _, _, _, _, _, _, _, z⟩ := dx; z
  have hi : ∀ p ∈ xs, ∃ n, p.1 = Sum.inl n := fun p hp => by
    obtain ⟨j, hj⟩ := List.mem_iff_getElem?.mp hp
    have e1 : (kvs.map (·.1))[j]? = some p.1 := by rw [KV.keys kx, List.getElem?_map, hj]; rfl
    rw [List.getElem?_map] at e1
    cases e2 : kvs[j]? with
    | none => rw [e2] at e1; cases e1
    | some z =>
      rw [e2] at e1
      obtain ⟨n, hn⟩ := (hr z (List.mem_of_getElem? e2)).1
      exact ⟨n, (Option.some.inj e1).symm.trans hn⟩
  have c1 : X.A.units + 80 < cLine := hu
  have eqD : EqAt X.A.in1 s (.ref d) (.ref e) true := by
    by_cases c : d = e
    · subst c
      exact EqAt.same _
    · refine EqAt.of_refs c fun P' w' E' Q' h' => ?_
      refine PySem.W.keq_eq (knd := mixKind P' w') (r := true) lod loe (dict_any hi dx) (dict_any hi dy) (by simp only [Around.in1_units]; omega) (fun _ => hits_self xs fun p hp => valueAt_of_mem nd hp) ?_
      simpa using h'
  obtain ⟨as, ra⟩ := Dp.reads I u _ (.ref a) ha rfl
  obtain ⟨bs, rb⟩ := Dp.reads I u _ (.ref b) hb rfl
  have eqL : EqAt X.A.in1 s (.ref a) (.ref b) true := by
    have := PySem.W.keq_at (A := X.A) ra rb hs hs (by simp only [Around.in1_units]; omega)
    rw [huu] at this
    exact this
  have key := RcNeAt.lists (A := X.A) (e := fun _ => true) p1.isList p2.isList rfl (by omega) (fun j h1 h2 => by
    match j, h1, h2 with
    | 0, _, _ => exact eqD
    | 1, _, _ => exact eqL
    | j + 2, h1, _ => exact absurd (show j + 2 < 2 from h1) (by omega))
  exact key X.prog X.w _ _ ⟨.bl false, H, I, rfl, q⟩
end
end RN

/-! o[k] by the class's own __getitem__, as an expression -/
namespace R1
open PySem PySem.Spec PyProof.Rows L2
section
variable {X : Cx} {CX : CXT} {n : Nat} {C g : Addr} {sp : Sp} {E : XK} {o i : Expr} {to ti : TE} {pos : Pos}
def tIxO (C : Addr) (sp : Sp) (E : XK) (to ti : TE) : TE := fun σ H Q => to σ H fun x H1 => ti σ H1 fun y H2 => rIxO C sp E x y H2 Q
theorem pe_ixO (ho : PE X o to) (hi : PE X i ti) (hs : PySem.W.findIn X.K (.ref C) "__getitem__" = some (some (.ref g))) (hf : PySem.W.fnIn X.K g = true) (hfn : PySem.W.isFn X.K (.ref g) = true) (F : FnR X.prog X.w X.K X.mg X.base CX n g sp) (hr : Room (n + 1) X.A) (hx : Passes CX X E)
    (hsl : ∀ (x : Addr) (v : Value), subscripted i true (.ref x) v = runValue (.builtin "lifetime.subscript" ⟨[.ref x, v], []⟩)) : PE X (.Subscript o i pos) (tIxO C sp E to ti) := by
  refine ⟨fun pins s σ H Q I h => Subscript_ (thn (ho.run pins s σ H _ I h) fun u s1 ⟨x, H1, I1, rx, q1⟩ => thn (hi.run pins s1 σ H1 _ I1 q1) fun iv s2 ⟨y, H2, I2, ry, a, dx, fs, ex, ha, q⟩ => ?_)⟩
  subst ex
  cases rx
  obtain ⟨mA, J, _⟩ := ins_get I2.hok ha
  obtain ⟨od, J, _⟩ := J.look
  obtain ⟨m, hF⟩ := I2.fr
  exact PySem.W.sub_K hF I2.ok.mod.kin J hs hf hfn (wpAny_call (run_fnR1 (us := [.ref a, iv]) (vs := [.ref a, y]) F hr hx I2 (.cons rfl (.cons ry .nil)) q)) (hsl a iv)
end
end R1

/-! d.items() of a dict with nested keys, as an expression -/
namespace RN
open PySem PySem.Spec PyProof.Rows L2
section
variable {X : Cx} {o : Expr} {to : TE} {apos cpos : Pos}
def tItN (w : World) (to : TE) : TE := fun σ H Q => to σ H fun x H1 => rItemsN w x [] H1 Q
theorem pe_itemsN {w : World} (hW : X.w = w) (ho : PE X o to) (hb : attributeBase o "items" X.env (eval o X.env) = eval o X.env := by rfl) (hl : (apos.endLine == cpos.line) = true := by rfl) : PE X (.Call (.Attribute o "items" apos) [] [] cpos) (tItN w to) := by
  refine ⟨fun pins s σ H Q I h => wpAny_Call_method0_late hb hl (thn (ho.run pins s σ H _ I h) fun v s1 ⟨x, H1, I1, r1, q1⟩ => ?_)⟩
  have q2 := q1
  obtain ⟨d, es, rfl, _, hd, _⟩ := q2
  cases r1
  subst hW
  obtain ⟨_, _, _, _, _, _, ⟨ob, b1, b2, _⟩, _⟩ := raw_n I1 hd
  have there : ∀ c, Value.ref d = .ref c → ∃ u, s1.heap.get? c = some u ∧ u.dict = none := fun c e => by
    cases e
    exact ⟨ob, b1, b2.2.1⟩
  exact ⟨"dict", "dict.items", PySem.F.plainAttrs_dict, PySem.F.slot_dict_items, PySem.F.type_dict_items, ⟨ob, b1, b2.1⟩, there, Calls.callWith_builtin rfl (PySem.evalArgs_none (mt_itemsN rfl pins s1 σ H1 (.ref d) [] (.ref d) [] Q I1 rfl .nil q1))⟩
end
end RN

/-! within a try: o[k] by the class's own __getitem__; a call with keywords -/
namespace R1
open PySem PySem.Spec PyProof.Rows L2
section
variable {X : Cx} {CX : CXT} {n : Nat} {C g : Addr} {sp : Sp} {E : L2.St → XK} {o i : Expr} {to ti : TE} {pos : Pos}
def tIxOS (C : Addr) (sp : Sp) (E : L2.St → XK) (to ti : TE) : TE := fun σ H Q => to σ H fun x H1 => ti σ H1 fun y H2 => rIxO C sp (E σ) x y H2 Q
theorem run_fnR1S {pins : List (Addr × Obj)} {σ : L2.St} {H : Hp} {s : Shared} {Q : VK} {us : List Value} {vs : List V} (F : FnR X.prog X.w X.K X.mg X.base CX n g sp) (hr : Room (n + 1) X.A) (hx : PassesAt CX X σ (E σ)) (I : Inv X pins σ H s) (r : Vals vs us) (h : sp vs H Q (E σ)) :
    codeAny (model X.prog X.w) X.A.in1 (.call (.ref g) ⟨us, []⟩) (fun r s' => match r with | .ok (.ret v) => EP X pins σ Q v s' | .ok _ => False | .error e => X.xe e s') s := by
  refine codeAny_mono (F X.A.in1 X.stack s H us vs Q (E σ) hr.in1 I.env0.in1 r h) fun r s' hq => ?_
  cases r with
  | error e => exact hx pins H s e s' I hq
  | ok fl =>
    cases fl with
    | ret u => exact I.after hq
    | next => exact False.elim hq
    | brk => exact False.elim hq
    | cont => exact False.elim hq
theorem pe_ixOS (ho : PE X o to) (hi : PE X i ti) (hs : PySem.W.findIn X.K (.ref C) "__getitem__" = some (some (.ref g))) (hf : PySem.W.fnIn X.K g = true) (hfn : PySem.W.isFn X.K (.ref g) = true) (F : FnR X.prog X.w X.K X.mg X.base CX n g sp) (hr : Room (n + 1) X.A) (hx : ∀ σ, PassesAt CX X σ (E σ))
    (hsl : ∀ (x : Addr) (v : Value), subscripted i true (.ref x) v = runValue (.builtin "lifetime.subscript" ⟨[.ref x, v], []⟩)) : PE X (.Subscript o i pos) (tIxOS C sp E to ti) := by
  refine ⟨fun pins s σ H Q I h => Subscript_ (thn (ho.run pins s σ H _ I h) fun u s1 ⟨x, H1, I1, rx, q1⟩ => thn (hi.run pins s1 σ H1 _ I1 q1) fun iv s2 ⟨y, H2, I2, ry, a, dx, fs, ex, ha, q⟩ => ?_)⟩
  subst ex
  cases rx
  obtain ⟨mA, J, _⟩ := ins_get I2.hok ha
  obtain ⟨od, J, _⟩ := J.look
  obtain ⟨m, hF⟩ := I2.fr
  exact PySem.W.sub_K hF I2.ok.mod.kin J hs hf hfn (wpAny_call (run_fnR1S (us := [.ref a, iv]) (vs := [.ref a, y]) F hr (hx σ) I2 (.cons rfl (.cons ry .nil)) q)) (hsl a iv)
end
def tCallNS (n m : Nat) (sp : Sp) (gV : List V → List V → List V) (E : L2.St → XK) (t tk : TA) : TE := fun σ H Q => t σ H fun vs H1 => tk σ H1 fun zs H2 => vs.length = n ∧ zs.length = m ∧ sp (gV vs zs) H2 Q (E σ)
section
variable {X : Cx} {CX : CXT} {k n : Nat} {f : Addr} {fd : FuncData} {ps ks : List Str} {sp : Sp} {E : L2.St → XK} {x : Str} {p pos : Pos} {e : Expr} {es : List Expr} {kws : List Keyword} {t tk : TA} {g : List Value → List Value → List Value} {gV : List V → List V → List V}
theorem pe_callNS (F : FnOk X.prog X.w X.K X.mg X.base CX k f fd ps sp) (hr : Room k X.A) (hg : Gl X x) (hm : X.mg x = some (.ref f)) (hk : PySem.W.keepIn X.K (.ref f) = true) (hb : KBn X.K fd ps n ks g gV) (hx : ∀ σ, PassesAt CX X σ (E σ))
    (ha : PA X (e :: es) t) (hkw : PK X kws tk) (hall : (backToKw pos (keywordEach kws X.env)).all (·.1.isSome) = true := by rfl) (hks : (backToKw pos (keywordEach kws X.env)).filterMap (·.1) = ks := by rfl)
    (hdb : (x == ("__debug__" : Str)) = false := by decide) (he : starEach (e :: es) X.env = (false, eval e X.env) :: starEach es X.env := by rfl)
    (hpl : ((backTo pos (starEach (e :: es) X.env)).any (·.1) || (backToKw pos (keywordEach kws X.env)).any (·.1.isNone)) = false := by rfl) :
    PE X (.Call (.Name x p) (e :: es) kws pos) (tCallNS n ks.length sp gV E t tk) := by
  refine ⟨fun pins s σ H Q I h => wpAny_Call_Name_kw (ld_glob I hg hm ?_ hdb)⟩
  refine PySem.W.callWith_KW (h₀ := X.base) I.ok.mod.kin hk hall (thn (ha.run pos pins s σ H _ I h) fun us s1 ⟨vs, H1, I1, r, q⟩ => ?_) hpl he
  refine thn (hkw.run pos pins s1 σ H1 _ I1 q) fun ws s2 ⟨zs, H2, I2, rz, l1, l2, q2⟩ => ⟨I2.kIn, ?_⟩
  rw [hks]
  have rr := hb.rel r rz
  refine wpAny_call (codeAny_mono (F.run X.A X.stack s2 H2 ⟨us, ks.zip ws⟩ (g us ws) (gV vs zs) Q (E σ) hr I2.env0 (hb.to s2 us ws I2.kIn (r.length.symm.trans l1) (rz.length.symm.trans l2)) rr q2) fun rs s' hq => ?_)
  cases rs with
  | error er => exact hx σ pins H2 s2 er s' I2 hq
  | ok fl =>
    cases fl with
    | ret u => exact I2.after hq
    | next => exact False.elim hq
    | brk => exact False.elim hq
    | cont => exact False.elim hq
end
end R1

/-! unit propagation, over literals as pairs of a number and a sign -/
namespace K15
abbrev Lt := Nat × Bool
abbrev Row := Nat × List Lt
abbrev Stp := Lt × Nat
def ng (l : Lt) : Lt := (l.1, !l.2)
def left (c held : List Lt) : List Lt := c.filter fun l => !decide (ng l ∈ held)
def fires (c held : List Lt) : Bool := decide ((left c held).length = 0) || (decide ((left c held).length = 1) && (left c held).all fun l => !decide (l ∈ held))
def chosen (rows : List Row) (held : List Lt) : Option Row := rows.find? fun r => fires r.2 held
def hs (st : List Stp) : List Lt := st.map (·.1)
def run : Nat → List Row → List Stp → List Stp × Nat
  | 0, _, st => (st, 0)
  | n + 1, rows, st => match chosen rows (hs st) with
    | none => (st, 0)
    | some r => match left r.2 (hs st) with
      | [] => (st, r.1)
      | l :: _ => run n rows (st ++ [(l, r.1)])
def pot (rows : List Row) (st : List Stp) : Nat := ((rows.flatMap (·.2)).filter fun l => !decide (l ∈ hs st)).length
theorem hs_snoc (st : List Stp) (p : Stp) : hs (st ++ [p]) = hs st ++ [p.1] := by unfold hs; rw [List.map_append]; rfl
theorem filter_lt {α : Type} {p q : α → Bool} : ∀ {l : List α} (_ : ∀ x ∈ l, q x = true → p x = true) {y : α}, y ∈ l → p y = true → q y = false → (l.filter q).length < (l.filter p).length
  | [], _, _, hy, _, _ => nomatch hy
  | x :: l, h, y, hy, hp, hq => by
    have le : (l.filter q).length ≤ (l.filter p).length := by
      have : ∀ (l : List α), (∀ x ∈ l, q x = true → p x = true) → (l.filter q).length ≤ (l.filter p).length := by
        intro l
        induction l with
        | nil => intro _; exact Nat.le_refl _
        | cons z l ih =>
          intro hh
          have i := ih fun x hx => hh x (List.mem_cons_of_mem _ hx)
          rw [List.filter_cons, List.filter_cons]
          by_cases c : q z = true
          · rw [if_pos c, if_pos (hh z List.mem_cons_self c), List.length_cons, List.length_cons]; omega
          · rw [if_neg c]
            split
            · rw [List.length_cons]; omega
            · exact i
      exact this l fun x hx => h x (List.mem_cons_of_mem _ hx)
    rw [List.filter_cons, List.filter_cons]
    rcases List.mem_cons.mp hy with e | hy
    · subst e
      rw [if_pos hp, hq, if_neg (by decide), List.length_cons]; omega
    · have i := filter_lt (fun x hx => h x (List.mem_cons_of_mem _ hx)) hy hp hq
      by_cases c : q x = true
      · rw [if_pos c, if_pos (h x List.mem_cons_self c), List.length_cons, List.length_cons]; omega
      · rw [if_neg c]
        split
        · rw [List.length_cons]; omega
        · exact i
theorem chosen_mem {rows : List Row} {held : List Lt} {r : Row} (h : chosen rows held = some r) : r ∈ rows ∧ fires r.2 held = true := ⟨List.mem_of_find?_eq_some h, by have := List.find?_some h; exact this⟩
theorem fires_one {c held : List Lt} {l : Lt} {ls : List Lt} (h : fires c held = true) (e : left c held = l :: ls) : ls = [] ∧ l ∉ held := by
  unfold fires at h
  rw [e] at h
  simp only [List.length_cons, Bool.or_eq_true, decide_eq_true_eq, Bool.and_eq_true, List.all_cons, Bool.not_eq_true', decide_eq_false_iff_not] at h
  rcases h with h | ⟨h1, h2, _⟩
  · omega
  · exact ⟨List.length_eq_zero_iff.mp (by omega), h2⟩
theorem pot_lt {rows : List Row} {st : List Stp} {r : Row} {l : Lt} {ls : List Lt} (h : chosen rows (hs st) = some r) (e : left r.2 (hs st) = l :: ls) : pot rows (st ++ [(l, r.1)]) < pot rows st := by
  obtain ⟨hr, hf⟩ := chosen_mem h
  obtain ⟨_, hl⟩ := fires_one hf e
  have hc : l ∈ r.2 := by
    have : l ∈ left r.2 (hs st) := by rw [e]; exact List.mem_cons_self
    exact (List.mem_filter.mp this).1
  unfold pot
  rw [hs_snoc]
  refine filter_lt (y := l) (fun x _ hx => ?_) (List.mem_flatMap.mpr ⟨r, hr, hc⟩) ?_ ?_
  · simp only [Bool.not_eq_true', decide_eq_false_iff_not, List.mem_append, not_or] at hx ⊢
    exact hx.1
  · simpa using hl
  · simp
/-- more turns than the potential change nothing -/
theorem run_more {rows : List Row} : ∀ (n m : Nat) (st : List Stp), pot rows st < n → pot rows st < m → run n rows st = run m rows st
  | 0, _, _, h, _ => absurd h (Nat.not_lt_zero _)
  | _ + 1, 0, _, _, h => absurd h (Nat.not_lt_zero _)
  | n + 1, m + 1, st, h, h' => by
    unfold run
    cases hc : chosen rows (hs st) with
    | none => rfl
    | some r =>
      cases hl : left r.2 (hs st) with
      | nil => simp only [hl]
      | cons l ls =>
        simp only [hl]
        have lt := pot_lt hc hl
        exact run_more n m _ (by omega) (by omega)
/-- what the end is like -/
theorem run_end {rows : List Row} : ∀ (n : Nat) (st : List Stp), pot rows st < n → ∃ more, (run n rows st).1 = st ++ more ∧ (hs st).length + more.length = (hs (st ++ more)).length ∧
    ((chosen rows (hs (st ++ more)) = none ∧ (run n rows st).2 = 0) ∨ ∃ r, chosen rows (hs (st ++ more)) = some r ∧ left r.2 (hs (st ++ more)) = [] ∧ (run n rows st).2 = r.1)
  | 0, _, h => absurd h (Nat.not_lt_zero _)
  | n + 1, st, h => by
    unfold run
    cases hc : chosen rows (hs st) with
    | none => exact ⟨[], by simp, by simp, .inl ⟨by simpa using hc, rfl⟩⟩
    | some r =>
      cases hl : left r.2 (hs st) with
      | nil => 
        simp only [hl]
        exact ⟨[], by simp, by simp, .inr ⟨r, by simpa using hc, by simpa using hl, rfl⟩⟩
      | cons l ls =>
        simp only [hl]
        have lt := pot_lt hc hl
        obtain ⟨more, e1, e2, e3⟩ := run_end (rows := rows) n (st ++ [(l, r.1)]) (by omega)
        refine ⟨(l, r.1) :: more, by rw [e1]; simp, ?_, ?_⟩
        · unfold hs; simp
        · have ea : st ++ [(l, r.1)] ++ more = st ++ (l, r.1) :: more := by simp
          rw [ea] at e3
          exact e3
theorem left_sub {c a b : List Lt} (h : ∀ l ∈ a, l ∈ b) : ∀ l ∈ left c b, l ∈ left c a := by
  intro l hl
  unfold left at hl ⊢
  rw [List.mem_filter] at hl ⊢
  refine ⟨hl.1, ?_⟩
  have := hl.2
  simp only [Bool.not_eq_true', decide_eq_false_iff_not] at this ⊢
  exact fun z => this (h _ z)
/-- while one way of going ends without a clash, every way stays below its end and does not clash -/
theorem below {rows : List Row} {big : List Lt} (hb : ∀ r ∈ rows, fires r.2 big = false) : ∀ (n : Nat) (st : List Stp), (∀ l ∈ hs st, l ∈ big) → (∀ r ∈ rows, 0 < r.1) →
    (run n rows st).2 = 0 ∧ ∀ l ∈ hs (run n rows st).1, l ∈ big
  | 0, st, h, _ => ⟨rfl, h⟩
  | n + 1, st, h, hp => by
    unfold run
    cases hc : chosen rows (hs st) with
    | none => exact ⟨rfl, h⟩
    | some r =>
      obtain ⟨hr, hf⟩ := chosen_mem hc
      have nb := hb r hr
      have sub := left_sub (c := r.2) h
      unfold fires at nb
      simp only [Bool.or_eq_false_iff, decide_eq_false_iff_not, Bool.and_eq_false_imp, decide_eq_true_eq] at nb
      cases hl : left r.2 (hs st) with
      | nil =>
        exfalso
        rw [hl] at sub
        exact nb.1 (by rw [List.eq_nil_iff_forall_not_mem.mpr fun l z => nomatch sub l z]; rfl)
      | cons l ls =>
        simp only [hl]
        obtain ⟨e1, _⟩ := fires_one hf hl
        subst e1
        refine below hb n _ (fun x hx => ?_) hp
        rw [hs_snoc] at hx
        rcases List.mem_append.mp hx with hx | hx
        · exact h x hx
        · rw [List.mem_singleton.mp hx]
          show l ∈ big
          have ge : (left r.2 big).length ≤ 1 := by
            have : (left r.2 big).length ≤ (left r.2 (hs st)).length := by
              have key : ∀ c : List Lt, (left c big).length ≤ (left c (hs st)).length := by
                intro c
                induction c with
                | nil => exact Nat.le_refl _
                | cons y c ih =>
                  unfold left at ih ⊢
                  rw [List.filter_cons, List.filter_cons]
                  by_cases q : (!decide (ng y ∈ big)) = true
                  · have q2 : (!decide (ng y ∈ hs st)) = true := by
                      simp only [Bool.not_eq_true', decide_eq_false_iff_not] at q ⊢
                      exact fun z => q (h _ z)
                    rw [if_pos q, if_pos q2, List.length_cons, List.length_cons]; omega
                  · rw [if_neg q]
                    split
                    · rw [List.length_cons]; omega
                    · exact ih
              exact key r.2
            rw [hl] at this
            exact this
          have one : (left r.2 big).length = 1 := by
            have := nb.1
            omega
          obtain ⟨y, hy⟩ := List.length_eq_one_iff.mp one
          have ym := sub y (by rw [hy]; exact List.mem_cons_self)
          rw [hl, List.mem_singleton] at ym
          subst ym
          have h3 := nb.2 one
          rw [hy] at h3
          simpa using h3
theorem no_fire {rows : List Row} {held : List Lt} (h : chosen rows held = none) : ∀ r ∈ rows, fires r.2 held = false := fun r hr => by
  have := List.find?_eq_none.mp h r hr
  simpa using this
theorem run_le {rows : List Row} {n : Nat} {st : List Stp} (h : pot rows st < n) : ∀ l ∈ hs st, l ∈ hs (run n rows st).1 := fun l hl => by
  obtain ⟨more, e, _⟩ := run_end n st h
  rw [e]
  unfold hs at hl ⊢
  rw [List.map_append]
  exact List.mem_append_left _ hl
theorem zero_end {rows : List Row} {n : Nat} {st : List Stp} (h : pot rows st < n) (hp : ∀ r ∈ rows, 0 < r.1) (z : (run n rows st).2 = 0) : chosen rows (hs (run n rows st).1) = none := by
  obtain ⟨more, e, _, e3⟩ := run_end n st h
  rw [e]
  rcases e3 with ⟨e3, _⟩ | ⟨r, e3, _, e5⟩
  · exact e3
  · have := hp r (chosen_mem e3).1
    omega
theorem same_end {rows rows' : List Row} (hm : ∀ r, r ∈ rows ↔ r ∈ rows') (hp : ∀ r ∈ rows, 0 < r.1) {n : Nat} {st : List Stp} (h : pot rows st < n) (h' : pot rows' st < n) (z : (run n rows st).2 = 0) :
    (run n rows' st).2 = 0 ∧ ∀ l, l ∈ hs (run n rows st).1 ↔ l ∈ hs (run n rows' st).1 := by
  have hp' : ∀ r ∈ rows', 0 < r.1 := fun r hr => hp r ((hm r).mpr hr)
  have e1 := zero_end h hp z
  have b1 := below (rows := rows') (fun r hr => no_fire e1 r ((hm r).mpr hr)) n st (run_le h) hp'
  have e2 := zero_end h' hp' b1.1
  have b2 := below (rows := rows) (fun r hr => no_fire e2 r ((hm r).mp hr)) n st (run_le h') hp
  exact ⟨b1.1, fun l => ⟨b2.2 l, b1.2 l⟩⟩
theorem hs_nodup {rows : List Row} : ∀ (n : Nat) (st : List Stp), (hs st).Nodup → (hs (run n rows st).1).Nodup
  | 0, _, h => h
  | n + 1, st, h => by
    unfold run
    cases hc : chosen rows (hs st) with
    | none => exact h
    | some r =>
      cases hl : left r.2 (hs st) with
      | nil => simpa only [hl] using h
      | cons l ls =>
        simp only [hl]
        refine hs_nodup n _ ?_
        rw [hs_snoc]
        obtain ⟨_, nl⟩ := fires_one (chosen_mem hc).2 hl
        refine List.nodup_append.mpr ⟨h, by simp, fun x hx y hy e => ?_⟩
        rw [List.mem_singleton.mp hy] at e
        subst e
        exact nl hx
end K15

namespace K15
open PySem PySem.Spec PyProof.Rows L2
def topS (i : Nat) : Stmt := PySem.Challenge.pw_onelooker_k15_propagation_in_any_order.main.body.getD i (.Pass ⟨0, 0, 0, 0⟩)
abbrev s_wall : Stmt := topS 0
theorem sc_wall : FnScope ["k"] ["k"] (defScope s_wall) := ⟨rfl, rfl, rfl, by decide +kernel, rfl, by decide +kernel, by decide +kernel⟩
abbrev s_is_int : Stmt := topS 6
theorem sc_is_int : FnScope ["value"] ["value"] (defScope s_is_int) := ⟨rfl, rfl, rfl, by decide +kernel, rfl, by decide +kernel, by decide +kernel⟩
abbrev s_negated : Stmt := topS 8
theorem sc_negated : FnScope ["literal", "atom", "sign"] ["literal"] (defScope s_negated) := ⟨rfl, rfl, rfl, by decide +kernel, rfl, by decide +kernel, by decide +kernel⟩
abbrev s_undenied : Stmt := topS 10
theorem sc_undenied : FnScope ["clause", "held", "literal"] ["clause", "held"] (defScope s_undenied) := ⟨rfl, rfl, rfl, by decide +kernel, rfl, by decide +kernel, by decide +kernel⟩
abbrev s_next_step : Stmt := topS 11
theorem sc_next_step : FnScope ["clauses", "order", "held", "label", "left"] ["clauses", "order", "held"] (defScope s_next_step) := ⟨rfl, rfl, rfl, by decide +kernel, rfl, by decide +kernel, by decide +kernel⟩
abbrev s_checked_order : Stmt := topS 13
theorem sc_checked_order : FnScope ["clauses", "order", "labels", "label"] ["clauses", "order"] (defScope s_checked_order) := ⟨rfl, rfl, rfl, by decide +kernel, rfl, by decide +kernel, by decide +kernel⟩
abbrev s_propagate : Stmt := topS 14
theorem sc_propagate : FnScope ["clauses", "start", "order", "labels", "held", "step", "literal"] ["clauses", "start", "order"] (defScope s_propagate) := ⟨rfl, rfl, rfl, by decide +kernel, rfl, by decide +kernel, by decide +kernel⟩
abbrev s_l_state : Stmt := topS 16
theorem sc_l_state : FnScope ["_law_script"] ["_law_script"] (defScope s_l_state) := ⟨rfl, rfl, rfl, by decide +kernel, rfl, by decide +kernel, by decide +kernel⟩
abbrev s_l_draw : Stmt := topS 17
theorem sc_l_draw : FnScope ["_law_state_here", "_law_many", "_law_cell", "_law_found", "_law_mixed"] ["_law_state_here", "_law_many"] (defScope s_l_draw) := ⟨rfl, rfl, rfl, by decide +kernel, rfl, by decide +kernel, by decide +kernel⟩
abbrev s_l_alike : Stmt := topS 18
theorem sc_l_alike : FnScope ["_law_actual", "_law_due", "_law_k"] ["_law_actual", "_law_due"] (defScope s_l_alike) := ⟨rfl, rfl, rfl, by decide +kernel, rfl, by decide +kernel, by decide +kernel⟩
abbrev s_l_atom_row : Stmt := topS 19
theorem sc_l_atom_row : FnScope ["_law_state_here", "_law_count", "_law_style", "_law_shift", "_law_atoms", "_law_k", "_law_sign"] ["_law_state_here", "_law_count"] (defScope s_l_atom_row) := ⟨rfl, rfl, rfl, by decide +kernel, rfl, by decide +kernel, by decide +kernel⟩
abbrev s_l_clause : Stmt := topS 20
theorem sc_l_clause : FnScope ["_law_state_here", "_law_atoms", "_law_most", "_law_found", "_law_k", "_law_literal"] ["_law_state_here", "_law_atoms", "_law_most"] (defScope s_l_clause) := ⟨rfl, rfl, rfl, by decide +kernel, rfl, by decide +kernel, by decide +kernel⟩
abbrev s_l_clauses : Stmt := topS 21
theorem sc_l_clauses : FnScope ["_law_state_here", "_law_atoms", "_law_many", "_law_most", "_law_shift", "_law_rows", "_law_k"] ["_law_state_here", "_law_atoms", "_law_many", "_law_most"] (defScope s_l_clauses) := ⟨rfl, rfl, rfl, by decide +kernel, rfl, by decide +kernel, by decide +kernel⟩
abbrev s_l_dict : Stmt := topS 22
theorem sc_l_dict : FnScope ["_law_rows", "_law_found", "_law_row"] ["_law_rows"] (defScope s_l_dict) := ⟨rfl, rfl, rfl, by decide +kernel, rfl, by decide +kernel, by decide +kernel⟩
abbrev s_l_by_label : Stmt := topS 23
theorem sc_l_by_label : FnScope ["_law_rows", "_law_table", "_law_label", "_law_row"] ["_law_rows"] (defScope s_l_by_label) := ⟨rfl, rfl, rfl, by decide +kernel, rfl, by decide +kernel, by decide +kernel⟩
abbrev s_l_not : Stmt := topS 24
theorem sc_l_not : FnScope ["_law_literal"] ["_law_literal"] (defScope s_l_not) := ⟨rfl, rfl, rfl, by decide +kernel, rfl, by decide +kernel, by decide +kernel⟩
abbrev s_l_left : Stmt := topS 25
theorem sc_l_left : FnScope ["_law_clause_here", "_law_held", "_law_literal"] ["_law_clause_here", "_law_held"] (defScope s_l_left) := ⟨rfl, rfl, rfl, by decide +kernel, rfl, by decide +kernel, by decide +kernel⟩
abbrev s_l_propagated : Stmt := topS 26
theorem sc_l_propagated : FnScope ["_law_rows", "_law_start_here", "_law_held", "_law_steps", "_law_literal", "_law_turn", "_law_chosen", "_law_row", "_law_left_here"] ["_law_rows", "_law_start_here"] (defScope s_l_propagated) := ⟨rfl, rfl, rfl, by decide +kernel, rfl, by decide +kernel, by decide +kernel⟩
abbrev s_l_start : Stmt := topS 27
theorem sc_l_start : FnScope ["_law_state_here", "_law_atoms", "_law_found", "_law_k"] ["_law_state_here", "_law_atoms"] (defScope s_l_start) := ⟨rfl, rfl, rfl, by decide +kernel, rfl, by decide +kernel, by decide +kernel⟩
abbrev s_l_item : Stmt := topS 28
theorem sc_l_item : FnScope ["_law_found", "_law_literal", "e"] ["_law_found", "_law_literal"] (defScope s_l_item) := ⟨rfl, rfl, rfl, by decide +kernel, rfl, by decide +kernel, by decide +kernel⟩
abbrev s_l_is : Stmt := topS 29
theorem sc_l_is : FnScope ["_law_found", "_law_due", "_law_atoms", "_law_steps", "_law_clash", "_law_literals", "_law_atom", "_law_literal", "_law_label", "_law_step"] ["_law_found", "_law_due", "_law_atoms"] (defScope s_l_is) := ⟨rfl, rfl, rfl, by decide +kernel, rfl, by decide +kernel, by decide +kernel⟩
abbrev s_l_refused : Stmt := topS 30
theorem sc_l_refused : FnScope ["_law_clauses_here", "_law_start_here", "_law_labels", "e"] ["_law_clauses_here", "_law_start_here", "_law_labels"] (defScope s_l_refused) := ⟨rfl, rfl, rfl, by decide +kernel, rfl, by decide +kernel, by decide +kernel⟩
abbrev s_l_asked : Stmt := topS 31
theorem sc_l_asked : FnScope ["_law_state_here", "_law_rows", "_law_atoms", "_law_start_here", "_law_clauses_here", "_law_due", "_law_handed", "_law_found", "_law_at", "_law_turned", "_law_labels", "_law_other", "_law_literals", "_law_row", "_law_step"] ["_law_state_here", "_law_rows", "_law_atoms", "_law_start_here"] (defScope s_l_asked) := ⟨rfl, rfl, rfl, by decide +kernel, rfl, by decide +kernel, by decide +kernel⟩
abbrev s_law : Stmt := topS 32
theorem sc_law : FnScope ["_law_script", "_law_state_here", "_law_atoms", "_law_rows", "_law_first", "_law_second", "_law_start_here", "_law_clauses_here", "_law_labels", "_law_bads", "_law_bad", "_law_row"] ["_law_script"] (defScope s_law) := ⟨rfl, rfl, rfl, by decide +kernel, rfl, by decide +kernel, by decide +kernel⟩
structure Ad where
  e0 : Addr
  f_wall : Addr
  d_wall : FuncData
  f_is_int : Addr
  d_is_int : FuncData
  f_negated : Addr
  d_negated : FuncData
  f_undenied : Addr
  d_undenied : FuncData
  f_next_step : Addr
  d_next_step : FuncData
  f_checked_order : Addr
  d_checked_order : FuncData
  f_propagate : Addr
  d_propagate : FuncData
  f_l_state : Addr
  d_l_state : FuncData
  f_l_draw : Addr
  d_l_draw : FuncData
  f_l_alike : Addr
  d_l_alike : FuncData
  f_l_atom_row : Addr
  d_l_atom_row : FuncData
  f_l_clause : Addr
  d_l_clause : FuncData
  f_l_clauses : Addr
  d_l_clauses : FuncData
  f_l_dict : Addr
  d_l_dict : FuncData
  f_l_by_label : Addr
  d_l_by_label : FuncData
  f_l_not : Addr
  d_l_not : FuncData
  f_l_left : Addr
  d_l_left : FuncData
  f_l_propagated : Addr
  d_l_propagated : FuncData
  f_l_start : Addr
  d_l_start : FuncData
  f_l_item : Addr
  d_l_item : FuncData
  f_l_is : Addr
  d_l_is : FuncData
  f_l_refused : Addr
  d_l_refused : FuncData
  f_l_asked : Addr
  d_l_asked : FuncData
  f_law : Addr
  d_law : FuncData
  c_LookerError : Addr
  c_BadLiteral : Addr
  c_BadOrder : Addr
  c_Propagation : Addr
structure Top (K : PySem.W.Frag) (mg : Str → Option Value) (a : Ad) : Prop where
  sq0 : ∀ H : Hp, SqT K H a.e0 []
  F_wall : Fun K "_wall" "_wall" s_wall a.f_wall a.d_wall
  m_wall : mg "_wall" = some (.ref a.f_wall)
  b_wall : Binds K a.d_wall ["k"] []
  F_is_int : Fun K "is_int" "is_int" s_is_int a.f_is_int a.d_is_int
  m_is_int : mg "is_int" = some (.ref a.f_is_int)
  b_is_int : Binds K a.d_is_int ["value"] []
  F_negated : Fun K "negated" "negated" s_negated a.f_negated a.d_negated
  m_negated : mg "negated" = some (.ref a.f_negated)
  b_negated : Binds K a.d_negated ["literal"] []
  F_undenied : Fun K "_undenied" "_undenied" s_undenied a.f_undenied a.d_undenied
  m_undenied : mg "_undenied" = some (.ref a.f_undenied)
  b_undenied : Binds K a.d_undenied ["clause", "held"] []
  F_next_step : Fun K "_next_step" "_next_step" s_next_step a.f_next_step a.d_next_step
  m_next_step : mg "_next_step" = some (.ref a.f_next_step)
  b_next_step : Binds K a.d_next_step ["clauses", "order", "held"] []
  F_checked_order : Fun K "_checked_order" "_checked_order" s_checked_order a.f_checked_order a.d_checked_order
  m_checked_order : mg "_checked_order" = some (.ref a.f_checked_order)
  b_checked_order : Binds K a.d_checked_order ["clauses", "order"] []
  -- FunD propagate
  F_propagate : FunD K "propagate" "propagate" (defArgs s_propagate) (defBody s_propagate) (defScope s_propagate) [.ref a.e0] [("order", .non)] a.f_propagate a.d_propagate
  m_propagate : mg "propagate" = some (.ref a.f_propagate)
  F_l_state : Fun K "_law_state" "_law_state" s_l_state a.f_l_state a.d_l_state
  m_l_state : mg "_law_state" = some (.ref a.f_l_state)
  b_l_state : Binds K a.d_l_state ["_law_script"] []
  F_l_draw : Fun K "_law_draw" "_law_draw" s_l_draw a.f_l_draw a.d_l_draw
  m_l_draw : mg "_law_draw" = some (.ref a.f_l_draw)
  b_l_draw : Binds K a.d_l_draw ["_law_state_here", "_law_many"] []
  F_l_alike : Fun K "_law_alike" "_law_alike" s_l_alike a.f_l_alike a.d_l_alike
  m_l_alike : mg "_law_alike" = some (.ref a.f_l_alike)
  b_l_alike : Binds K a.d_l_alike ["_law_actual", "_law_due"] []
  F_l_atom_row : Fun K "_law_atom_row" "_law_atom_row" s_l_atom_row a.f_l_atom_row a.d_l_atom_row
  m_l_atom_row : mg "_law_atom_row" = some (.ref a.f_l_atom_row)
  b_l_atom_row : Binds K a.d_l_atom_row ["_law_state_here", "_law_count"] []
  F_l_clause : Fun K "_law_clause" "_law_clause" s_l_clause a.f_l_clause a.d_l_clause
  m_l_clause : mg "_law_clause" = some (.ref a.f_l_clause)
  b_l_clause : Binds K a.d_l_clause ["_law_state_here", "_law_atoms", "_law_most"] []
  F_l_clauses : Fun K "_law_clauses" "_law_clauses" s_l_clauses a.f_l_clauses a.d_l_clauses
  m_l_clauses : mg "_law_clauses" = some (.ref a.f_l_clauses)
  b_l_clauses : Binds K a.d_l_clauses ["_law_state_here", "_law_atoms", "_law_many", "_law_most"] []
  F_l_dict : Fun K "_law_dict" "_law_dict" s_l_dict a.f_l_dict a.d_l_dict
  m_l_dict : mg "_law_dict" = some (.ref a.f_l_dict)
  b_l_dict : Binds K a.d_l_dict ["_law_rows"] []
  F_l_by_label : Fun K "_law_by_label" "_law_by_label" s_l_by_label a.f_l_by_label a.d_l_by_label
  m_l_by_label : mg "_law_by_label" = some (.ref a.f_l_by_label)
  b_l_by_label : Binds K a.d_l_by_label ["_law_rows"] []
  F_l_not : Fun K "_law_not" "_law_not" s_l_not a.f_l_not a.d_l_not
  m_l_not : mg "_law_not" = some (.ref a.f_l_not)
  b_l_not : Binds K a.d_l_not ["_law_literal"] []
  F_l_left : Fun K "_law_left" "_law_left" s_l_left a.f_l_left a.d_l_left
  m_l_left : mg "_law_left" = some (.ref a.f_l_left)
  b_l_left : Binds K a.d_l_left ["_law_clause_here", "_law_held"] []
  F_l_propagated : Fun K "_law_propagated" "_law_propagated" s_l_propagated a.f_l_propagated a.d_l_propagated
  m_l_propagated : mg "_law_propagated" = some (.ref a.f_l_propagated)
  b_l_propagated : Binds K a.d_l_propagated ["_law_rows", "_law_start_here"] []
  F_l_start : Fun K "_law_start" "_law_start" s_l_start a.f_l_start a.d_l_start
  m_l_start : mg "_law_start" = some (.ref a.f_l_start)
  b_l_start : Binds K a.d_l_start ["_law_state_here", "_law_atoms"] []
  F_l_item : Fun K "_law_item" "_law_item" s_l_item a.f_l_item a.d_l_item
  m_l_item : mg "_law_item" = some (.ref a.f_l_item)
  b_l_item : Binds K a.d_l_item ["_law_found", "_law_literal"] []
  F_l_is : Fun K "_law_is" "_law_is" s_l_is a.f_l_is a.d_l_is
  m_l_is : mg "_law_is" = some (.ref a.f_l_is)
  b_l_is : Binds K a.d_l_is ["_law_found", "_law_due", "_law_atoms"] []
  F_l_refused : Fun K "_law_refused" "_law_refused" s_l_refused a.f_l_refused a.d_l_refused
  m_l_refused : mg "_law_refused" = some (.ref a.f_l_refused)
  b_l_refused : Binds K a.d_l_refused ["_law_clauses_here", "_law_start_here", "_law_labels"] []
  F_l_asked : Fun K "_law_asked" "_law_asked" s_l_asked a.f_l_asked a.d_l_asked
  m_l_asked : mg "_law_asked" = some (.ref a.f_l_asked)
  b_l_asked : Binds K a.d_l_asked ["_law_state_here", "_law_rows", "_law_atoms", "_law_start_here"] []
  F_law : Fun K "law" "law" s_law a.f_law a.d_law
  m_law : mg "law" = some (.ref a.f_law)
  b_law : Binds K a.d_law ["_law_script"] []
  m_LookerError : mg "LookerError" = some (.ref a.c_LookerError)
  m_BadLiteral : mg "BadLiteral" = some (.ref a.c_BadLiteral)
  m_BadOrder : mg "BadOrder" = some (.ref a.c_BadOrder)
  m_Propagation : mg "Propagation" = some (.ref a.c_Propagation)
  z_ValueError : mg "ValueError" = none
  z_all : mg "all" = none
  z_bool : mg "bool" = none
  z_dict : mg "dict" = none
  z_int : mg "int" = none
  z_isinstance : mg "isinstance" = none
  z_iter : mg "iter" = none
  z_len : mg "len" = none
  z_list : mg "list" = none
  z_range : mg "range" = none
  z_sorted : mg "sorted" = none
  z_str : mg "str" = none
  z_tuple : mg "tuple" = none
end K15

namespace K15
open PySem PySem.Spec PyProof.Rows L2
section
variable {P : Program} {w : World} {K : PySem.W.Frag} {mg : Str → Option Value} {base : Heap} {a : Ad}
/-- no list, tuple or dict is an int or a truth value: what x is, by its type t -/
def spIsInt (K : PySem.W.Frag) : Sp := fun vs H Q _ => ∃ (x : V) (t : String) (b c : Bool), vs = [x] ∧ TyX K H x (.type t) ∧ kitB t "int" = some b ∧ kitB t "bool" = some c ∧ Q (.bl (b && !c)) H
theorem ok_is_int (T : Top K mg a) : FnOk P w K mg base CX0 1 a.f_is_int a.d_is_int ["value"] (spIsInt K) := by
  refine T.F_is_int.ok sc_is_int (fun vs H Q E h => ?_) (fun cdv A outer s H vs Q E hr h => ?_)
  · obtain ⟨x, t, b, c, rfl, _⟩ := h
    rfl
  · obtain ⟨x, t, b, c, rfl, ht, hb, hc, q⟩ := h
    refine ⟨_, (pss_one (ps_ret (pe_and (pe_callB call_isi (by rfl) T.z_isinstance (by decide +kernel) (pa_cons (pv 0) (pa_cons (pe_bltn (v := .ty "int") (by rfl) T.z_int (by decide +kernel) rfl) pa_nil))) (pe_one (pe_not (pe_callB call_isi (by rfl) T.z_isinstance (by decide +kernel) (pa_cons (pv 0) (pa_cons (pe_bltn (v := .ty "bool") (by rfl) T.z_bool (by decide +kernel) rfl) pa_nil)))))))), ?_⟩
    refine ⟨x, rfl, x, .ty "int", .type t, .type "int", b, rfl, .ty _, ht, kit_ty hb, b, rfl, ?_⟩
    cases b with
    | false => exact q
    | true =>
      refine iteT ⟨x, rfl, x, .ty "bool", .type t, .type "bool", c, rfl, .ty _, ht, kit_ty hc, c, rfl, ?_⟩
      simpa using q
end
end K15

namespace K15
open PySem PySem.Spec PyProof.Rows L2
section
variable {P : Program} {w : World} {K : PySem.W.Frag} {mg : Str → Option Value} {base : Heap} {a : Ad}
/-- the drawing state at st -/
structure Sta (sc : Addr) (H : Hp) (st : Addr) : Prop where
  ex : ∃ (ns : List Int) (i b s l : Int), sc ≠ st ∧ H st = some (.lst [.ref sc, .int i, .int b, .int s, .int l]) ∧ H sc = some (.lst (ns.map V.int)) ∧ 0 ≤ i ∧ 0 ≤ b ∧ 0 ≤ s ∧ s < 10 ^ 18 ∧ 0 ≤ l ∧ l ≤ 6
/-- all else stays -/
def Kp (st : Addr) (H H' : Hp) : Prop := ∀ b o, b ≠ st → H b = some o → H' b = some o
theorem Kp.refl (st : Addr) (H : Hp) : Kp st H H := fun _ _ _ h => h
theorem Kp.trans {st : Addr} {H H1 H2 : Hp} (x : Kp st H H1) (y : Kp st H1 H2) : Kp st H H2 := fun b o n h => y b o n (x b o n h)
theorem Kp.put {st : Addr} {H H1 : Hp} {o : HO} (x : Kp st H H1) : Kp st H (upd H1 st o) := fun b u n h => by
  rw [upd_ne n]
  exact x b u n h
theorem Same.kp {st : Addr} {H H' : Hp} (h : Same H H') : Kp st H H' := fun b o _ e => h b o e
def spDraw : Sp := fun vs H Q _ => ∃ (sc st : Addr) (m : Int), vs = [.ref st, .int m] ∧ Sta sc H st ∧ 1 ≤ m ∧ m < 2 ^ 60 ∧ ∀ H' v, Kp st H H' → Sta sc H' st → 0 ≤ v → v < m → Q (.int v) H'
theorem ixv {K : PySem.W.Frag} {i : Nat} {p : Addr} {xs : List V} {v : V} {σ : L2.St} {H : Hp} {Q : VK} (j : Nat) (h0 : σ[i]? = some (some (.ref p))) (h : SqL K H p xs) (e : xs[j]? = some v) (q : Q v H) : tOp (rIx K) (tVar i) (tC (.int (j : Int))) σ H Q :=
  ⟨.ref p, h0, .inl ⟨p, xs, j, v, rfl, rfl, h, atI_nat e, q⟩⟩
theorem eqi {K : PySem.W.Frag} {x y : Int} {H : Hp} {Q : Bool → Hp → Prop} (q : Q (decide (x = y)) H) : (fun x y H Q => rEq x y H Q ∨ rEqD K x y H Q) (.int x) (.int y) H (fun z H' => ∃ k, z = .bl k ∧ Q k H') := .inl ⟨rfl, _, rfl, by
  have e : decide (V.int x = V.int y) = decide (x = y) := by
    by_cases h : x = y
    · rw [decide_eq_true h, decide_eq_true (by rw [h])]
    · rw [decide_eq_false h, decide_eq_false (fun z => h (V.int.inj z))]
  rw [e]; exact q⟩
theorem setv {p : Addr} {xs : List V} {v : V} {H : Hp} {Q : Hp → Prop} (j : Nat) (h : H p = some (.lst xs)) (hj : j < xs.length) (q : Q (upd H p (.lst (xs.set j v)))) : rSetL (.ref p) (.int (j : Int)) v H Q := ⟨p, xs, j, j, rfl, rfl, h, by
  unfold ixN
  rw [if_pos (by omega), if_pos (by omega)]
  simp, q⟩
theorem sta_cell {H : Hp} {st : Addr} {xs : List V} {j : Nat} {v : V} (h : H st = some (.lst xs)) (e : xs[j]? = some v) : (∃ (p : Addr) (ys : List V) (i : Int) (u : V), V.ref st = .ref p ∧ V.int (j : Int) = .int i ∧ SqL K H p ys ∧ atI ys i = some u ∧ u = v) := ⟨st, xs, j, v, rfl, rfl, SqL.of h, atI_nat e, rfl⟩
theorem ok_draw (T : Top K mg a) : FnOk P w K mg base CX0 1 a.f_l_draw a.d_l_draw ["_law_state_here", "_law_many"] spDraw := by
  refine T.F_l_draw.ok sc_l_draw (fun vs H Q E h => ?_) (fun cdv A outer s H vs Q E hr h => ?_)
  · obtain ⟨_, st, m, rfl, _⟩ := h
    rfl
  · obtain ⟨sc, st, m, rfl, ⟨ns, i, b, s, l, hne, hst, hsc, hi, hb, hs0, hs1, hl0, hl1⟩, hm0, hm1, q⟩ := h
    refine ⟨_, (pss_cons (ps_if (pt_cmpR (OpR.or op_lt op_lt_str) (pv 1) pe_int (nomark _))
      (pss_one (ps_ret pe_int))
      pss_nil)
    (C8.pss_cut (ps_if (PW.pt (pw_and (pt_cmpR (OpR.or op_eq (op_eqD hr.units)) (pe_ix ix_seq (pv 0) pe_int (fun _ _ => rfl)) pe_int (nomark _)) (pw_and (pt_cmpR (OpR.or op_eq (op_eqD hr.units)) (pe_ix ix_seq (pv 0) pe_int (fun _ _ => rfl)) pe_int (nomark _)) (pw_and1 (pt_cmpR (OpR.or op_lt op_lt_str) (pe_ix ix_seq (pv 0) pe_int (fun _ _ => rfl)) (pe_callB (CallR.or call_len_str call_len_seq) (by rfl) T.z_len (by decide +kernel) (pa_cons (pe_ix ix_seq (pv 0) pe_int (fun _ _ => rfl)) pa_nil)) (nomark _))))))
      (pss_cons (ps_set (i := 2) sc_l_draw.nd rfl (.inl rfl) (pe_ix ix_seq (pe_ix ix_seq (pv 0) pe_int (fun _ _ => rfl)) (pe_ix ix_seq (pv 0) pe_int (fun _ _ => rfl)) (fun _ _ => rfl)))
      (pss_cons (ps_asg (pe_op (OpR.or op_add (OpR.or op_add_str (OpR.or op_cat op_catT))) (pe_ix ix_seq (pv 0) pe_int (fun _ _ => rfl)) pe_int) (pg_sub (pv 0) pe_int set_list))
      (pss_cons (ps_if (pt_cmpR (OpR.or op_lt op_lt_str) (pv 2) pe_int (nomark _))
        (pss_one (ps_set (i := 2) sc_l_draw.nd rfl (.inl rfl) (pe_op op_sub pe_int (pe_op (OpR.or op_mul op_mulW) pe_int (pv 2)))))
        pss_nil)
      (pss_one (ps_if (pt_cmpR (OpR.or op_ge op_ge_str) (pv 2) (pe_op op_pow pe_int pe_int) (nomark _))
        (pss_one (ps_asg (pv 2) (pg_sub (pv 0) pe_int set_list)))
        (pss_cons (ps_asg (pv 2) (pg_sub (pv 0) pe_int set_list))
        (pss_one (ps_asg pe_int (pg_sub (pv 0) pe_int set_list)))))))))
      pss_nil)
    (pss_cons (ps_if (pt_cmpR (OpR.or op_gt op_gt_str) (pe_ix ix_seq (pv 0) pe_int (fun _ _ => rfl)) pe_int (nomark _))
      (pss_cons (ps_set (i := 3) sc_l_draw.nd rfl (.inl rfl) (pe_op op_mod (pe_callTy (CallR.or call_int1 call_int_str) (by rfl) T.z_int (by decide +kernel) (pa_cons (pe_ix ix_seq (pv 0) pe_int (fun _ _ => rfl)) pa_nil)) (pv 1)))
      (pss_cons (ps_asg (pe_op op_fdivW (pe_ix ix_seq (pv 0) pe_int (fun _ _ => rfl)) (pv 1)) (pg_sub (pv 0) pe_int set_list))
      (pss_one (ps_ret (pv 3)))))
      pss_nil)
    (pss_cons (ps_if (pt_cmpR (OpR.or op_gt op_gt_str) (pe_ix ix_seq (pv 0) pe_int (fun _ _ => rfl)) pe_int (nomark _))
      (pss_cons (ps_asg (pe_op op_sub (pe_ix ix_seq (pv 0) pe_int (fun _ _ => rfl)) pe_int) (pg_sub (pv 0) pe_int set_list))
      (pss_cons (ps_set (i := 4) sc_l_draw.nd rfl (.inl rfl) (pe_op op_mod (pe_callTy (CallR.or call_int1 call_int_str) (by rfl) T.z_int (by decide +kernel) (pa_cons (pe_op (OpR.or op_mul op_mulW) (pe_ix ix_seq (pv 0) pe_int (fun _ _ => rfl)) (pe_op (OpR.or op_add (OpR.or op_add_str (OpR.or op_cat op_catT))) pe_int (pe_op (OpR.or op_mul op_mulW) pe_int (pe_ix ix_seq (pv 0) pe_int (fun _ _ => rfl))))) pa_nil)) pe_int))
      (pss_cons (ps_set (i := 4) sc_l_draw.nd rfl (.inl rfl) (pe_op op_mod (pe_callTy (CallR.or call_int1 call_int_str) (by rfl) T.z_int (by decide +kernel) (pa_cons (pe_op (OpR.or op_mul op_mulW) (pv 4) (pe_op (OpR.or op_add (OpR.or op_add_str (OpR.or op_cat op_catT))) pe_int (pe_ix ix_seq (pv 0) pe_int (fun _ _ => rfl)))) pa_nil)) pe_int))
      (pss_one (ps_ret (pe_op op_mod (pe_callTy (CallR.or call_int1 call_int_str) (by rfl) T.z_int (by decide +kernel) (pa_cons (pv 4) pa_nil)) (pv 1)))))))
      pss_nil)
    (pss_one (ps_ret pe_int)))))), ?_⟩
    refine ⟨.int m, rfl, .inl ⟨m, 2, rfl, rfl, _, rfl, ite2 (fun e => ?_) (fun e => ?_)⟩⟩
    · exact q H 0 (Kp.refl _ _) ⟨ns, i, b, s, l, hne, hst, hsc, hi, hb, hs0, hs1, hl0, hl1⟩ (by omega) (by omega)
    · have hm2 : 2 ≤ m := by
        have := of_decide_eq_false (Bool.eq_false_iff.mpr e)
        omega
      refine ⟨fun σ' H' => ∃ y2 y3 y4, σ' = [some (.ref st), some (.int m), y2, y3, y4] ∧ Kp st H H' ∧ Sta sc H' st, ?_, ?_⟩
      · -- load
        have S0 : Sta sc H st := ⟨ns, i, b, s, l, hne, hst, hsc, hi, hb, hs0, hs1, hl0, hl1⟩
        refine ixv 2 rfl (SqL.of hst) rfl (eqi (ite2 (fun e1 => ?_) (fun e1 => ?_)))
        rotate_left
        · exact iteF ⟨_, _, _, rfl, Kp.refl _ _, S0⟩
        refine ixv 4 rfl (SqL.of hst) rfl (eqi (ite2 (fun e2 => ?_) (fun e2 => ?_)))
        rotate_left
        · exact iteF ⟨_, _, _, rfl, Kp.refl _ _, S0⟩
        refine ixv 1 rfl (SqL.of hst) rfl (ixv 0 rfl (SqL.of hst) rfl (.inr ⟨sc, _, rfl, .inl (SqL.of hsc), .inl ⟨i, _, rfl, rfl, _, rfl, ite2 (fun e3 => ?_) (fun e3 => ?_)⟩⟩))
        rotate_left
        · exact ⟨_, _, _, rfl, Kp.refl _ _, S0⟩
        have h3 : i < ns.length := by
          have := of_decide_eq_true e3
          simpa using this
        obtain ⟨j, rfl⟩ : ∃ j : Nat, i = j := ⟨i.toNat, by omega⟩
        have hj : j < ns.length := by omega
        refine ixv 0 rfl (SqL.of hst) rfl (ixv 1 rfl (SqL.of hst) rfl (.inl ⟨sc, _, _, .int ns[j], rfl, rfl, SqL.of hsc, atI_nat (by simp [hj]), ?_⟩))
        refine ixv 1 rfl (SqL.of hst) rfl (.inl ⟨_, 1, rfl, rfl, ?_⟩)
        refine ⟨.ref st, rfl, setv 1 hst (by simp) ?_⟩
        -- the cell, not below 0
        have tail : ∀ (c : Int) (y3 y4 : Option V), 0 ≤ c → tIfS (tTest (tOp (fun x y H Q => rI0 (fun i j => V.bl (decide (j ≤ i))) x y H Q ∨ ∃ i j, x = V.str i ∧ y = V.str j ∧ Q (V.bl (!decide (i.cps.toList < j.cps.toList))) H) (tVar 2) (tOp (rI CPow fun i j => V.int (i ^ j.toNat)) (tC (.int 10)) (tC (.int 18)))))
            (tAsg (tVar 2) (gSub (tVar 0) (tC (.int 2)) rSetL)) (tSeq (tAsg (tVar 2) (gSub (tVar 0) (tC (.int 3)) rSetL)) (tAsg (tC (.int 6)) (gSub (tVar 0) (tC (.int 4)) rSetL)))
            { nx := fun σ' H' => ∃ y2 y3 y4, σ' = [some (.ref st), some (.int m), y2, y3, y4] ∧ Kp st H H' ∧ Sta sc H' st, rt := Q } [some (.ref st), some (.int m), some (.int c), y3, y4] (upd H st (.lst [.ref sc, .int (j + 1), .int b, .int s, .int l])) := by
          intro c y3 y4 hc
          have hsc' : (upd H st (.lst [.ref sc, .int (j + 1), .int b, .int s, .int l])) sc = some (.lst (ns.map V.int)) := by
            rw [upd_ne hne]; exact hsc
          refine ⟨.int c, rfl, 10, 18, rfl, rfl, ⟨by decide, by decide⟩, .inl ⟨c, _, rfl, rfl, _, rfl, ite2 (fun e => ?_) (fun e => ?_)⟩⟩
          · refine ⟨.int c, rfl, .ref st, rfl, setv 2 upd_same (by simp) ?_⟩
            refine ⟨_, _, _, rfl, (Kp.refl _ _).put.put, ns, j + 1, c, s, l, hne, upd_same, ?_, by omega, hc, hs0, hs1, hl0, hl1⟩
            rw [upd_ne hne]; exact hsc'
          · have hlt : c < 10 ^ 18 := by
              have := of_decide_eq_false (Bool.eq_false_iff.mpr e)
              have e18 : (10 : Int) ^ (18 : Int).toNat = 10 ^ 18 := rfl
              rw [e18] at this
              omega
            refine ⟨.int c, rfl, .ref st, rfl, setv 3 upd_same (by simp) ?_⟩
            refine ⟨.ref st, rfl, setv 4 upd_same (by simp) ?_⟩
            refine ⟨_, _, _, rfl, (Kp.refl _ _).put.put.put, ns, j + 1, b, c, 6, hne, upd_same, ?_, by omega, hb, hc, hlt, by omega, by omega⟩
            rw [upd_ne hne, upd_ne hne]; exact hsc'
        refine ⟨.int ns[j], rfl, .inl ⟨_, 0, rfl, rfl, _, rfl, ite2 (fun e => ?_) (fun e => ?_)⟩⟩
        · have hneg : ns[j] < 0 := of_decide_eq_true e
          refine ⟨.int ns[j], rfl, .inl ⟨2, _, rfl, rfl, .inl ⟨by decide, by decide⟩, 1, _, rfl, rfl, ?_⟩⟩
          exact tail (1 - 2 * ns[j]) _ _ (by omega)
        · have hpos : ¬ ns[j] < 0 := of_decide_eq_false (Bool.eq_false_iff.mpr e)
          exact tail ns[j] _ _ (by omega)
      · rintro σ' H1 ⟨y2, y3, y4, rfl, hk, ns, i, b, s, l, hne, hst, hsc, hi, hb, hs0, hs1, hl0, hl1⟩
        have hsc2 : ∀ o, (upd H1 st o) sc = some (.lst (ns.map V.int)) := fun o => by
          rw [upd_ne hne]; exact hsc
        refine ixv 2 rfl (SqL.of hst) rfl (.inl ⟨b, 0, rfl, rfl, _, rfl, ite2 (fun e => ?_) (fun e => ?_)⟩)
        · have hb1 : 0 < b := of_decide_eq_true e
          refine ixv 2 rfl (SqL.of hst) rfl (.inl (.inl ⟨b, rfl, .int m, rfl, b, m, rfl, rfl, by omega, ?_⟩))
          refine ixv 2 rfl (SqL.of hst) rfl ⟨.int m, rfl, b, m, rfl, rfl, wide_div (b := 60) (by omega) (by omega) (by decide) (by decide), .ref st, rfl, setv 2 hst (by simp) ?_⟩
          refine ⟨.int (b % m), rfl, q _ _ hk.put ⟨ns, i, b / m, s, l, hne, upd_same, hsc2 _, hi, Int.ediv_nonneg hb (by omega), hs0, hs1, hl0, hl1⟩ (Int.emod_nonneg _ (by omega)) (Int.emod_lt_of_pos _ (by omega))⟩
        · refine ixv 4 rfl (SqL.of hst) rfl (.inl ⟨l, 0, rfl, rfl, _, rfl, ite2 (fun e2 => ?_) (fun e2 => ?_)⟩)
          · have hl2 : 0 < l := of_decide_eq_true e2
            refine ixv 4 rfl (SqL.of hst) rfl ⟨l, 1, rfl, rfl, .ref st, rfl, setv 4 hst (by simp) ?_⟩
            have hA : (upd H1 st (.lst [.ref sc, .int i, .int b, .int s, .int (l - 1)])) st = some (.lst [.ref sc, .int i, .int b, .int s, .int (l - 1)]) := upd_same
            refine ixv 3 rfl (SqL.of hA) rfl (ixv 4 rfl (SqL.of hA) rfl (.inl ⟨2, l - 1, rfl, rfl, .inl ⟨by decide, by decide⟩, ?_⟩))
            refine .inl ⟨48271, _, rfl, rfl, .inl ⟨s, _, rfl, rfl, .inl ⟨by omega, by omega⟩, ?_⟩⟩
            refine .inl (.inl ⟨_, rfl, _, 2147483647, rfl, rfl, by (show (0 : Int) < _; decide), ?_⟩)
            have h4 := Int.emod_nonneg (s * (48271 + 2 * (l - 1))) (show (2147483647 : Int) ≠ 0 by decide)
            have h5 := Int.emod_lt_of_pos (s * (48271 + 2 * (l - 1))) (show (0 : Int) < 2147483647 by decide)
            refine ⟨.int (s * (48271 + 2 * (l - 1)) % 2147483647), rfl, ixv 4 rfl (SqL.of hA) rfl (.inl ⟨16807, l - 1, rfl, rfl, .inl ⟨_, _, rfl, rfl, .inl ⟨by omega, by omega⟩, ?_⟩⟩)⟩
            refine .inl (.inl ⟨_, rfl, _, 1000003, rfl, rfl, by (show (0 : Int) < _; decide), ?_⟩)
            refine ⟨_, rfl, .inl (.inl ⟨_, rfl, .int m, rfl, _, m, rfl, rfl, by omega, ?_⟩)⟩
            exact q _ _ hk.put ⟨ns, i, b, s, l - 1, hne, upd_same, hsc2 _, hi, hb, hs0, hs1, by omega, by omega⟩ (Int.emod_nonneg _ (by omega)) (Int.emod_lt_of_pos _ (by omega))
          · exact q _ _ hk ⟨ns, i, b, s, l, hne, hst, hsc, hi, hb, hs0, hs1, hl0, hl1⟩ (by omega) (by omega)
end
end K15


namespace K15
open PySem PySem.Spec PyProof.Rows L2
section
variable {P : Program} {w : World} {K : PySem.W.Frag} {mg : Str → Option Value} {base : Heap} {a : Ad}
def spState (K : PySem.W.Frag) : Sp := fun vs H Q _ => ∃ (p : Addr) (ns : List Int), vs = [.ref p] ∧ SqL K H p (ns.map V.int) ∧ ∀ H' st sc, H st = none → Same H H' → Sta sc H' st → Q (.ref st) H'
theorem same_upd {H : Hp} {p : Addr} {o : HO} (h : H p = none) : Same H (upd H p o) := fun b x e => by
  rw [upd_ne (ne_of_none e h)]
  exact e
theorem ok_state (T : Top K mg a) : FnOk P w K mg base CX0 1 a.f_l_state a.d_l_state ["_law_script"] (spState K) := by
  refine T.F_l_state.ok sc_l_state (fun vs H Q E h => ?_) (fun cdv A outer s H vs Q E hr h => ?_)
  · obtain ⟨st, m, rfl, _⟩ := h
    rfl
  · obtain ⟨p, ns, rfl, hS, q⟩ := h
    refine ⟨_, (pss_one (ps_ret (pe_lst (pa_cons (pe_callTy call_list_of (by rfl) T.z_list (by decide +kernel) (pa_cons (pv 0) pa_nil)) (pa_cons pe_int (pa_cons pe_int (pa_cons pe_int (pa_cons pe_int pa_nil)))))))), ?_⟩
    refine ⟨.ref p, rfl, p, _, rfl, .inl hS, fun sc nsc => ?_⟩
    refine ⟨by show 5 ≤ sizeLine; decide, fun st nst => ?_⟩
    have hne : sc ≠ st := fun e => by
      rw [← e, upd_same] at nst
      cases nst
    have n0 : H st = none := by
      rw [upd_ne (Ne.symm hne)] at nst
      exact nst
    refine q _ st sc n0 ((same_upd nsc).trans (same_upd nst)) ⟨ns, 0, 0, 0, 0, hne, upd_same, ?_, by omega, by omega, by omega, by decide, by omega, by omega⟩
    rw [upd_ne hne, upd_same]
/-! ### alike -/
theorem tyx_l {H : Hp} {p : Addr} {xs : List V} (h : SqL K H p xs) : TyX K H (.ref p) (.type "list") := by
  rcases h with (h | ⟨o, h⟩) | ⟨o, its, n, h, hc, _⟩
  · exact .base (.lst h)
  · exact .base (.frz h)
  · exact .kList h hc
theorem tyx_t {H : Hp} {p : Addr} {xs : List V} (h : SqT K H p xs) : TyX K H (.ref p) (.type "tuple") := by
  rcases h with (h | ⟨o, h⟩) | ⟨o, its, n, h, hc, _⟩
  · exact .base (.tup h)
  · exact .fTuple h
  · exact .kTuple h hc
/-- alike by one more layer -/
inductive SmS (K : PySem.W.Frag) (R : Hp → V → V → Prop) (H : Hp) : V → V → Prop where
  | non : SmS K R H .non .non
  | bl (b : Bool) : SmS K R H (.bl b) (.bl b)
  | int (i : Int) : SmS K R H (.int i) (.int i)
  | str (x : Str) : SmS K R H (.str x) (.str x)
  | lst {p q : Addr} {xs ys : List V} (hx : SqL K H p xs) (hy : SqL K H q ys) (l : xs.length = ys.length) (lt : xs.length ≤ 1000000) (r : ∀ (i : Nat) x y, xs[i]? = some x → ys[i]? = some y → R H x y) : SmS K R H (.ref p) (.ref q)
  | tup {p q : Addr} {xs ys : List V} (hx : SqT K H p xs) (hy : SqT K H q ys) (l : xs.length = ys.length) (lt : xs.length ≤ 1000000) (r : ∀ (i : Nat) x y, xs[i]? = some x → ys[i]? = some y → R H x y) : SmS K R H (.ref p) (.ref q)
def Sm (K : PySem.W.Frag) : Nat → Hp → V → V → Prop
  | 0 => fun _ _ _ => False
  | n + 1 => SmS K (Sm K n)
def spAl (R : Hp → V → V → Prop) : Sp := fun vs H Q _ => ∃ x y, vs = [x, y] ∧ R H x y ∧ Q (.bl true) H
theorem isiv {K : PySem.W.Frag} {σ : L2.St} {H : Hp} {i : Nat} {x : V} {t c : String} {b : Bool} {Q : VK} (h0 : σ[i]? = some (some x)) (ht : TyX K H x (.type t)) (hb : kitB t c = some b) (q : Q (.bl b) H) : tCB (rIsi K) (tCons (tVar i) (tCons (tC (.ty c)) tNil)) σ H Q :=
  ⟨x, h0, x, .ty c, .type t, .type c, b, rfl, .ty _, ht, kit_ty hb, q⟩
theorem isit {K : PySem.W.Frag} {σ : L2.St} {H : Hp} {i : Nat} {x : V} {t c : String} {b : Bool} {Q : Bool → Hp → Prop} (h0 : σ[i]? = some (some x)) (ht : TyX K H x (.type t)) (hb : kitB t c = some b) (q : Q b H) : tB (tCB (rIsi K) (tCons (tVar i) (tCons (tC (.ty c)) tNil))) σ H Q :=
  isiv h0 ht hb ⟨b, rfl, q⟩
theorem al_step {k : Nat} {R : Hp → V → V → Prop} (T : Top K mg a) (G_l_alike : FnOk P w K mg base CX0 k a.f_l_alike a.d_l_alike ["_law_actual", "_law_due"] (spAl R)) : FnOk P w K mg base CX0 (k + 1) a.f_l_alike a.d_l_alike ["_law_actual", "_law_due"] (spAl (SmS K R)) := by
  refine T.F_l_alike.ok sc_l_alike (fun vs H Q E h => ?_) (fun cdv A outer s H vs Q E hr h => ?_)
  · obtain ⟨x, y, rfl, _⟩ := h
    rfl
  · obtain ⟨x, y, rfl, S, q⟩ := h
    refine ⟨_, (pss_cons (ps_if (pt_cmpR op_isN (pv 1) pe_non (nomark _))
      (pss_one (ps_ret (pe_cmpR op_isN (pv 0) pe_non (nomark _))))
      pss_nil)
    (pss_cons (ps_if (PW.pt (pw_or (pt_val (pe_callB call_isi (by rfl) T.z_isinstance (by decide +kernel) (pa_cons (pv 1) (pa_cons (pe_bltn (v := .ty "bool") (by rfl) T.z_bool (by decide +kernel) rfl) pa_nil)))) (pw_or1 (pt_val (pe_callB call_isi (by rfl) T.z_isinstance (by decide +kernel) (pa_cons (pv 0) (pa_cons (pe_bltn (v := .ty "bool") (by rfl) T.z_bool (by decide +kernel) rfl) pa_nil)))))))
      (pss_one (ps_ret (pe_and (pe_callB call_isi (by rfl) T.z_isinstance (by decide +kernel) (pa_cons (pv 1) (pa_cons (pe_bltn (v := .ty "bool") (by rfl) T.z_bool (by decide +kernel) rfl) pa_nil))) (pe_and (pe_callB call_isi (by rfl) T.z_isinstance (by decide +kernel) (pa_cons (pv 0) (pa_cons (pe_bltn (v := .ty "bool") (by rfl) T.z_bool (by decide +kernel) rfl) pa_nil))) (pe_one (pe_cmpR (OpR.or op_eq (op_eqD hr.units)) (pv 0) (pv 1) (nomark _)))))))
      pss_nil)
    (pss_cons (ps_if (pt_val (pe_callB call_isi (by rfl) T.z_isinstance (by decide +kernel) (pa_cons (pv 1) (pa_cons (pe_bltn (v := .ty "int") (by rfl) T.z_int (by decide +kernel) rfl) pa_nil))))
      (pss_one (ps_ret (pe_and (pe_callB call_isi (by rfl) T.z_isinstance (by decide +kernel) (pa_cons (pv 0) (pa_cons (pe_bltn (v := .ty "int") (by rfl) T.z_int (by decide +kernel) rfl) pa_nil))) (pe_one (pe_cmpR (OpR.or op_eq (op_eqD hr.units)) (pv 0) (pv 1) (nomark _))))))
      pss_nil)
    (pss_cons (ps_if (pt_val (pe_callB call_isi (by rfl) T.z_isinstance (by decide +kernel) (pa_cons (pv 1) (pa_cons (pe_bltn (v := .ty "str") (by rfl) T.z_str (by decide +kernel) rfl) pa_nil))))
      (pss_one (ps_ret (pe_and (pe_callB call_isi (by rfl) T.z_isinstance (by decide +kernel) (pa_cons (pv 0) (pa_cons (pe_bltn (v := .ty "str") (by rfl) T.z_str (by decide +kernel) rfl) pa_nil))) (pe_one (pe_cmpR (OpR.or op_eq (op_eqD hr.units)) (pv 0) (pv 1) (nomark _))))))
      pss_nil)
    (pss_cons (ps_if (pt_val (pe_callB call_isi (by rfl) T.z_isinstance (by decide +kernel) (pa_cons (pv 1) (pa_cons (pe_bltn (v := .ty "list") (by rfl) T.z_list (by decide +kernel) rfl) pa_nil))))
      (pss_one (ps_if (pt_not (pt_val (pe_callB call_isi (by rfl) T.z_isinstance (by decide +kernel) (pa_cons (pv 0) (pa_cons (pe_bltn (v := .ty "list") (by rfl) T.z_list (by decide +kernel) rfl) pa_nil)))))
        (pss_one (ps_ret pe_bl))
        pss_nil))
      (pss_one (ps_if (pt_not (pt_val (pe_callB call_isi (by rfl) T.z_isinstance (by decide +kernel) (pa_cons (pv 0) (pa_cons (pe_bltn (v := .ty "tuple") (by rfl) T.z_tuple (by decide +kernel) rfl) pa_nil)))))
        (pss_one (ps_ret pe_bl))
        pss_nil)))
    (pss_cons (ps_if (pt_cmpR (OpR.or op_ne (op_neD hr.units)) (pe_callB (CallR.or call_len_str call_len_seq) (by rfl) T.z_len (by decide +kernel) (pa_cons (pv 0) pa_nil)) (pe_callB (CallR.or call_len_str call_len_seq) (by rfl) T.z_len (by decide +kernel) (pa_cons (pv 1) pa_nil)) (nomark _))
      (pss_one (ps_ret pe_bl))
      pss_nil)
    (pss_cons (ps_for PassesOwn.never rfl (pi_range1 (by rfl) T.z_range (pa_cons (pe_callB (CallR.or call_len_str call_len_seq) (by rfl) T.z_len (by decide +kernel) (pa_cons (pv 1) pa_nil)) pa_nil)) (pg_name (i := 2) sc_l_alike.nd rfl (.inl rfl))
      (pss_one (ps_if (pt_not (pt_val (pe_call G_l_alike hr (by rfl) T.m_l_alike T.F_l_alike.kp T.b_l_alike .nil pass0 (pa_cons (pe_ix ix_seq (pv 0) (pv 2) (fun _ _ => rfl)) (pa_cons (pe_ix ix_seq (pv 1) (pv 2) (fun _ _ => rfl)) pa_nil)))))
        (pss_one (ps_ret pe_bl))
        pss_nil)))
    (pss_one (ps_ret pe_bl))))))))), ?_⟩
    cases S with
    | non => exact ⟨_, rfl, rfl, _, rfl, iteT ⟨_, rfl, rfl, q⟩⟩
    | bl b =>
      refine ⟨_, rfl, rfl, _, rfl, iteF ?_⟩
      refine isit rfl (.base (.bl b)) (b := true) (by decide +kernel) ?_
      refine isit rfl (.base (.bl b)) (b := true) (by decide +kernel) ?_
      refine isit rfl (.base (.bl b)) (b := true) (by decide +kernel) ?_
      refine ⟨_, rfl, _, rfl, .inl ⟨rfl, ?_⟩⟩
      rw [decide_eq_true rfl]
      exact q
    | int i =>
      refine ⟨_, rfl, rfl, _, rfl, iteF ?_⟩
      refine isit rfl (.base (.int i)) (b := false) (by decide +kernel) ?_
      refine isit rfl (.base (.int i)) (b := false) (by decide +kernel) ?_
      refine isit rfl (.base (.int i)) (b := true) (by decide +kernel) ?_
      refine isit rfl (.base (.int i)) (b := true) (by decide +kernel) ?_
      refine ⟨_, rfl, _, rfl, .inl ⟨rfl, ?_⟩⟩
      rw [decide_eq_true rfl]
      exact q
    | str z =>
      refine ⟨_, rfl, rfl, _, rfl, iteF ?_⟩
      refine isit rfl (.base (.str z)) (b := false) (by decide +kernel) ?_
      refine isit rfl (.base (.str z)) (b := false) (by decide +kernel) ?_
      refine isit rfl (.base (.str z)) (b := false) (by decide +kernel) ?_
      refine isit rfl (.base (.str z)) (b := true) (by decide +kernel) ?_
      refine isit rfl (.base (.str z)) (b := true) (by decide +kernel) ?_
      refine ⟨_, rfl, _, rfl, .inl ⟨rfl, ?_⟩⟩
      rw [decide_eq_true rfl]
      exact q
    | @lst p p' xs ys hx hy l lt r =>
      refine ⟨_, rfl, rfl, _, rfl, iteF ?_⟩
      refine isit rfl (tyx_l hy) (b := false) (by decide +kernel) ?_
      refine isit rfl (tyx_l hx) (b := false) (by decide +kernel) ?_
      refine isit rfl (tyx_l hy) (b := false) (by decide +kernel) ?_
      refine isit rfl (tyx_l hy) (b := false) (by decide +kernel) ?_
      refine isit rfl (tyx_l hy) (b := true) (by decide +kernel) ?_
      refine isit rfl (tyx_l hx) (b := true) (by decide +kernel) ?_
      refine ⟨_, rfl, .inr ⟨p, xs, rfl, .inl hx, _, rfl, .inr ⟨p', ys, rfl, .inl hy, .inl ⟨rfl, _, rfl, ?_⟩⟩⟩⟩
      rw [l]
      refine iteNS rfl ?_
      refine ⟨_, rfl, .inr ⟨p', ys, rfl, .inl hy, _, rfl, by omega, by omega, for_range (lo := 0) (n := ys.length) (fun i σ' H' => ∃ y2, σ' = [some (.ref p), some (.ref p'), y2] ∧ H' = H) ⟨_, rfl, rfl⟩ ?_ ?_⟩⟩
      · rintro i σ' H' hi ⟨y2, rfl, rfl⟩
        have h1 : xs[i]? = some xs[i] := List.getElem?_eq_getElem (by omega)
        have h2 : ys[i]? = some ys[i] := List.getElem?_eq_getElem hi
        rw [Int.zero_add]
        refine ⟨_, rfl, _, rfl, .inl ⟨p, xs, i, xs[i], rfl, rfl, hx, atI_nat h1, ?_⟩⟩
        refine ⟨_, rfl, _, rfl, .inl ⟨p', ys, i, ys[i], rfl, rfl, hy, atI_nat h2, ?_⟩⟩
        exact ⟨_, _, rfl, r i _ _ h1 h2, _, rfl, _, rfl, rfl⟩
      · rintro σ' H' ⟨y2, rfl, rfl⟩
        exact q
    | @tup p p' xs ys hx hy l lt r =>
      refine ⟨_, rfl, rfl, _, rfl, iteF ?_⟩
      refine isit rfl (tyx_t hy) (b := false) (by decide +kernel) ?_
      refine isit rfl (tyx_t hx) (b := false) (by decide +kernel) ?_
      refine isit rfl (tyx_t hy) (b := false) (by decide +kernel) ?_
      refine isit rfl (tyx_t hy) (b := false) (by decide +kernel) ?_
      refine isit rfl (tyx_t hy) (b := false) (by decide +kernel) ?_
      refine isit rfl (tyx_t hx) (b := true) (by decide +kernel) ?_
      refine ⟨_, rfl, .inr ⟨p, xs, rfl, .inr hx, _, rfl, .inr ⟨p', ys, rfl, .inr hy, .inl ⟨rfl, _, rfl, ?_⟩⟩⟩⟩
      rw [l]
      refine iteNS rfl ?_
      refine ⟨_, rfl, .inr ⟨p', ys, rfl, .inr hy, _, rfl, by omega, by omega, for_range (lo := 0) (n := ys.length) (fun i σ' H' => ∃ y2, σ' = [some (.ref p), some (.ref p'), y2] ∧ H' = H) ⟨_, rfl, rfl⟩ ?_ ?_⟩⟩
      · rintro i σ' H' hi ⟨y2, rfl, rfl⟩
        have h1 : xs[i]? = some xs[i] := List.getElem?_eq_getElem (by omega)
        have h2 : ys[i]? = some ys[i] := List.getElem?_eq_getElem hi
        rw [Int.zero_add]
        refine ⟨_, rfl, _, rfl, .inr (.inl ⟨p, xs, i, xs[i], rfl, rfl, hx, atI_nat h1, ?_⟩)⟩
        refine ⟨_, rfl, _, rfl, .inr (.inl ⟨p', ys, i, ys[i], rfl, rfl, hy, atI_nat h2, ?_⟩)⟩
        exact ⟨_, _, rfl, r i _ _ h1 h2, _, rfl, _, rfl, rfl⟩
      · rintro σ' H' ⟨y2, rfl, rfl⟩
        exact q
theorem ok_alike (T : Top K mg a) : ∀ n, FnOk P w K mg base CX0 n a.f_l_alike a.d_l_alike ["_law_actual", "_law_due"] (spAl (Sm K n))
  | 0 => ⟨fun vs H Q E h => by
      obtain ⟨x, y, rfl, h, _⟩ := h
      exact h.elim, fun A outer s H args us vs Q E hr he hb hv h => by
      obtain ⟨x, y, rfl, h, _⟩ := h
      exact h.elim⟩
  | n + 1 => al_step T (ok_alike T n)
end
end K15

/-! atoms and literals as data -/
namespace K15
open PySem PySem.Spec PyProof.Rows L2 RN
mutual
def wl : PyData → Nat
  | .list ds => ds.length + wlAll ds
  | .tuple ds => ds.length + wlAll ds
  | .none => 0
  | .bool _ => 0
  | .int _ => 0
  | .str _ => 0
  | .dict _ => 0
def wlAll : List PyData → Nat
  | [] => 0
  | d :: ds => wl d + wlAll ds
end
def sg (sh k : Nat) : Str := ⟨#[97 + (k + sh) % 6]⟩
def eA (st sh k : Nat) : PyData :=
  if k = 6 then .tuple [.str "", .str "size", .int 2]
  else if st = 0 then .tuple [.str "o", .str "word", .str (sg sh k ++ toString (9 - (k : Int)))]
  else if st = 1 then .tuple [.str (sg sh k), .str "word", .str "w"]
  else if st = 2 then .tuple [.str "t", .str "below", .str "x", .str (sg sh k)]
  else if st = 3 then .tuple [.str (sg sh k ++ "1"), .str "turn", .str "x", .str "y", .int ((k : Int) % 3)]
  else if st = 4 then .tuple [.str "", .str "same", .str (sg sh k), .str "x"]
  else .tuple [.str "u", .str "equal", .tuple [.str (sg sh k)], .tuple [.str "g", .tuple [.str "x"]]]
/-- what is asked of seven atoms, the last one of another form -/
structure AtOk (e : Nat → PyData) : Prop where
  tup : ∀ k, k < 7 → ∃ x ds, e k = .tuple (x :: ds)
  kb : ∀ k, k < 7 → kb (e k) = true
  dep : ∀ k, k < 7 → (nk (e k)).depth ≤ 6 ∧ (e k).depth ≤ 20
  cl : ∀ k, k < 7 → (e k).canLay0 = true
  inj : ∀ j k, j < 7 → k < 7 → NestedKey.beq (nk (e j)) (nk (e k)) = decide (j = k)
  eqv : ∀ j k, j < 7 → k < 7 → PyData.eqv (e j) (e k) = decide (j = k)
  al : ∀ j k, j < 6 → k < 6 → PySem.W.alike (e j) (e k) = true
  wt : ∀ k, k < 7 → wl (e k) ≤ 100
  six : e 6 = .tuple [.str "", .str "size", .int 2]
theorem at_wt : (List.range 6).all (fun st => (List.range 6).all fun sh => (List.range 7).all fun j => decide (wl (eA st sh j) ≤ 100)) = true := by decide +kernel
def tupB : PyData → Bool
  | .tuple (_ :: _) => true
  | _ => false
theorem at_all : (List.range 6).all (fun st => (List.range 6).all fun sh => (List.range 7).all fun j => tupB (eA st sh j) && kb (eA st sh j) && decide ((nk (eA st sh j)).depth ≤ 6) && decide ((eA st sh j).depth ≤ 20) && (eA st sh j).canLay0 && (List.range 7).all fun k =>
    (NestedKey.beq (nk (eA st sh j)) (nk (eA st sh k)) == decide (j = k)) && (PyData.eqv (eA st sh j) (eA st sh k) == decide (j = k)) && (decide (j = 6) || decide (k = 6) || PySem.W.alike (eA st sh j) (eA st sh k))) = true := by decide +kernel
theorem at_ok {st sh : Nat} (h1 : st < 6) (h2 : sh < 6) : AtOk (eA st sh) := by
  have g := List.all_eq_true.mp (List.all_eq_true.mp at_all st (List.mem_range.mpr h1)) sh (List.mem_range.mpr h2)
  have g1 := fun j (hj : j < 7) => List.all_eq_true.mp g j (List.mem_range.mpr hj)
  simp only [Bool.and_eq_true, decide_eq_true_eq, beq_iff_eq, Bool.or_eq_true, List.all_eq_true, List.mem_range] at g1
  refine ⟨fun k hk => ?_, fun k hk => (g1 k hk).1.1.1.1.2, fun k hk => ⟨(g1 k hk).1.1.1.2, (g1 k hk).1.1.2⟩, fun k hk => (g1 k hk).1.2, fun j k hj hk => ((g1 j hj).2 k hk).1.1, fun j k hj hk => ((g1 j hj).2 k hk).1.2, fun j k hj hk => ?_, fun k hk => ?_, by unfold eA; rw [if_pos rfl]⟩
  · have := (g1 k hk).1.1.1.1.1
    revert this
    cases eA st sh k with
    | tuple xs => cases xs with
      | nil => intro h; cases h
      | cons x ds => exact fun _ => ⟨x, ds, rfl⟩
    | _ => intro h; cases h
  · rcases ((g1 j (by omega)).2 k (by omega)).2 with (h | h) | h
    · omega
    · omega
    · exact h
  · exact of_decide_eq_true (List.all_eq_true.mp (List.all_eq_true.mp (List.all_eq_true.mp at_wt st (List.mem_range.mpr h1)) sh (List.mem_range.mpr h2)) k (List.mem_range.mpr hk))
/-! ### literals -/
def eL (e : Nat → PyData) (l : Lt) : PyData := .tuple [e l.1, .bool l.2]
section
variable {e : Nat → PyData} {K : PySem.W.Frag} {H H' : Hp}
theorem b01 (b c : Bool) : ((if b = true then (1 : Int) else 0) = if c = true then 1 else 0) ↔ b = c := by cases b <;> cases c <;> decide
theorem eL_kb (A : AtOk e) {l : Lt} (h : l.1 < 7) : RN.kb (eL e l) = true := by
  show (RN.kb (e l.1) && (true && true)) = true
  rw [A.kb _ h]; rfl
theorem eL_dep (A : AtOk e) {l : Lt} (h : l.1 < 7) : (nk (eL e l)).depth ≤ 8 := by
  have := (A.dep _ h).1
  show max (nk (e l.1)).depth (max 0 0) + 1 ≤ 8
  omega
theorem eL_cl (A : AtOk e) {l : Lt} (h : l.1 < 7) : (eL e l).canLay0 = true := by
  show ((e l.1).canLay0 && (true && true)) = true
  rw [A.cl _ h]; rfl
theorem eL_d (A : AtOk e) {l : Lt} (h : l.1 < 7) : (eL e l).depth ≤ 21 := by
  have := (A.dep _ h).2
  show max (e l.1).depth (max 0 0) + 1 ≤ 21
  omega
theorem eL_shaped (A : AtOk e) {l : Lt} (h : l.1 < 7) : SeqAt.shaped (eL e l) = true := by
  unfold SeqAt.shaped
  rw [eL_cl A h, decide_eq_true (by have := eL_d A h; omega)]; rfl
theorem eL_inj (A : AtOk e) {l m : Lt} (hl : l.1 < 7) (hm : m.1 < 7) (h : nk (eL e l) = nk (eL e m)) : l = m := by
  have h2 : NestedKey.tup [nk (e l.1), .num (if l.2 = true then 1 else 0)] = NestedKey.tup [nk (e m.1), .num (if m.2 = true then 1 else 0)] := h
  injection h2 with h2
  injection h2 with h3 h4
  injection h4 with h4 _
  injection h4 with h4
  have q := A.inj l.1 m.1 hl hm
  rw [h3, NestedKey.beq_self] at q
  exact Prod.ext (of_decide_eq_true q.symm) ((b01 _ _).mp h4)
theorem eL_eqv (A : AtOk e) {l m : Lt} (hl : l.1 < 7) (hm : m.1 < 7) : PyData.eqv (eL e l) (eL e m) = decide (l = m) := by
  show (PyData.eqv (e l.1) (e m.1) && ((l.2 == m.2) && true)) = decide (l = m)
  rw [A.eqv _ _ hl hm]
  obtain ⟨a, b⟩ := l
  obtain ⟨c, d⟩ := m
  by_cases h1 : a = c
  · subst h1
    by_cases h2 : b = d
    · subst h2; simp
    · have : (b == d) = false := by simpa using h2
      simp [this, h2]
  · simp [h1]
theorem eL_al (A : AtOk e) {l m : Lt} (hl : l.1 < 6) (hm : m.1 < 6) : PySem.W.alike (eL e l) (eL e m) = true := by
  show (PySem.W.alike (e l.1) (e m.1) && (PySem.W.alike (.bool l.2) (.bool m.2) && PySem.W.alikeAll [] [])) = true
  rw [A.al _ _ hl hm]
  simp [PySem.W.alike, PySem.W.alikeAll]
/-- a literal at x -/
def Li (e : Nat → PyData) (K : PySem.W.Frag) (H : Hp) (x : V) (l : Lt) : Prop := Dp K H x (eL e l)
theorem Li.tk (A : AtOk e) {x : V} {l : Lt} (h7 : l.1 < 7) (t : Tk H H') (h : Li e K H x l) : Li e K H' x l := dp_tk t _ _ h (eL_kb A h7)
theorem al_tk (A : AtOk e) {xs : List V} {ls : List Lt} (h7 : ∀ l ∈ ls, l.1 < 7) (t : Tk H H') (h : R1.Al (Li e K H) xs ls) : R1.Al (Li e K H') xs ls :=
  ⟨h.1, fun i x l a b => (h.2 i x l a b).tk A (h7 l (List.mem_of_getElem? b)) t⟩
theorem al_dps {κ : Type} {enc : κ → PyData} : ∀ {xs : List V} {ls : List κ}, R1.Al (fun x l => Dp K H x (enc l)) xs ls → DpAll K H xs (ls.map enc)
  | [], [], _ => .nil
  | [], _ :: _, h => by have := h.1; simp at this
  | _ :: _, [], h => by have := h.1; simp at this
  | x :: xs, l :: ls, h => .cons (h.2 0 x l rfl rfl) (al_dps ⟨Nat.succ.inj h.1, fun i y m a b => h.2 (i + 1) y m (by simpa using a) (by simpa using b)⟩)
theorem any_eL (A : AtOk e) {l : Lt} (hl : l.1 < 7) : ∀ {ls : List Lt}, (∀ m ∈ ls, m.1 < 7) → (ls.map (eL e)).any (fun z => PyData.eqv z (eL e l)) = decide (l ∈ ls)
  | [], _ => by simp
  | m :: ls, h => by
    rw [List.map_cons, List.any_cons, any_eL A hl (fun x hx => h x (List.mem_cons_of_mem _ hx)), eL_eqv A (h m List.mem_cons_self) hl]
    by_cases q : m = l
    · simp [q]
    · have q2 : l ≠ m := fun z => q z.symm
      simp [q, q2]
theorem cls_cl (A : AtOk e) : ∀ {ls : List Lt}, (∀ m ∈ ls, m.1 < 7) → PyData.canLayAll0 (ls.map (eL e)) = true ∧ PyData.depthAll (ls.map (eL e)) ≤ 21
  | [], _ => ⟨rfl, by show (0 : Nat) ≤ 21; decide⟩
  | m :: ls, h => by
    obtain ⟨a, b⟩ := cls_cl A (ls := ls) (fun x hx => h x (List.mem_cons_of_mem _ hx))
    have h7 := h m List.mem_cons_self
    refine ⟨?_, ?_⟩
    · show ((eL e m).canLay0 && PyData.canLayAll0 (ls.map (eL e))) = true
      rw [eL_cl A h7, a]; rfl
    · have := eL_d A h7
      show max (eL e m).depth (PyData.depthAll (ls.map (eL e))) ≤ 21
      omega
theorem list_shaped (A : AtOk e) {ls : List Lt} (h : ∀ m ∈ ls, m.1 < 7) : SeqAt.shaped (.list (ls.map (eL e))) = true := by
  obtain ⟨a, b⟩ := cls_cl A h
  have c : (PyData.list (ls.map (eL e))).depth ≤ 64 := by
    show PyData.depthAll (ls.map (eL e)) + 1 ≤ 64
    omega
  unfold SeqAt.shaped
  rw [show (PyData.list (ls.map (eL e))).canLay0 = true from a, decide_eq_true c]; rfl
theorem list_eqv (A : AtOk e) : ∀ {ls ms : List Lt}, (∀ m ∈ ls, m.1 < 7) → (∀ m ∈ ms, m.1 < 7) → PyData.eqvAll (ls.map (eL e)) (ms.map (eL e)) = decide (ls = ms)
  | [], [], _, _ => by simp [PyData.eqvAll]
  | [], _ :: _, _, _ => by simp [PyData.eqvAll]
  | _ :: _, [], _, _ => by simp [PyData.eqvAll]
  | l :: ls, m :: ms, h, g => by
    rw [List.map_cons, List.map_cons, PyData.eqvAll, eL_eqv A (h l List.mem_cons_self) (g m List.mem_cons_self), list_eqv A (fun x hx => h x (List.mem_cons_of_mem _ hx)) fun x hx => g x (List.mem_cons_of_mem _ hx)]
    by_cases q : l = m
    · subst q
      by_cases r : ls = ms
      · simp [r]
      · simp [r]
    · simp [q]
/-! ### sorting -/
theorem sort_ok (A : AtOk e) {ls : List Lt} (h : ∀ m ∈ ls, m.1 < 6) : PySem.W.AllAlike (ls.map (eL e)) ∧ PySem.W.Sortable (ls.map (eL e)) ∧ R0.DepLe 60 (ls.map (eL e)) := by
  refine ⟨fun d hd d' hd' => ?_, .inl fun d hd => ?_, fun d hd => ?_⟩
  · obtain ⟨l, hl, rfl⟩ := List.mem_map.mp hd
    obtain ⟨m, hm, rfl⟩ := List.mem_map.mp hd'
    exact eL_al A (h l hl) (h m hm)
  · obtain ⟨l, hl, rfl⟩ := List.mem_map.mp hd
    exact ⟨_, _, rfl⟩
  · obtain ⟨l, hl, rfl⟩ := List.mem_map.mp hd
    have := eL_d A (l := l) (by have := h l hl; omega)
    omega
theorem toks_eq {x y : PyData} (al : PySem.W.alike x y = true) (h : PySem.W.keyToks x = PySem.W.keyToks y) : PyData.eqv x y = true := by
  cases e : PyData.eqv x y with
  | true => rfl
  | false =>
    have := (PySem.W.toks_eqv x y al).2 e [] [.inl 0]
    rw [h, PySem.W.lex_pre, lex_irrefl] at this
    cases this
def srt (e : Nat → PyData) (ls : List Lt) : List Lt := R1.sortK (eL e) ls
theorem srt_perm (ls : List Lt) : (srt e ls).Perm ls := List.mergeSort_perm ls _
theorem srt_same (A : AtOk e) {l m : List Lt} (h6 : ∀ x ∈ l, x.1 < 6) (h : l.Perm m) : srt e l = srt e m := by
  have T : PySem.W.TotalLe (PySem.W.dataLe false (eL e)) := PySem.W.sortLe_total (listOrd itemOrd) false fun b => PySem.W.keyToks (eL e b)
  refine List.Perm.eq_of_pairwise (le := fun a b => PySem.W.dataLe false (eL e) a b = true) (fun a b ha hb h1 h2 => ?_) (PySem.W.sort_pairwise T l) (PySem.W.sort_pairwise T m) ((srt_perm l).trans (h.trans (srt_perm m).symm))
  have g1 : (!lexLt itemOrd (PySem.W.keyToks (eL e b)) (PySem.W.keyToks (eL e a))) = true := h1
  have g2 : (!lexLt itemOrd (PySem.W.keyToks (eL e a)) (PySem.W.keyToks (eL e b))) = true := h2
  have a6 := h6 a ((srt_perm l).mem_iff.mp ha)
  have b6 := h6 b (h.mem_iff.mpr ((srt_perm m).mem_iff.mp hb))
  have q := toks_eq (eL_al A a6 b6) (lex_total _ _ (by simpa using g2) (by simpa using g1))
  rw [eL_eqv A (by omega) (by omega)] at q
  exact of_decide_eq_true q
end
/-! ### alike of equal data -/
theorem dps_le {K : PySem.W.Frag} {H : Hp} : ∀ {ds : List PyData} {xs : List V}, DpAll K H xs ds → xs.length = ds.length
  | [], _, h => by cases h; rfl
  | d :: ds, _, h => by
    cases h with
    | cons a b => rw [List.length_cons, List.length_cons, dps_le b]
mutual
theorem sm_dp {K : PySem.W.Frag} {H : Hp} : ∀ (d : PyData) (n : Nat) (x y : V), Dp K H x d → Dp K H y d → d.depth < n → wl d ≤ 1000000 → Sm K n H x y
  | _, 0, _, _, _, _, h, _ => absurd h (Nat.not_lt_zero _)
  | .none, n + 1, _, _, hx, hy, _, _ => by cases hx; cases hy; exact .non
  | .bool _, n + 1, _, _, hx, hy, _, _ => by cases hx; cases hy; exact .bl _
  | .int _, n + 1, _, _, hx, hy, _, _ => by cases hx; cases hy; exact .int _
  | .str _, n + 1, _, _, hx, hy, _, _ => by cases hx; cases hy; exact .str _
  | .list ds, n + 1, _, _, hx, hy, hd, hw => by
    cases hx with
    | lst hp ha =>
      cases hy with
      | lst hq hb =>
        have hd' : PyData.depthAll ds + 1 < n + 1 := hd
        have hw' : ds.length + wlAll ds ≤ 1000000 := hw
        obtain ⟨l1, f⟩ := sm_dps ds n _ _ ha hb (by omega) (by omega)
        exact .lst hp hq l1 (by rw [dps_le ha]; omega) f
  | .tuple ds, n + 1, _, _, hx, hy, hd, hw => by
    cases hx with
    | tup hp ha =>
      cases hy with
      | tup hq hb =>
        have hd' : PyData.depthAll ds + 1 < n + 1 := hd
        have hw' : ds.length + wlAll ds ≤ 1000000 := hw
        obtain ⟨l1, f⟩ := sm_dps ds n _ _ ha hb (by omega) (by omega)
        exact .tup hp hq l1 (by rw [dps_le ha]; omega) f
  | .dict _, n + 1, _, _, hx, _, _, _ => by cases hx
theorem sm_dps {K : PySem.W.Frag} {H : Hp} : ∀ (ds : List PyData) (n : Nat) (xs ys : List V), DpAll K H xs ds → DpAll K H ys ds → PyData.depthAll ds < n → wlAll ds ≤ 1000000 →
    xs.length = ys.length ∧ ∀ (i : Nat) x y, xs[i]? = some x → ys[i]? = some y → Sm K n H x y
  | [], _, _, _, ha, hb, _, _ => by cases ha; cases hb; exact ⟨rfl, fun i x y h => by simp at h⟩
  | d :: ds, n, _, _, ha, hb, hd, hw => by
    cases ha with
    | cons a1 a2 =>
      cases hb with
      | cons b1 b2 =>
        have hd' : max (PyData.depth d) (PyData.depthAll ds) < n := hd
        have hw' : wl d + wlAll ds ≤ 1000000 := hw
        obtain ⟨l1, f⟩ := sm_dps ds n _ _ a2 b2 (by omega) (by omega)
        refine ⟨by simp [l1], fun i x y hx hy => ?_⟩
        cases i with
        | zero => cases hx; cases hy; exact sm_dp d n _ _ a1 b1 (by omega) (by omega)
        | succ i => exact f i x y (by simpa using hx) (by simpa using hy)
end
end K15


/-! the negation, what is left of a clause -/
namespace K15
open PySem PySem.Spec PyProof.Rows L2 RN
theorem Same.mut {H H' : Hp} {p : Addr} {o : HO} (e : Same H H') (h : H p = none) : Same H (upd H' p o) := fun b u hb => by
  rw [upd_ne (ne_of_none hb h)]
  exact e b u hb
theorem Kp.same {st : Addr} {H H1 H2 : Hp} (k : Kp st H H1) (h : Same H1 H2) : Kp st H H2 := fun b o n e => h _ _ (k b o n e)
theorem Kp.new {st p : Addr} {H H' : Hp} {o : HO} (k : Kp st H H') (h : H' p = none) : Kp st H (upd H' p o) := fun b u n e => by
  have := k b u n e
  rw [upd_ne (ne_of_none this h)]
  exact this
theorem Kp.mut {st p : Addr} {H H' : Hp} {o : HO} (k : Kp st H H') (h : H p = none) : Kp st H (upd H' p o) := fun b u n e => by
  rw [upd_ne (ne_of_none e h)]
  exact k b u n e
theorem u16 {A : Around} {k : Nat} (hr : Room k A) : A.units + 16 < cLine := by have := hr.un; omega
theorem u65 {A : Around} {k : Nat} (hr : Room k A) : A.units + 65 < cLine := by have := hr.un; omega
theorem u80 {A : Around} {k : Nat} (hr : Room k A) : A.units + 80 < cLine := by have := hr.un; omega
theorem op_notInDK {X : Cx} {K : PySem.W.Frag} (hu : X.A.units + 65 < cLine) (hK : X.K = K) : OpR X (compareOp .NotIn) (rNotInD K) := by subst hK; exact op_notInD hu
theorem op_inDK {X : Cx} {K : PySem.W.Frag} (hu : X.A.units + 65 < cLine) (hK : X.K = K) : OpR X (compareOp .In) (rInD K) := by subst hK; exact op_inD hu
section
variable {P : Program} {w : World} {K : PySem.W.Frag} {mg : Str → Option Value} {base : Heap} {a : Ad} {e : Nat → PyData}
theorem Same.tk {H H' : Hp} (h : Same H H') : Tk H H' := tk_all h
theorem li_split {H : Hp} {x : V} {l : Lt} (h : Li e K H x l) : ∃ p u, x = .ref p ∧ SqT K H p [u, .bl l.2] ∧ Dp K H u (e l.1) := by
  unfold Li eL at h
  cases h with
  | tup hs ha =>
    cases ha with
    | cons h1 h2 =>
      cases h2 with
      | cons h3 h4 =>
        cases h4
        cases h3
        exact ⟨_, _, rfl, hs, h1⟩
theorem li_mk {H : Hp} {p : Addr} {u : V} {l : Lt} (h : SqT K H p [u, .bl l.2]) (h2 : Dp K H u (e l.1)) : Li e K H (.ref p) l := .tup h (.cons h2 (.cons (.bl _) .nil))
def spNeg (e : Nat → PyData) (K : PySem.W.Frag) : Sp := fun vs H Q _ => ∃ (x : V) (l : Lt), vs = [x] ∧ l.1 < 7 ∧ Li e K H x l ∧ ∀ r H', H r = none → Same H H' → Li e K H' (.ref r) (ng l) → Q (.ref r) H'
theorem ok_neg (A : AtOk e) (T : Top K mg a) : FnOk P w K mg base CX0 1 a.f_negated a.d_negated ["literal"] (spNeg e K) := by
  refine T.F_negated.ok sc_negated (fun vs H Q E h => ?_) (fun cdv A' outer s H vs Q E hr h => ?_)
  · obtain ⟨x, l, rfl, _⟩ := h
    rfl
  · obtain ⟨x, l, rfl, h7, hx, q⟩ := h
    refine ⟨_, (pss_cons (ps_asg (pv 0) (pg_tup rfl (pgs_cons (pg_name (i := 1) sc_negated.nd rfl (.inl rfl)) (pgs_cons (pg_name (i := 2) sc_negated.nd rfl (.inl rfl)) pgs_nil))))
    (pss_one (ps_ret (pe_tup (pa_cons (pv 1) (pa_cons (pe_not (pv 2)) pa_nil)))))), ?_⟩
    obtain ⟨p, u, rfl, hp, hu⟩ := li_split hx
    refine ⟨.ref p, rfl, p, _, rfl, hp, rfl, u, _, rfl, .bl l.2, _, rfl, rfl, ?_⟩
    refine ⟨u, rfl, .bl l.2, rfl, l.2, rfl, Nat.le_of_lt (small1000 (by simp)), fun r nr => q r _ nr (same_upd nr) (li_mk (l := ng l) (.of upd_same) (dp_tk (tk_new nr) _ _ hu (A.kb _ h7)))⟩
theorem ixt {K : PySem.W.Frag} {i : Nat} {p : Addr} {xs : List V} {v : V} {σ : L2.St} {H : Hp} {Q : VK} (j : Nat) (h0 : σ[i]? = some (some (.ref p))) (h : SqT K H p xs) (e : xs[j]? = some v) (hl : j < xs.length) (q : Q v H) : tOp (rIx K) (tVar i) (tC (.int (j : Int))) σ H Q :=
  ⟨.ref p, h0, .inr (.inl ⟨p, xs, j, v, rfl, rfl, h, atI_nat e, q⟩)⟩
theorem ok_not (A : AtOk e) (T : Top K mg a) : FnOk P w K mg base CX0 1 a.f_l_not a.d_l_not ["_law_literal"] (spNeg e K) := by
  refine T.F_l_not.ok sc_l_not (fun vs H Q E h => ?_) (fun cdv A' outer s H vs Q E hr h => ?_)
  · obtain ⟨x, l, rfl, _⟩ := h
    rfl
  · obtain ⟨x, l, rfl, h7, hx, q⟩ := h
    refine ⟨_, (pss_one (ps_ret (pe_tup (pa_cons (pe_ix ix_seq (pv 0) pe_int (fun _ _ => rfl)) (pa_cons (pe_not (pe_ix ix_seq (pv 0) pe_int (fun _ _ => rfl))) pa_nil))))), ?_⟩
    obtain ⟨p, u, rfl, hp, hu⟩ := li_split hx
    refine ixt 0 rfl hp rfl (by simp) (ixt 1 rfl hp rfl (by simp) ⟨l.2, rfl, Nat.le_of_lt (small1000 (by simp)), fun r nr => q r _ nr (same_upd nr) (li_mk (l := ng l) (.of upd_same) (dp_tk (tk_new nr) _ _ hu (A.kb _ h7)))⟩)
/-! ### what is held: the entries of a dict -/
abbrev EsIs (e : Nat → PyData) (K : PySem.W.Frag) (H : Hp) : List Ent → List Stp → Prop := Paired fun p q => p.1 = nk (eL e q.1) ∧ Li e K H (.ref p.2.1) q.1 ∧ p.2.2 = .int (q.2 : Int)
def In7 (ls : List Lt) : Prop := ∀ l ∈ ls, l.1 < 7
def HeldIs (e : Nat → PyData) (w : World) (K : PySem.W.Frag) (H : Hp) (d : Addr) (st : List Stp) : Prop := ∃ es : List Ent, H d = some (dN w d es) ∧ EsIs e K H es st
theorem In7.tl {l : Lt} {ls : List Lt} (h : In7 (l :: ls)) : In7 ls := fun x hx => h x (List.mem_cons_of_mem _ hx)
theorem es_keys (A : AtOk e) {H : Hp} : ∀ {es : List Ent} {st : List Stp}, In7 (hs st) → EsIs e K H es st → KeysAt K H es := by
  intro es st h r
  induction r with
  | nil => intro p hp; cases hp
  | @cons p0 q ps qs z t ih =>
    have h7 : q.1.1 < 7 := h q.1 List.mem_cons_self
    intro p hp
    rcases List.mem_cons.mp hp with rfl | hp
    · exact ⟨eL e q.1, z.2.1, eL_kb A h7, z.1.symm, by rw [z.1]; exact eL_dep A h7⟩
    · exact ih (In7.tl h) p hp
theorem es_tk (A : AtOk e) {H H' : Hp} (k : Tk H H') : ∀ {es : List Ent} {st : List Stp}, In7 (hs st) → EsIs e K H es st → EsIs e K H' es st := by
  intro es st h r
  induction r with
  | nil => exact .nil
  | @cons p0 q ps qs z t ih => exact .cons ⟨z.1, z.2.1.tk A (h q.1 List.mem_cons_self) k, z.2.2⟩ (ih (In7.tl h))
theorem es_get (A : AtOk e) {H : Hp} {l : Lt} (hl : l.1 < 7) : ∀ {es : List Ent} {st : List Stp}, In7 (hs st) → EsIs e K H es st → getN es (nk (eL e l)) = (st.find? fun q => decide (q.1 = l)).map fun q => .int (q.2 : Int) := by
  intro es st h r
  induction r with
  | nil => rfl
  | @cons p q ps qs z t ih =>
    have h7 : q.1.1 < 7 := h q.1 List.mem_cons_self
    have ih := ih (In7.tl h)
    unfold getN at ih ⊢
    rw [List.find?_cons, List.find?_cons]
    by_cases c : q.1 = l
    · have c1 : p.1 = nk (eL e l) := by rw [z.1, c]
      simp [c1, c, z.2.2]
    · have c1 : ¬ p.1 = nk (eL e l) := fun x => c (eL_inj A h7 hl (z.1.symm.trans x))
      simp only [c1, c, decide_false]
      exact ih
theorem find_in (l : Lt) : ∀ st : List Stp, ((st.find? fun q => decide (q.1 = l)).map fun q => V.int (q.2 : Int)).isSome = decide (l ∈ hs st)
  | [] => by simp [hs]
  | q :: st => by
    have ih := find_in l st
    rw [List.find?_cons]
    by_cases c : q.1 = l
    · subst c; simp [hs]
    · have c2 : ¬ l = q.1 := fun x => c x.symm
      simp only [c, decide_false]
      rw [ih]
      unfold hs
      simp [c2]
theorem es_in (A : AtOk e) {H : Hp} {l : Lt} (hl : l.1 < 7) {es : List Ent} {st : List Stp} (h : In7 (hs st)) (r : EsIs e K H es st) : (getN es (nk (eL e l))).isSome = decide (l ∈ hs st) := by
  rw [es_get A hl h r, find_in]
theorem key_li (A : AtOk e) {H : Hp} {b : Addr} {l : Lt} (h7 : l.1 < 7) (h : Li e K H (.ref b) l) : KeyAt K H (nk (eL e l)) b := ⟨eL e l, h, eL_kb A h7, rfl, eL_dep A h7⟩
theorem ng7 {l : Lt} (h : l.1 < 7) : (ng l).1 < 7 := h
/-- one literal more of a clause -/
theorem left_snoc (c : List Lt) (held : List Lt) (l : Lt) : left (c ++ [l]) held = if ng l ∈ held then left c held else left c held ++ [l] := by
  unfold left
  rw [List.filter_append]
  by_cases h : ng l ∈ held
  · simp [h]
  · simp [h]
def spUnd (e : Nat → PyData) (w : World) (K : PySem.W.Frag) : Sp := fun vs H Q _ => ∃ (c0 d : Addr) (xs : List V) (c : List Lt) (st : List Stp), vs = [.ref c0, .ref d] ∧ SqT K H c0 xs ∧ R1.Al (Li e K H) xs c ∧ c.length ≤ 1000 ∧ In7 c ∧ HeldIs e w K H d st ∧ In7 (hs st) ∧
  ∀ p ys H', Same H H' → H p = none → H' p = some (.lst ys) → R1.Al (Li e K H') ys (left c (hs st)) → Q (.ref p) H'
theorem left_len (c held : List Lt) : (left c held).length ≤ c.length := List.length_filter_le _ _
theorem ok_und (A : AtOk e) (T : Top K mg a) (G_negated : FnOk P w K mg base CX0 1 a.f_negated a.d_negated ["literal"] (spNeg e K)) : FnOk P w K mg base CX0 2 a.f_undenied a.d_undenied ["clause", "held"] (spUnd e w K) := by
  refine T.F_undenied.ok sc_undenied (fun vs H Q E h => ?_) (fun cdv A' outer s H vs Q E hr h => ?_)
  · obtain ⟨_, _, _, _, _, rfl, _⟩ := h
    rfl
  · obtain ⟨c0, d, xs, c, st, rfl, hc, hA, hl, h7, ⟨es, hd, hE⟩, hs7, q⟩ := h
    refine ⟨_, (pss_one (ps_ret (pe_lc (own := [("literal", 2)]) rfl sc_undenied.nd (R1.PI.or (pi_list (pv 0)) (pi_tup (pv 0))) (blkOk_by (own := [("literal", 2)]) (N := ["clause", "held", "literal"]) (sc := defScope s_undenied) (by decide +kernel)) (fun _ _ _ _ _ => (pg_name (i := 2) sc_undenied.nd rfl (.inl rfl))) (fun _ _ _ _ _ => pts_one (pt_cmpR (RN.op_notInN (u16 hr) rfl rfl) (pe_call G_negated (hr.mono (by decide)) (by rfl) T.m_negated T.F_negated.kp T.b_negated .nil pass0 (pa_cons (pv 2) pa_nil)) (pv 1) rfl)) (fun _ _ _ _ _ => (pv 2))))), ?_⟩
    refine .inr ⟨.ref c0, rfl, c0, rfl, ⟨_, hc⟩, fun D nD => ?_⟩
    have lx : xs.length = c.length := hA.1
    refine R1.walk_it (walk_tup (xs := xs)) (fun u H2 => Same H H2 ∧ ∃ acc, H2 D = some (.lst acc) ∧ R1.Al (Li e K H2) acc (left (c.take u) (hs st))) ⟨same_upd nD, [], upd_same, R1.Al.nil⟩ (fun u H2 _ h => sqT_tk (Same.tk h.1) hc) ?_ ?_
    · rintro u x _ H2 hu ⟨sm2, acc, hD, hB⟩ ⟨rfl, hx⟩
      obtain ⟨l, hl2, hli⟩ := hA.at hx
      have l7 : l.1 < 7 := h7 l (List.mem_of_getElem? hl2)
      have et : c.take (u + 1) = c.take u ++ [l] := by rw [List.take_add_one, hl2]; rfl
      refine ⟨rfl, x, rfl, x, l, rfl, l7, hli.tk A l7 (Same.tk sm2), fun r H3 nr sm3 hng => ?_⟩
      have s3 := sm2.trans sm3
      have hd3 := s3 _ _ hd
      have es3 := es_tk A (Same.tk s3) hs7 hE
      have hD3 := sm3 _ _ hD
      refine ⟨.ref d, rfl, r, d, es, nk (eL e (ng l)), rfl, rfl, hd3, es_keys A hs7 es3, key_li A (ng7 l7) hng, _, rfl, ?_⟩
      simp only [if_true]
      rw [es_in A (ng7 l7) hs7 es3]
      have b3 := al_tk A (fun m hm => h7 m (List.mem_of_mem_take (List.mem_filter.mp hm).1)) (Same.tk sm3) hB
      rw [et, left_snoc]
      by_cases hin : ng l ∈ hs st
      · rw [decide_eq_true hin, if_pos hin]
        exact ⟨s3, acc, hD3, b3⟩
      · rw [decide_eq_false hin, if_neg hin]
        have la : acc.length ≤ 1000 := by
          have := hB.1
          have := left_len (c.take u) (hs st)
          rw [List.length_take] at this
          omega
        refine ⟨x, rfl, acc, hD3, small1000 la, K15.Same.mut s3 nD, _, upd_same, ?_⟩
        have k4 : Tk H3 (upd H3 D (.lst (acc ++ [x]))) := tk_upd hD3 True.intro
        exact R1.Al.snoc (al_tk A (fun m hm => h7 m (List.mem_of_mem_take (List.mem_filter.mp hm).1)) k4 b3) ((hli.tk A l7 (Same.tk s3)).tk A l7 k4)
    · rintro H2 ⟨sm2, acc, hD, hB⟩
      rw [lx, List.take_length] at hB
      exact q D acc H2 sm2 nD hD hB
end
end K15


/-! what is left of a clause by the law, the next step -/
namespace K15
open PySem PySem.Spec PyProof.Rows L2 RN
section
variable {P : Program} {w : World} {K : PySem.W.Frag} {mg : Str → Option Value} {base : Heap} {a : Ad} {e : Nat → PyData}
theorem if_ans {c : TT} {t u : TS} {D : Ends} {σ : L2.St} {H : Hp} {b : Bool} (h : Ans c σ H b) (h1 : b = true → t D σ H) (h2 : b = false → u D σ H) : tIfS c t u D σ H := by
  refine h _ ?_
  cases b with
  | true => exact h1 rfl
  | false => exact h2 rfl
abbrev rLn (K : PySem.W.Frag) : List V → Hp → VK → Prop := fun xs H Q => (∃ z, xs = [V.str z] ∧ z.length ≤ sizeLine ∧ Q (V.int z.length) H) ∨ ∃ p ys, xs = [V.ref p] ∧ (SqL K H p ys ∨ SqT K H p ys) ∧ Q (V.int ys.length) H
abbrev rEqq (K : PySem.W.Frag) : R2 := fun x y H Q => rEq x y H Q ∨ rEqD K x y H Q
theorem len_eq {i n : Nat} {p : Addr} {ys : List V} {σ : L2.St} {H : Hp} (h0 : σ[i]? = some (some (.ref p))) (h : SqL K H p ys ∨ SqT K H p ys) : Ans (tTest (tOp (rEqq K) (tCB (rLn K) (tCons (tVar i) tNil)) (tC (.int (n : Int))))) σ H (decide (ys.length = n)) := fun Q q => by
  have : decide ((ys.length : Int) = (n : Int)) = decide (ys.length = n) := by rw [Bool.eq_iff_iff, decide_eq_true_eq, decide_eq_true_eq]; omega
  refine ⟨_, h0, .inr ⟨p, ys, rfl, h, eqi ?_⟩⟩
  rw [this]
  exact q
def spLeft (e : Nat → PyData) (K : PySem.W.Frag) : Sp := fun vs H Q _ => ∃ (c0 d : Addr) (xs hx : List V) (c held : List Lt), vs = [.ref c0, .ref d] ∧ SqT K H c0 xs ∧ R1.Al (Li e K H) xs c ∧ c.length ≤ 1000 ∧ In7 c ∧ SqL K H d hx ∧ R1.Al (Li e K H) hx held ∧ In7 held ∧
  ∀ p ys H', Same H H' → H p = none → H' p = some (.lst ys) → R1.Al (Li e K H') ys (left c held) → Q (.ref p) H'
theorem sqL_same {H H' : Hp} {p : Addr} {xs : List V} (s : Same H H') (h : SqL K H p xs) : SqL K H' p xs := by
  rcases h with (h | ⟨o, h⟩) | h
  · exact .inl (.inl (s _ _ h))
  · exact .inl (.inr ⟨o, s _ _ h⟩)
  · exact .inr h
theorem in7_left {c held : List Lt} {u : Nat} (h : In7 c) : ∀ m ∈ left (c.take u) held, m.1 < 7 := fun m hm => h m (List.mem_of_mem_take (List.mem_filter.mp hm).1)
theorem ok_left (A : AtOk e) (T : Top K mg a) (G_l_not : FnOk P w K mg base CX0 1 a.f_l_not a.d_l_not ["_law_literal"] (spNeg e K)) : FnOk P w K mg base CX0 2 a.f_l_left a.d_l_left ["_law_clause_here", "_law_held"] (spLeft e K) := by
  refine T.F_l_left.ok sc_l_left (fun vs H Q E h => ?_) (fun cdv A' outer s H vs Q E hr h => ?_)
  · obtain ⟨_, _, _, _, _, _, rfl, _⟩ := h
    rfl
  · obtain ⟨c0, d, xs, hx, c, held, rfl, hc, hA, hl, h7, hd, hE, hs7, q⟩ := h
    refine ⟨_, (pss_one (ps_ret (pe_lc (own := [("_law_literal", 2)]) rfl sc_l_left.nd (R1.PI.or (pi_list (pv 0)) (pi_tup (pv 0))) (blkOk_by (own := [("_law_literal", 2)]) (N := ["_law_clause_here", "_law_held", "_law_literal"]) (sc := defScope s_l_left) (by decide +kernel)) (fun _ _ _ _ _ => (pg_name (i := 2) sc_l_left.nd rfl (.inl rfl))) (fun _ _ _ _ _ => pts_one (pt_cmpR (op_notInDK (u65 hr) rfl) (pe_call G_l_not (hr.mono (by decide)) (by rfl) T.m_l_not T.F_l_not.kp T.b_l_not .nil pass0 (pa_cons (pv 2) pa_nil)) (pv 1) rfl)) (fun _ _ _ _ _ => (pv 2))))), ?_⟩
    refine .inr ⟨.ref c0, rfl, c0, rfl, ⟨_, hc⟩, fun D nD => ?_⟩
    have lx : xs.length = c.length := hA.1
    refine R1.walk_it (walk_tup (xs := xs)) (fun u H2 => Same H H2 ∧ ∃ acc, H2 D = some (.lst acc) ∧ R1.Al (Li e K H2) acc (left (c.take u) held)) ⟨same_upd nD, [], upd_same, R1.Al.nil⟩ (fun u H2 _ h => sqT_tk (Same.tk h.1) hc) ?_ ?_
    · rintro u x _ H2 hu ⟨sm2, acc, hD, hB⟩ ⟨rfl, hx2⟩
      obtain ⟨l, hl2, hli⟩ := hA.at hx2
      have l7 : l.1 < 7 := h7 l (List.mem_of_getElem? hl2)
      have et : c.take (u + 1) = c.take u ++ [l] := by rw [List.take_add_one, hl2]; rfl
      refine ⟨rfl, x, rfl, x, l, rfl, l7, hli.tk A l7 (Same.tk sm2), fun r H3 nr sm3 hng => ?_⟩
      have s3 := sm2.trans sm3
      have hD3 := sm3 _ _ hD
      have hE3 := al_tk A hs7 (Same.tk s3) hE
      refine ⟨.ref d, rfl, eL e (ng l), held.map (eL e), hng, .lst (sqL_same s3 hd) (al_dps hE3), eL_shaped A (ng7 l7), list_shaped A hs7, _, rfl, ?_⟩
      rw [any_eL A (ng7 l7) hs7]
      have b3 := al_tk A (in7_left h7) (Same.tk sm3) hB
      rw [et, left_snoc]
      by_cases hin : ng l ∈ held
      · rw [decide_eq_true hin, if_pos hin]
        exact ⟨s3, acc, hD3, b3⟩
      · rw [decide_eq_false hin, if_neg hin]
        have la : acc.length ≤ 1000 := by
          have := hB.1
          have := left_len (c.take u) held
          rw [List.length_take] at this
          omega
        refine ⟨x, rfl, acc, hD3, small1000 la, K15.Same.mut s3 nD, _, upd_same, ?_⟩
        have k4 : Tk H3 (upd H3 D (.lst (acc ++ [x]))) := tk_upd hD3 True.intro
        exact R1.Al.snoc (al_tk A (in7_left h7) k4 b3) ((hli.tk A l7 (Same.tk s3)).tk A l7 k4)
    · rintro H2 ⟨sm2, acc, hD, hB⟩
      rw [lx, List.take_length] at hB
      exact q D acc H2 sm2 nD hD hB
/-! ### clauses under labels -/
def ClIs (e : Nat → PyData) (K : PySem.W.Frag) (H : Hp) (c0 : Addr) (c : List Lt) : Prop := ∃ xs, SqT K H c0 xs ∧ R1.Al (Li e K H) xs c
def RsOk (rows : List Row) : Prop := rows.length ≤ 60 ∧ ∀ r ∈ rows, r.2.length ≤ 60 ∧ In7 r.2
/-- the dict of the clauses -/
def CdIs (e : Nat → PyData) (K : PySem.W.Frag) (H : Hp) (kvs : List (Key × V)) (rows : List Row) : Prop := ∀ r ∈ rows, ∃ c0, valV kvs (.inl (r.1 : Int)) = some (.ref c0) ∧ ClIs e K H c0 r.2
theorem ClIs.tk (A : AtOk e) {H H' : Hp} (t : Tk H H') {c0 : Addr} {c : List Lt} (h7 : In7 c) (h : ClIs e K H c0 c) : ClIs e K H' c0 c := by
  obtain ⟨xs, h1, h2⟩ := h
  exact ⟨xs, sqT_tk t h1, al_tk A h7 t h2⟩
theorem CdIs.tk (A : AtOk e) {H H' : Hp} (t : Tk H H') {kvs : List (Key × V)} {rows : List Row} (ok : RsOk rows) (h : CdIs e K H kvs rows) : CdIs e K H' kvs rows := fun r hr => by
  obtain ⟨c0, h1, h2⟩ := h r hr
  exact ⟨c0, h1, h2.tk A t (ok.2 r hr).2⟩
def lbs (rows : List Row) : List V := rows.map fun r => V.int (r.1 : Int)
/-- what the next step is -/
inductive NxIs (e : Nat → PyData) (K : PySem.W.Frag) (H : Hp) (rows : List Row) (held : List Lt) : V → Prop
  | none : chosen rows held = .none → NxIs e K H rows held .non
  | clash {p : Addr} {r : Row} : chosen rows held = some r → left r.2 held = [] → H p = some (.tup [.non, .int (r.1 : Int)]) → NxIs e K H rows held (.ref p)
  | step {p : Addr} {x : V} {r : Row} {l : Lt} {ls : List Lt} : chosen rows held = some r → left r.2 held = l :: ls → H p = some (.tup [x, .int (r.1 : Int)]) → Li e K H x l → NxIs e K H rows held (.ref p)
def spNext (e : Nat → PyData) (w : World) (K : PySem.W.Frag) : Sp := fun vs H Q _ => ∃ (cd od d : Addr) (kvs : List (Key × V)) (rows : List Row) (st : List Stp), vs = [.ref cd, .ref od, .ref d] ∧ H cd = some (.dK kvs) ∧ RsOk rows ∧ CdIs e K H kvs rows ∧ SqL K H od (lbs rows) ∧
  HeldIs e w K H d st ∧ In7 (hs st) ∧ ∀ v H', Same H H' → NxIs e K H' rows (hs st) v → Q v H'
theorem chosen_at {rows : List Row} {held : List Lt} {i : Nat} {r : Row} (h : rows[i]? = some r) (n : chosen (rows.take i) held = none) (f : fires r.2 held = true) : chosen rows held = some r := by
  have lt : i < rows.length := (List.getElem?_eq_some_iff.mp h).1
  have e1 : rows = rows.take i ++ r :: rows.drop (i + 1) := by
    have g : rows[i] = r := (List.getElem?_eq_some_iff.mp h).2
    rw [← g, List.getElem_cons_drop, List.take_append_drop]
  unfold chosen at n ⊢
  rw [e1, List.find?_append, n]
  simp [f]
theorem chosen_take {rows : List Row} {held : List Lt} {i : Nat} {r : Row} (h : rows[i]? = some r) (n : chosen (rows.take i) held = none) (f : fires r.2 held = false) : chosen (rows.take (i + 1)) held = none := by
  have et : rows.take (i + 1) = rows.take i ++ [r] := by rw [List.take_add_one, h]; rfl
  unfold chosen at n ⊢
  rw [et, List.find?_append, n]
  simp [f]
theorem fires_nil {c held : List Lt} (h : left c held = []) : fires c held = true := by unfold fires; rw [h]; rfl
theorem fires_one' {c held : List Lt} {l : Lt} (h : left c held = [l]) : fires c held = !decide (l ∈ held) := by unfold fires; rw [h]; simp
theorem fires_more {c held : List Lt} {l m : Lt} {ls : List Lt} (h : left c held = l :: m :: ls) : fires c held = false := by unfold fires; rw [h]; simp
theorem ok_next (A : AtOk e) (T : Top K mg a) (G_undenied : FnOk P w K mg base CX0 2 a.f_undenied a.d_undenied ["clause", "held"] (spUnd e w K)) : FnOk P w K mg base CX0 3 a.f_next_step a.d_next_step ["clauses", "order", "held"] (spNext e w K) := by
  refine T.F_next_step.ok sc_next_step (fun vs H Q E h => ?_) (fun cdv A' outer s H vs Q E hr h => ?_)
  · obtain ⟨_, _, _, _, _, _, rfl, _⟩ := h
    rfl
  · obtain ⟨cd, od, d, kvs, rows, st, rfl, hcd, ok, hC, hod, hH, hs7, q⟩ := h
    refine ⟨_, (pss_cons (ps_for PassesOwn.never rfl (R1.PI.or (pi_list (pv 1)) (pi_tup (pv 1))) (pg_name (i := 3) sc_next_step.nd rfl (.inl rfl))
      (pss_cons (ps_set (i := 4) sc_next_step.nd rfl (.inl rfl) (pe_call G_undenied (hr.mono (by decide)) (by rfl) T.m_undenied T.F_undenied.kp T.b_undenied .nil pass0 (pa_cons (pe_dget (hu_of hr) (pv 0) (pv 3) (fun _ _ => rfl)) (pa_cons (pv 2) pa_nil))))
      (pss_cons (ps_if (pt_cmpR (OpR.or op_eq (op_eqD hr.units)) (pe_callB (CallR.or call_len_str call_len_seq) (by rfl) T.z_len (by decide +kernel) (pa_cons (pv 4) pa_nil)) pe_int (nomark _))
        (pss_one (ps_ret (pe_tup (pa_cons pe_non (pa_cons (pv 3) pa_nil)))))
        pss_nil)
      (pss_one (ps_if (PW.pt (pw_and (pt_cmpR (OpR.or op_eq (op_eqD hr.units)) (pe_callB (CallR.or call_len_str call_len_seq) (by rfl) T.z_len (by decide +kernel) (pa_cons (pv 4) pa_nil)) pe_int (nomark _)) (pw_and1 (pt_cmpR (RN.op_notInN (u16 hr) rfl rfl) (pe_ix ix_seq (pv 4) pe_int (fun _ _ => rfl)) (pv 2) rfl))))
        (pss_one (ps_ret (pe_tup (pa_cons (pe_ix ix_seq (pv 4) pe_int (fun _ _ => rfl)) (pa_cons (pv 3) pa_nil)))))
        pss_nil)))))
    (pss_one (ps_ret pe_non))), ?_⟩
    refine .inl ⟨.ref od, rfl, od, rfl, ⟨_, hod⟩, for_it (walk_list (xs := lbs rows)) (fun i σ' H' => ∃ y3 y4, σ' = [some (.ref cd), some (.ref od), some (.ref d), y3, y4] ∧ Same H H' ∧ chosen (rows.take i) (hs st) = none) ⟨none, none, rfl, Same.refl _, rfl⟩ (fun i σ' H' _ h => by obtain ⟨_, _, _, s1, _⟩ := h; exact sqL_same s1 hod) ?_ ?_⟩
    · rintro i x σ' _ H1 hi ⟨y3, y4, rfl, s1, hn⟩ ⟨rfl, hx⟩
      obtain ⟨r, hr2, rfl⟩ : ∃ r, rows[i]? = some r ∧ x = V.int (r.1 : Int) := by
        unfold lbs at hx
        rw [List.getElem?_map] at hx
        cases er : rows[i]? with
        | none => rw [er] at hx; cases hx
        | some r => rw [er] at hx; exact ⟨r, rfl, (Option.some.inj hx).symm⟩
      have rm := List.mem_of_getElem? hr2
      obtain ⟨rl, r7⟩ := ok.2 r rm
      obtain ⟨c0, hv, xs, hxs, hA⟩ := hC r rm
      obtain ⟨es, hd, hE⟩ := hH
      have t1 := Same.tk s1
      refine ⟨.ref cd, rfl, .int (r.1 : Int), rfl, cd, .ref c0, rfl, .inl ⟨kvs, .inl (r.1 : Int), .inl (s1 _ _ hcd), rfl, hv.symm⟩, .ref d, rfl, ?_⟩
      refine ⟨c0, d, xs, r.2, st, rfl, sqT_tk t1 hxs, al_tk A r7 t1 hA, by omega, r7, ⟨es, s1 _ _ hd, es_tk A t1 hs7 hE⟩, hs7, fun p ys H2 s2 np hp hB => ?_⟩
      have s12 := s1.trans s2
      have t12 := Same.tk s12
      have ly : ys.length = (left r.2 (hs st)).length := hB.1
      have len : ∀ n : Nat, Ans (tTest (tOp (rEqq K) (tCB (rLn K) (tCons (tVar 4) tNil)) (tC (.int (n : Int))))) [some (.ref cd), some (.ref od), some (.ref d), some (.int (r.1 : Int)), some (.ref p)] H2 (decide (ys.length = n)) := fun n => len_eq rfl (.inl (.of hp))
      cases hL : left r.2 (hs st) with
      | nil =>
        have e0 : decide (ys.length = 0) = true := decide_eq_true (by rw [ly, hL]; rfl)
        refine if_ans (len 0) (fun _ => ?_) (fun z => by rw [e0] at z; cases z)
        exact ⟨.int (r.1 : Int), rfl, Nat.le_of_lt (small1000 (by simp)), fun t nt => q _ _ (s12.trans (same_upd nt)) (.clash (chosen_at hr2 hn (fires_nil hL)) hL upd_same)⟩
      | cons l ls =>
        rw [hL] at hB ly
        have e0 : decide (ys.length = 0) = false := decide_eq_false (by rw [ly]; simp)
        refine if_ans (len 0) (fun z => by rw [e0] at z; cases z) (fun _ => ?_)
        cases ls with
        | nil =>
          obtain ⟨x, hx⟩ : ∃ x, ys = [x] := List.length_eq_one_iff.mp ly
          subst hx
          have lx := hB.2 0 x l rfl rfl
          have l7 : l.1 < 7 := r7 l (by have : l ∈ left r.2 (hs st) := by rw [hL]; exact List.mem_cons_self
                                        exact (List.mem_filter.mp this).1)
          obtain ⟨b, u, rfl, _, _⟩ := li_split lx
          have inA : Ans (tTest (tOp (rInN K w true) (tOp (rIx K) (tVar 4) (tC (.int 0))) (tVar 2))) [some (.ref cd), some (.ref od), some (.ref d), some (.int (r.1 : Int)), some (.ref p)] H2 (!decide (l ∈ hs st)) := fun Q q => by
            have es2 := es_tk A t12 hs7 hE
            refine ixv 0 rfl (.of hp) rfl ⟨_, rfl, b, d, es, nk (eL e l), rfl, rfl, s12 _ _ hd, es_keys A hs7 es2, key_li A l7 lx, _, rfl, ?_⟩
            rw [es_in A l7 hs7 es2]
            exact q
          have f1 := fires_one' hL
          refine if_ans (ans_and (by have := len 1; rw [decide_eq_true (show [V.ref b].length = 1 from rfl)] at this; exact this) inA) (fun z => ?_) (fun z => ?_)
          · refine ixv 0 rfl (.of hp) rfl ⟨.int (r.1 : Int), rfl, Nat.le_of_lt (small1000 (by simp)), fun t nt => q _ _ (s12.trans (same_upd nt)) (.step (chosen_at hr2 hn (f1.trans z)) hL upd_same (lx.tk A l7 (tk_new nt)))⟩
          · exact ⟨_, _, rfl, s12, chosen_take hr2 hn (f1.trans z)⟩
        | cons m ls =>
          have e1 : decide (ys.length = 1) = false := decide_eq_false (by rw [ly]; simp)
          refine if_ans (b := false) (ans_and0 (by have := len 1; rw [e1] at this; exact this)) (fun z => nomatch z) (fun _ => ?_)
          exact ⟨_, _, rfl, s12, chosen_take hr2 hn (fires_more hL)⟩
    · rintro σ' H1 ⟨y3, y4, rfl, s1, hn⟩
      refine q _ H1 s1 (.none ?_)
      have : (lbs rows).length = rows.length := by unfold lbs; rw [List.length_map]
      rw [this, List.take_length] at hn
      exact hn
end
end K15


/-! the class Propagation -/
namespace K15
open PySem PySem.Spec PyProof.Rows L2 RN
abbrev s_Propagation_init : Stmt := inClass (topS 12) 0
abbrev s_Propagation_len : Stmt := inClass (topS 12) 2
abbrev s_Propagation_iter : Stmt := inClass (topS 12) 3
abbrev s_Propagation_contains : Stmt := inClass (topS 12) 4
abbrev s_Propagation_getitem : Stmt := inClass (topS 12) 5
theorem sc_Propagation_init : FnScope ["self", "steps", "clash", "literal", "_"] ["self", "steps", "clash"] (defScope s_Propagation_init) := ⟨rfl, rfl, rfl, by decide +kernel, rfl, by decide +kernel, by decide +kernel⟩
theorem sc_Propagation_len : FnScope ["self"] ["self"] (defScope s_Propagation_len) := ⟨rfl, rfl, rfl, by decide +kernel, rfl, by decide +kernel, by decide +kernel⟩
theorem sc_Propagation_iter : FnScope ["self"] ["self"] (defScope s_Propagation_iter) := ⟨rfl, rfl, rfl, by decide +kernel, rfl, by decide +kernel, by decide +kernel⟩
theorem sc_Propagation_contains : FnScope ["self", "x"] ["self", "x"] (defScope s_Propagation_contains) := ⟨rfl, rfl, rfl, by decide +kernel, rfl, by decide +kernel, by decide +kernel⟩
theorem sc_Propagation_getitem : FnScope ["self", "at"] ["self", "at"] (defScope s_Propagation_getitem) := ⟨rfl, rfl, rfl, by decide +kernel, rfl, by decide +kernel, by decide +kernel⟩
structure Pd where
  fI : Addr
  fL : Addr
  fT : Addr
  fN : Addr
  fG : Addr
  dI : FuncData
  dL : FuncData
  dT : FuncData
  dN : FuncData
  dG : FuncData
structure PrC (K : PySem.W.Frag) (C : Addr) (p : Pd) : Prop where
  ins : C8.InsC K C
  mkr : Mk K C p.fI
  nS : NoAttr K C "steps"
  nC : NoAttr K C "clash"
  nL : NoAttr K C "literals"
  nD : NoAttr K C "_labels"
  F_I : Fun K "__init__" "Propagation.__init__" s_Propagation_init p.fI p.dI
  b_I : Binds K p.dI ["self", "steps", "clash"] []
  F_L : Fun K "__len__" "Propagation.__len__" s_Propagation_len p.fL p.dL
  b_L : Binds K p.dL ["self"] []
  F_T : Fun K "__iter__" "Propagation.__iter__" s_Propagation_iter p.fT p.dT
  b_T : Binds K p.dT ["self"] []
  F_N : Fun K "__contains__" "Propagation.__contains__" s_Propagation_contains p.fN p.dN
  b_N : Binds K p.dN ["self", "x"] []
  F_G : Fun K "__getitem__" "Propagation.__getitem__" s_Propagation_getitem p.fG p.dG
  b_G : Binds K p.dG ["self", "at"] []
  itl : RI.ItL K C p.fT p.fL
  gs : PySem.W.findIn K (.ref C) "__getitem__" = some (some (.ref p.fG))
  gf : PySem.W.fnIn K p.fG = true
  gn : PySem.W.isFn K (.ref p.fG) = true
  cs : PySem.W.findIn K (.ref C) "__contains__" = some (some (.ref p.fN))
  cn : PySem.W.isFn K (.ref p.fN) = true
section
variable {P : Program} {w : World} {K : PySem.W.Frag} {mg : Str → Option Value} {base : Heap} {a : Ad} {e : Nat → PyData} {p : Pd} {C : Addr}
def StIs (e : Nat → PyData) (K : PySem.W.Frag) (H : Hp) (t : Addr) (st : List Stp) : Prop := ∃ (cs : List Addr) (es : List Ent), FrzT H t (cs.map V.ref) ∧ cs.length = es.length ∧ (∀ (j : Nat) (c : Addr) (q : Ent), cs[j]? = some c → es[j]? = some q → SqT K H c [.ref q.2.1, q.2.2]) ∧ EsIs e K H es st
def pfs (t lt ld : Addr) (k : Nat) : List (Str × V) := [("steps", .ref t), ("clash", .int (k : Int)), ("literals", .ref lt), ("_labels", .ref ld)]
def LtIs (e : Nat → PyData) (K : PySem.W.Frag) (H : Hp) (lt : Addr) (ls : List Lt) : Prop := ∃ xs, H lt = some (.tup xs) ∧ R1.Al (Li e K H) xs ls
def PrIs (e : Nat → PyData) (w : World) (K : PySem.W.Frag) (H : Hp) (C o : Addr) (st : List Stp) (k : Nat) : Prop := ∃ dx t lt ld, H o = some (.ins C dx (pfs t lt ld k)) ∧ StIs e K H t st ∧ LtIs e K H lt (hs st) ∧ HeldIs e w K H ld st
def spInit (e : Nat → PyData) (w : World) (K : PySem.W.Frag) (C : Addr) : Sp := fun vs H Q _ => ∃ (o t dx : Addr) (k : Nat) (st : List Stp), vs = [.ref o, .ref t, .int (k : Int)] ∧ H o = some (.ins C dx []) ∧ StIs e K H t st ∧ In7 (hs st) ∧ (hs st).Nodup ∧ st.length ≤ 1000 ∧
  ∀ H', Kp o H H' → PrIs e w K H' C o st k → Q .non H'
theorem pf1 (x : V) : putF "steps" x [] = ([("steps", x)] : List (Str × V)) := rfl
theorem pf2 (x y : V) : putF "clash" y [("steps", x)] = ([("steps", x), ("clash", y)] : List (Str × V)) := by
  unfold putF
  rw [if_neg (by decide +kernel)]
  rfl
theorem pf3 (x y z : V) : putF "literals" z [("steps", x), ("clash", y)] = ([("steps", x), ("clash", y), ("literals", z)] : List (Str × V)) := by
  unfold putF
  rw [if_neg (by decide +kernel)]
  unfold putF
  rw [if_neg (by decide +kernel)]
  rfl
theorem pf4 (x y z u : V) : putF "_labels" u [("steps", x), ("clash", y), ("literals", z)] = ([("steps", x), ("clash", y), ("literals", z), ("_labels", u)] : List (Str × V)) := by
  unfold putF
  rw [if_neg (by decide +kernel)]
  unfold putF
  rw [if_neg (by decide +kernel)]
  unfold putF
  rw [if_neg (by decide +kernel)]
  rfl
theorem es_nodup (A : AtOk e) {H : Hp} {es : List Ent} {st : List Stp} (h7 : In7 (hs st)) (n : (hs st).Nodup) (r : EsIs e K H es st) : (es.map (·.1)).Nodup := by
  have e1 : es.map (·.1) = (hs st).map fun l => nk (eL e l) := by
    clear n h7
    induction r with
    | nil => rfl
    | @cons p q ps qs z t ih => rw [List.map_cons, ih]; unfold hs; rw [List.map_cons, List.map_cons, z.1]
  rw [e1]
  refine List.Pairwise.map _ (fun x y h => h) (List.Pairwise.imp_of_mem (fun {x y} hx hy hne => ?_) n)
  exact fun z => hne (eL_inj A (h7 x hx) (h7 y hy) z)
theorem kp_tk {H H' : Hp} {o : Addr} {ob : HO} (ho : H o = some ob) (hn : NoTup ob) (k : Kp o H H') : Tk H H' := tk_but ho hn fun b u ne z => k b u ne z
theorem frz_kp {H H' : Hp} {o t : Addr} {ob : HO} {xs : List V} (ho : H o = some ob) (hn : NoTup ob) (k : Kp o H H') (h : FrzT H t xs) : FrzT H' t xs := by
  obtain ⟨ot, h1, h2⟩ := h
  refine ⟨ot, h1, k t _ (fun z => ?_) h2⟩
  rw [z, ho] at h2
  cases h2
  exact hn
theorem frz_sq {H : Hp} {t : Addr} {xs : List V} (h : FrzT H t xs) : SqT K H t xs := let ⟨o, _, z⟩ := h; .inl (.inr ⟨o, z⟩)
theorem st_kp (A : AtOk e) {H H' : Hp} {o t : Addr} {ob : HO} {st : List Stp} (ho : H o = some ob) (hn : NoTup ob) (k : Kp o H H') (h7 : In7 (hs st)) (h : StIs e K H t st) : StIs e K H' t st := by
  obtain ⟨cs, es, h1, h2, h3, h4⟩ := h
  have tk := kp_tk ho hn k
  exact ⟨cs, es, frz_kp ho hn k h1, h2, fun j c q x y => sqT_tk tk (h3 j c q x y), es_tk A tk h7 h4⟩
theorem Paired.at' {α β : Type} {F : α → β → Prop} : ∀ {l : List α} {m : List β}, Paired F l m → ∀ {j : Nat}, j < l.length → ∃ x, l[j]? = some x ∧ ∃ y, m[j]? = some y ∧ F x y := by
  intro l m r
  induction r with
  | nil => intro j h; exact absurd h (Nat.not_lt_zero _)
  | @cons p q ps qs z t ih =>
    intro j h
    cases j with
    | zero => exact ⟨p, rfl, q, rfl, z⟩
    | succ j =>
      obtain ⟨x, a1, y, a2, a3⟩ := ih (j := j) (by simpa using h)
      exact ⟨x, by simpa using a1, y, by simpa using a2, a3⟩
theorem ok_init (A : AtOk e) (T : Top K mg a) (B : PrC K C p) : FnOk P w K mg base CX0 1 p.fI p.dI ["self", "steps", "clash"] (spInit e w K C) := by
  refine B.F_I.ok sc_Propagation_init (fun vs H Q E h => ?_) (fun cdv A' outer s H vs Q E hr h => ?_)
  · obtain ⟨_, _, _, _, _, rfl, _⟩ := h
    rfl
  · obtain ⟨o, t, dx, k, st, rfl, ho, hst, h7, nd, hl, q⟩ := h
    refine ⟨_, (pss_cons (ps_fld (pv 0) (pv 1) rfl)
    (pss_cons (ps_fld (pv 0) (pv 2) rfl)
    (pss_cons (ps_fld (pv 0) (pe_callTy call_tuple_of (by rfl) T.z_tuple (by decide +kernel) (pa_cons (pe_lc (own := [("literal", 3), ("_", 4)]) rfl sc_Propagation_init.nd (R1.PI.or (pi_list (pv 1)) (pi_tup (pv 1))) (blkOk_by (own := [("literal", 3), ("_", 4)]) (N := ["self", "steps", "clash", "literal", "_"]) (sc := defScope s_Propagation_init) (by decide +kernel)) (fun _ _ _ _ _ => (R1.pg_tupK (K := K) (n := 2) rfl rfl (pgs_cons (pg_name (i := 3) sc_Propagation_init.nd rfl (.inl rfl)) (pgs_cons (pg_name (i := 4) sc_Propagation_init.nd rfl (.inl rfl)) pgs_nil)))) (fun _ _ _ _ _ => pts_nil) (fun _ _ _ _ _ => (pv 3))) pa_nil)) rfl)
    (pss_one (ps_fld (pv 0) (pe_callTy (RN.call_dictPN (K := K) (w := w) rfl (u16 hr) rfl rfl) (by rfl) T.z_dict (by decide +kernel) (pa_cons (pv 1) pa_nil)) rfl))))), ?_⟩
    have n0 : NoTup (.ins C dx []) := True.intro
    refine ⟨.ref t, rfl, .ref o, rfl, o, C, dx, [], rfl, ho, B.ins.cl, B.nS, by decide, ?_⟩
    have k1 : Kp o H (upd H o (.ins C dx (putF "steps" (.ref t) []))) := (Kp.refl _ _).put
    refine ⟨.int (k : Int), rfl, .ref o, rfl, o, C, dx, _, rfl, upd_same, B.ins.cl, B.nC, by rw [pf1]; simp, ?_⟩
    have k2 : Kp o H (upd (upd H o (.ins C dx (putF "steps" (.ref t) []))) o (.ins C dx (putF "clash" (.int (k : Int)) (putF "steps" (.ref t) [])))) := k1.put
    rw [pf1, pf2] at k2 ⊢
    have ho2 : (upd (upd H o (.ins C dx ([("steps", .ref t)] : List (Str × V)))) o (.ins C dx ([("steps", .ref t), ("clash", .int (k : Int))] : List (Str × V)))) o = _ := upd_same
    generalize upd (upd H o (.ins C dx ([("steps", .ref t)] : List (Str × V)))) o (.ins C dx ([("steps", .ref t), ("clash", .int (k : Int))] : List (Str × V))) = H2 at k2 ho2 ⊢
    have n2 : NoTup (.ins C dx ([("steps", .ref t), ("clash", .int (k : Int))] : List (Str × V))) := True.intro
    obtain ⟨cs, es, f2, c2, p2, e2⟩ := st_kp A ho n0 k2 h7 hst
    have le : es.length = st.length := Paired.length e2
    refine .inr ⟨.ref t, rfl, t, rfl, ⟨_, frz_sq f2⟩, fun D nD => ?_⟩
    have lc : (cs.map V.ref).length = st.length := by rw [List.length_map, c2, le]
    refine R1.walk_it (walk_tup (xs := cs.map V.ref)) (fun u H3 => Same H2 H3 ∧ ∃ acc, H3 D = some (.lst acc) ∧ R1.Al (Li e K H3) acc ((hs st).take u)) ⟨same_upd nD, [], upd_same, R1.Al.nil⟩ (fun u H3 _ h => sqT_tk (Same.tk h.1) (frz_sq f2)) ?_ ?_
    · rintro u x _ H3 hu ⟨sm, acc, hD, hB⟩ ⟨rfl, hx⟩
      have hu' : u < cs.length := by rw [List.length_map] at hu; exact hu
      have g1 : cs[u]? = some cs[u] := List.getElem?_eq_getElem hu'
      rw [List.getElem?_map, g1] at hx
      obtain rfl : V.ref cs[u] = x := Option.some.inj hx
      obtain ⟨q0, g2, q1, g3, z⟩ := Paired.at' e2 (show u < es.length by omega)
      have tk := Same.tk sm
      have hq := sqT_tk tk (p2 u _ _ g1 g2)
      have l7 : q1.1.1 < 7 := h7 _ (by unfold hs; exact List.mem_map.mpr ⟨q1, List.mem_of_getElem? g3, rfl⟩)
      have et : (hs st).take (u + 1) = (hs st).take u ++ [q1.1] := by
        rw [List.take_add_one]
        unfold hs
        rw [List.getElem?_map, g3]
        rfl
      have la : acc.length ≤ 1000 := by
        have := hB.1
        rw [List.length_take] at this
        unfold hs at this
        rw [List.length_map] at this
        omega
      refine ⟨_, _, rfl, hq, rfl, _, _, rfl, _, _, rfl, rfl, rfl, _, rfl, acc, hD, small1000 la, K15.Same.mut sm nD, _, upd_same, ?_⟩
      have k4 : Tk H3 (upd H3 D (.lst (acc ++ [.ref q0.2.1]))) := tk_upd hD True.intro
      rw [et]
      exact R1.Al.snoc (al_tk A (fun m hm => h7 m (List.mem_of_mem_take hm)) k4 hB) ((z.2.1.tk A l7 tk).tk A l7 k4)
    · rintro H3 ⟨sm, acc, hD, hB⟩
      have lh : (hs st).length = (cs.map V.ref).length := by unfold hs; rw [List.length_map, lc]
      rw [← lh, List.take_length] at hB
      refine ⟨D, acc, rfl, .inl ⟨.of hD, fun l nl => ?_⟩⟩
      have s4 : Same H2 (upd H3 l (.tup acc)) := sm.trans (same_upd nl)
      have hl4 : (upd H3 l (.tup acc)) l = some (.tup acc) := upd_same
      have hB4 : R1.Al (Li e K (upd H3 l (.tup acc))) acc (hs st) := al_tk A h7 (tk_new nl) hB
      generalize upd H3 l (.tup acc) = H4 at s4 hl4 hB4 ⊢
      have ho4 := s4 _ _ ho2
      refine ⟨.ref o, rfl, o, C, dx, _, rfl, ho4, B.ins.cl, B.nL, by simp, ?_⟩
      rw [pf3]
      have k5 : Kp o H (upd H4 o (.ins C dx ([("steps", .ref t), ("clash", .int (k : Int)), ("literals", .ref l)] : List (Str × V)))) := (k2.same s4).put
      have k45 : Kp o H4 (upd H4 o (.ins C dx ([("steps", .ref t), ("clash", .int (k : Int)), ("literals", .ref l)] : List (Str × V)))) := (Kp.refl _ _).put
      have ho5 : (upd H4 o (.ins C dx ([("steps", .ref t), ("clash", .int (k : Int)), ("literals", .ref l)] : List (Str × V)))) o = _ := upd_same
      have hlo : l ≠ o := fun z => by rw [z, ho4] at hl4; cases hl4
      have hl5 := k45 l _ hlo hl4
      have hB5 := al_tk A h7 (kp_tk ho4 n2 k45) hB4
      generalize upd H4 o (.ins C dx ([("steps", .ref t), ("clash", .int (k : Int)), ("literals", .ref l)] : List (Str × V))) = H5 at k5 ho5 hl5 hB5 ⊢
      obtain ⟨cs5, es5, f5, c5, p5, e5⟩ := st_kp A ho n0 k5 h7 hst
      have l5 : es5.length = st.length := Paired.length e5
      refine ⟨.ref t, rfl, t, cs5, es5, rfl, f5, c5, by omega, p5, es_keys A h7 e5, es_nodup A h7 nd e5, fun d nd' => ?_⟩
      have k6 : Kp o H (upd H5 d (dN w d es5)) := k5.new nd'
      have s56 : Same H5 (upd H5 d (dN w d es5)) := same_upd nd'
      have hd6 : (upd H5 d (dN w d es5)) d = some (dN w d es5) := upd_same
      have ho6 := s56 _ _ ho5
      have hl6 := s56 _ _ hl5
      have hB6 := al_tk A h7 (Same.tk s56) hB5
      have e6 := es_tk A (Same.tk s56) h7 e5
      generalize upd H5 d (dN w d es5) = H6 at k6 hd6 ho6 hl6 hB6 e6 ⊢
      refine ⟨.ref o, rfl, o, C, dx, _, rfl, ho6, B.ins.cl, B.nD, by simp, ?_⟩
      rw [pf4]
      have n6 : NoTup (.ins C dx ([("steps", .ref t), ("clash", .int (k : Int)), ("literals", .ref l)] : List (Str × V))) := True.intro
      have k7 : Kp o H (upd H6 o (.ins C dx (pfs t l d k))) := k6.put
      have k67 : Kp o H6 (upd H6 o (.ins C dx (pfs t l d k))) := (Kp.refl _ _).put
      have hdo : d ≠ o := fun z => by rw [z, ho6] at hd6; cases hd6
      have tk := kp_tk ho6 n6 k67
      exact q _ k7 ⟨dx, t, l, d, upd_same, st_kp A ho n0 k7 h7 hst, ⟨acc, k67 l _ hlo hl6, al_tk A h7 tk hB6⟩, es5, k67 d _ hdo hd6, es_tk A tk h7 e6⟩
theorem lkS (t lt ld : Addr) (k : Nat) : (pfs t lt ld k).lookup ("steps" : Str) = some (V.ref t) := rfl
theorem lkC (t lt ld : Addr) (k : Nat) : (pfs t lt ld k).lookup ("clash" : Str) = some (V.int (k : Int)) := rfl
theorem lkL (t lt ld : Addr) (k : Nat) : (pfs t lt ld k).lookup ("literals" : Str) = some (V.ref lt) := rfl
theorem lkD (t lt ld : Addr) (k : Nat) : (pfs t lt ld k).lookup ("_labels" : Str) = some (V.ref ld) := rfl
theorem st_len {H : Hp} {t : Addr} {st : List Stp} (h : StIs e K H t st) : ∃ xs, SqT K H t xs ∧ xs.length = st.length := by
  obtain ⟨cs, es, h1, h2, _, h4⟩ := h
  have := Paired.length h4
  exact ⟨_, frz_sq h1, by rw [List.length_map]; omega⟩
def spLen (e : Nat → PyData) (w : World) (K : PySem.W.Frag) (C : Addr) : Sp := fun vs H Q _ => ∃ (o : Addr) (st : List Stp) (k : Nat), vs = [.ref o] ∧ PrIs e w K H C o st k ∧ Q (.int (st.length : Nat)) H
theorem ok_len (T : Top K mg a) (B : PrC K C p) : FnOk P w K mg base CX0 1 p.fL p.dL ["self"] (spLen e w K C) := by
  refine B.F_L.ok sc_Propagation_len (fun vs H Q E h => ?_) (fun cdv A' outer s H vs Q E hr h => ?_)
  · obtain ⟨_, _, _, rfl, _⟩ := h
    rfl
  · obtain ⟨o, st, k, rfl, ⟨dx, t, lt, ld, ho, hst, _⟩, q⟩ := h
    refine ⟨_, (pss_one (ps_ret (pe_callB (CallR.or call_len_str call_len_seq) (by rfl) T.z_len (by decide +kernel) (pa_cons (pe_fld (pv 0) (by rfl)) pa_nil)))), ?_⟩
    obtain ⟨xs, hx, lx⟩ := st_len hst
    refine ⟨.ref o, rfl, o, C, dx, _, _, rfl, ho, B.ins.cl, B.nS, lkS _ _ _ _, .inr ⟨t, xs, rfl, .inr hx, ?_⟩⟩
    rw [lx]
    exact q
def spIter (K : PySem.W.Frag) (C : Addr) : Sp := fun vs H Q _ => ∃ (o dx t lt ld : Addr) (k : Nat) (xs : List V), vs = [.ref o] ∧ H o = some (.ins C dx (pfs t lt ld k)) ∧ SqT K H lt xs ∧ ∀ it, H it = none → Q (.ref it) (upd H it (RI.ItTO lt it))
theorem ok_iter (T : Top K mg a) (B : PrC K C p) : FnOk P w K mg base CX0 1 p.fT p.dT ["self"] (spIter K C) := by
  refine B.F_T.ok sc_Propagation_iter (fun vs H Q E h => ?_) (fun cdv A' outer s H vs Q E hr h => ?_)
  · obtain ⟨_, _, _, _, _, _, _, rfl, _⟩ := h
    rfl
  · obtain ⟨o, dx, t, lt, ld, k, xs, rfl, ho, hx, q⟩ := h
    refine ⟨_, (pss_one (ps_ret (pe_callB RI.call_iterT (by rfl) T.z_iter (by decide +kernel) (pa_cons (pe_fld (pv 0) (by rfl)) pa_nil)))), ?_⟩
    exact ⟨.ref o, rfl, o, C, dx, _, _, rfl, ho, B.ins.cl, B.nL, lkL _ _ _ _, lt, xs, rfl, hx, q⟩
def spCont (e : Nat → PyData) (w : World) (K : PySem.W.Frag) (C : Addr) : Sp := fun vs H Q _ => ∃ (o : Addr) (st : List Stp) (k : Nat) (x : V) (l : Lt), vs = [.ref o, x] ∧ PrIs e w K H C o st k ∧ In7 (hs st) ∧ l.1 < 7 ∧ Li e K H x l ∧ Q (.bl (decide (l ∈ hs st))) H
theorem ok_cont (A : AtOk e) (T : Top K mg a) (B : PrC K C p) : FnOk P w K mg base CX0 1 p.fN p.dN ["self", "x"] (spCont e w K C) := by
  refine B.F_N.ok sc_Propagation_contains (fun vs H Q E h => ?_) (fun cdv A' outer s H vs Q E hr h => ?_)
  · obtain ⟨_, _, _, _, _, rfl, _⟩ := h
    rfl
  · obtain ⟨o, st, k, x, l, rfl, ⟨dx, t, lt, ld, ho, hst, hlt, es, hd, hE⟩, h7, l7, hx, q⟩ := h
    refine ⟨_, (pss_one (ps_ret (pe_cmpR (RN.op_inN (u16 hr) rfl rfl) (pv 1) (pe_fld (pv 0) (by rfl)) rfl))), ?_⟩
    obtain ⟨b, u, rfl, _, _⟩ := li_split hx
    refine ⟨.ref b, rfl, .ref o, rfl, o, C, dx, _, _, rfl, ho, B.ins.cl, B.nD, lkD _ _ _ _, b, ld, es, nk (eL e l), rfl, rfl, hd, es_keys A h7 hE, key_li A l7 hx, ?_⟩
    simp only [Bool.false_eq_true, if_false]
    rw [es_in A l7 h7 hE]
    exact q
end
end K15


namespace K15
open PySem PySem.Spec PyProof.Rows L2 RN
/-! ### the errors -/
def initL : Stmt := inClass (topS 3) 0
def initO : Stmt := inClass (topS 4) 0
theorem sc_initL : FnScope ["self", "value"] ["self", "value"] (defScope initL) := ⟨rfl, rfl, rfl, by decide +kernel, rfl, by decide +kernel, by decide +kernel⟩
theorem sc_initO : FnScope ["self", "value"] ["self", "value"] (defScope initO) := ⟨rfl, rfl, rfl, by decide +kernel, rfl, by decide +kernel, by decide +kernel⟩
structure ErX (K : PySem.W.Frag) (C L O fI : Addr) (dI : FuncData) (qual : Str) (st : Stmt) : Prop where
  ox : OexC K C
  iC : PySem.W.findIn K (.ref C) "__init__" = some (some (.ref fI))
  tI : PySem.W.typeIn K (.ref fI) = some (.type "function")
  noV : PySem.W.findIn K (.ref C) "value" = some none
  F_init : Fun K "__init__" qual st fI dI
  b_init : Binds K dI ["self", "value"] []
  xf : XfC K C
  xc : ExcC K C
  te : PySem.W.exmOne K (.ref C) (.ref C) = some true
  su : PySem.W.kitOne K (.ref C) (.ref L) = some true
  no : PySem.W.kitOne K (.ref C) (.ref O) = some false
section
variable {P : Program} {w : World} {K : PySem.W.Frag} {mg : Str → Option Value} {base : Heap} {a : Ad} {fI : Addr} {dI : FuncData}
theorem pass0F {X : Cx} : Passes CX0 X (fun _ _ _ => False) := fun _ _ _ _ _ _ _ h => h.elim
def spErr (K : PySem.W.Frag) (C : Addr) : Sp := fun vs H Q _ => ∃ (e : Addr) (v : V), vs = [.ref e, v] ∧ H e = some (exo e C none) ∧ ∀ dx, H dx = none → dx ≠ e → Q .non (upd (upd H dx (exd dx [("value", v)])) e (exo e C (some dx)))
theorem ok_initL {C L O : Addr} (EX : ErX K C L O fI dI "BadLiteral.__init__" initL) : FnOk P w K mg base CX0 1 fI dI ["self", "value"] (spErr K C) := by
  refine EX.F_init.ok sc_initL (fun vs H Q E h => ?_) (fun cdv A outer s H vs Q E hr h => ?_)
  · obtain ⟨e, v, rfl, _⟩ := h
    rfl
  · obtain ⟨e, v, rfl, he, q⟩ := h
    refine ⟨_, pss_one (ps_ost (pv 0) (pv 1)), ?_⟩
    exact ⟨v, rfl, .ref e, rfl, e, _, rfl, EX.ox, EX.noV, .inl ⟨he, fun dx hd ne => q dx hd ne⟩⟩
theorem ok_initO {C L O : Addr} (EX : ErX K C L O fI dI "BadOrder.__init__" initO) : FnOk P w K mg base CX0 1 fI dI ["self", "value"] (spErr K C) := by
  refine EX.F_init.ok sc_initO (fun vs H Q E h => ?_) (fun cdv A outer s H vs Q E hr h => ?_)
  · obtain ⟨e, v, rfl, _⟩ := h
    rfl
  · obtain ⟨e, v, rfl, he, q⟩ := h
    refine ⟨_, pss_one (ps_ost (pv 0) (pv 1)), ?_⟩
    exact ⟨v, rfl, .ref e, rfl, e, _, rfl, EX.ox, EX.noV, .inl ⟨he, fun dx hd ne => q dx hd ne⟩⟩
/-- what is raised -/
def RaisesV (C : Addr) (H : Hp) (v : V) (E : XK) : Prop := ∀ d H', H d = none → Same H H' → H' d = some (.xd [("value", v)]) → E (.ref C) (some d) H'
theorem raise_v {C : Addr} {H : Hp} {v : V} {E : XK} {ta : TA} {σ : L2.St} (ha : ∀ Q : List V → Hp → Prop, Q [v] H → ta σ H Q) (h : RaisesV C H v E) : tMkO C (spErr K C) [] ta σ H E := by
  refine ha _ ⟨by show 1 ≤ 1000; decide, fun e ne => ⟨e, v, rfl, upd_same, fun dx hd hne => ⟨rfl, dx, [("value", v)], upd_same, ?_, ?_, ?_⟩⟩⟩
  · rw [upd_ne hne, upd_same]
  · rw [upd_ne hne] at hd; exact hd
  · rw [upd_ne hne] at hd
    refine h dx _ hd (fun b o hb => ?_) upd_same
    rw [upd_ne (ne_of_none hb hd), del_ne (ne_of_none hb ne), upd_ne (ne_of_none hb ne), upd_ne (ne_of_none hb hd), upd_ne (ne_of_none hb ne)]
    exact hb
/-! ### o[x] -/
def spGet (e : Nat → PyData) (w : World) (K : PySem.W.Frag) (C CL : Addr) : Sp := fun vs H Q E => ∃ (o : Addr) (st : List Stp) (k : Nat) (x : V) (l : Lt), vs = [.ref o, x] ∧ PrIs e w K H C o st k ∧ In7 (hs st) ∧ l.1 < 7 ∧ Li e K H x l ∧ (∀ q, st.find? (fun q => decide (q.1 = l)) = some q → Q (.int (q.2 : Int)) H) ∧ (l ∉ hs st → RaisesV CL H x E)
theorem ok_get {e : Nat → PyData} {p : Pd} {C LA OA : Addr} (A : AtOk e) (T : Top K mg a) (B : PrC K C p) (EL : ErX K a.c_BadLiteral LA OA fI dI "BadLiteral.__init__" initL) : FnOk P w K mg base (CX P w) 3 p.fG p.dG ["self", "at"] (spGet e w K C a.c_BadLiteral) := by
  have G_init := ok_initL (P := P) (w := w) (mg := mg) (base := base) EL
  refine B.F_G.okX sc_Propagation_getitem (fun vs H Q E h => ?_) (fun cdv A' outer s H vs Q E hr h => ?_)
  · obtain ⟨_, _, _, _, _, rfl, _⟩ := h
    rfl
  · obtain ⟨o, st, k, x, l, rfl, ⟨dx, t, lt, ld, ho, hst, hlt, es, hd, hE⟩, h7, l7, hx, q, r⟩ := h
    refine ⟨_, (pss_cons (ps_if (pt_cmpR (RN.op_notInN (u16 hr) rfl rfl) (pv 1) (pe_fld (pv 0) (by rfl)) rfl)
      (pss_one (ps_raise rfl (takes_of rfl rfl rfl rfl) (pmk_oex EL.ox EL.iC EL.tI G_init (hr.mono (by decide)) EL.b_init .nil pass0F (by rfl) T.m_BadLiteral (pa_cons (pv 1) pa_nil))))
      pss_nil)
    (pss_one (ps_ret (RN.pe_ixN (u16 hr) rfl rfl (pe_fld (pv 0) (by rfl)) (pv 1) (fun _ _ => rfl))))), ?_⟩
    obtain ⟨b, u, rfl, _, _⟩ := li_split hx
    have hk := key_li A l7 hx
    have hks := es_keys A h7 hE
    have hA : Ans (tTest (tOp (rInN K w true) (tVar 1) (tFld K (tVar 0) "_labels"))) [some (.ref o), some (.ref b)] H (!decide (l ∈ hs st)) := fun Q q => by
      refine ⟨.ref b, rfl, .ref o, rfl, o, C, dx, _, _, rfl, ho, B.ins.cl, B.nD, lkD _ _ _ _, b, ld, es, nk (eL e l), rfl, rfl, hd, hks, hk, _, rfl, ?_⟩
      simp only [if_true]
      rw [es_in A l7 h7 hE]
      exact q
    refine if_ans hA (fun z => ?_) (fun z => ?_)
    · have hn : l ∉ hs st := by simpa using z
      exact raise_v (fun Q q => ⟨.ref b, rfl, q⟩) (r hn)
    · have hin : l ∈ hs st := by simpa using z
      have g := es_get A l7 h7 hE
      cases f : st.find? (fun q => decide (q.1 = l)) with
      | none =>
        have i := find_in l st
        rw [f, decide_eq_true hin] at i
        cases i
      | some q0 =>
        rw [f] at g
        exact ⟨.ref o, rfl, o, C, dx, _, _, rfl, ho, B.ins.cl, B.nD, lkD _ _ _ _, .ref b, rfl, b, ld, es, nk (eL e l), .int (q0.2 : Int), rfl, rfl, hd, hks, hk, g, q q0 f⟩
end
end K15


/-! the order of the labels -/
namespace K15
open PySem PySem.Spec PyProof.Rows L2 RN
section
variable {P : Program} {w : World} {K : PySem.W.Frag} {mg : Str → Option Value} {base : Heap} {a : Ad} {fI : Addr} {dI : FuncData}
def ivN (ns : List Nat) : List V := ns.map fun n : Nat => V.int (n : Int)
def dtN (ns : List Nat) : List PyData := ns.map fun n : Nat => PyData.int (n : Int)
def srtN (ns : List Nat) : List Nat := R1.sortK (fun n : Nat => PyData.int (n : Int)) ns
theorem dp_iv {H : Hp} : ∀ ns : List Nat, DpAll K H (ivN ns) (dtN ns)
  | [] => .nil
  | n :: ns => .cons (.int _) (dp_iv ns)
theorem eqv_iv : ∀ ns ms : List Nat, PyData.eqvAll (dtN ns) (dtN ms) = decide (ns = ms)
  | [], [] => by simp [dtN, PyData.eqvAll]
  | [], _ :: _ => by simp [dtN, PyData.eqvAll]
  | _ :: _, [] => by simp [dtN, PyData.eqvAll]
  | n :: ns, m :: ms => by
    show (PyData.eqv (.int (n : Int)) (.int (m : Int)) && PyData.eqvAll (dtN ns) (dtN ms)) = _
    rw [eqv_iv ns ms]
    have : PyData.eqv (.int (n : Int)) (.int (m : Int)) = decide (n = m) := by
      show ((n : Int) == (m : Int)) = _
      rw [Bool.eq_iff_iff, beq_iff_eq, decide_eq_true_eq]; omega
    rw [this]
    by_cases h : n = m
    · subst h; simp
    · simp [h]
theorem shaped_iv (ns : List Nat) : SeqAt.shaped (.list (dtN ns)) = true := by
  have h : PyData.canLayAll0 (dtN ns) = true ∧ PyData.depthAll (dtN ns) = 0 := by
    induction ns with
    | nil => exact ⟨rfl, rfl⟩
    | cons n ns ih =>
      refine ⟨?_, ?_⟩
      · show (true && PyData.canLayAll0 (dtN ns)) = true
        rw [ih.1]; rfl
      · show max 0 (PyData.depthAll (dtN ns)) = 0
        rw [ih.2]; rfl
  have c : (PyData.list (dtN ns)).depth ≤ 64 := by
    show PyData.depthAll (dtN ns) + 1 ≤ 64
    rw [h.2]; decide
  unfold SeqAt.shaped
  rw [show (PyData.list (dtN ns)).canLay0 = true from h.1, decide_eq_true c]; rfl
theorem srtN_perm (ns : List Nat) : (srtN ns).Perm ns := List.mergeSort_perm ns _
theorem srtN_len (ns : List Nat) : (srtN ns).length = ns.length := (srtN_perm ns).length_eq
theorem sortV_iv (ns : List Nat) : R0.sortV (ivN ns) (dtN ns) = ivN (srtN ns) := by
  have h := R1.sort_al (R := fun x (n : Nat) => x = V.int (n : Int)) (enc := fun n : Nat => PyData.int (n : Int)) (xs := ivN ns) (rs := ns) ⟨by unfold ivN; simp, fun i x r a b => by
    unfold ivN at a
    rw [List.getElem?_map, b] at a
    exact (Option.some.inj a).symm⟩
  refine List.ext_getElem? fun i => ?_
  unfold ivN
  rw [List.getElem?_map]
  cases hi : (srtN ns)[i]? with
  | none =>
    rw [List.getElem?_eq_none_iff] at hi
    rw [List.getElem?_eq_none_iff.mpr]; rfl
    have := h.1
    show (R0.sortV (ivN ns) (ns.map fun n : Nat => PyData.int (n : Int))).length ≤ i
    rw [this]
    exact hi
  | some r =>
    have lt : i < (R0.sortV (ivN ns) (dtN ns)).length := by
      have := (List.getElem?_eq_some_iff.mp hi).1
      have l := h.1
      show i < (R0.sortV (ivN ns) (ns.map fun n : Nat => PyData.int (n : Int))).length
      rw [l]
      exact this
    have g := List.getElem?_eq_getElem lt
    have := h.2 i _ r g hi
    exact g.trans (congrArg some this)
/-- sorted of a list of numbers -/
theorem sorted_iv {H : Hp} {p : Addr} {ns : List Nat} {Q : VK} (h : SqL K H p (ivN ns)) (q : ∀ l, H l = none → Q (.ref l) (upd H l (.lst (ivN (srtN ns))))) : R0.rSortD K [.ref p] H Q := by
  refine ⟨p, ivN ns, dtN ns, rfl, h, dp_iv ns, fun d hd d' hd' => ?_, .inr fun d hd => ?_, fun d hd => ?_, fun l nl => ?_⟩
  · obtain ⟨n, _, rfl⟩ := List.mem_map.mp hd
    obtain ⟨m, _, rfl⟩ := List.mem_map.mp hd'
    simp [PySem.W.alike]
  · obtain ⟨n, _, rfl⟩ := List.mem_map.mp hd
    exact ⟨(fun e => nomatch e), (fun _ e => nomatch e)⟩
  · obtain ⟨n, _, rfl⟩ := List.mem_map.mp hd
    exact Nat.zero_le _
  · rw [sortV_iv]
    exact q l nl
def KsIs (kvs : List (Key × V)) (ks : List Nat) : Prop := kvs.map (·.1) = ks.map fun n : Nat => (Sum.inl (n : Int) : Key)
def spOrd (K : PySem.W.Frag) (CO : Addr) : Sp := fun vs H Q E => ∃ (cd : Addr) (kvs : List (Key × V)) (ks : List Nat) (x : V), vs = [.ref cd, x] ∧ H cd = some (.dK kvs) ∧ KsIs kvs ks ∧ ks.length ≤ 100 ∧
  ((x = .non ∧ ∀ p H', Same H H' → H p = none → H' p = some (.lst (ivN (srtN ks))) → Q (.ref p) H') ∨
   ∃ q ns, x = .ref q ∧ (SqL K H q (ivN ns) ∨ SqT K H q (ivN ns)) ∧ ns.length ≤ 100 ∧ (srtN ns = srtN ks → ∀ p H', Same H H' → H p = none → H' p = some (.lst (ivN ns)) → Q (.ref p) H') ∧ (srtN ns ≠ srtN ks → ∀ H', Same H H' → RaisesV CO H' x E))
theorem keys_iv {kvs : List (Key × V)} {ks : List Nat} (h : KsIs kvs ks) : (kvs.map fun kv => kV kv.1) = ivN ks := by
  have : (kvs.map fun kv => kV kv.1) = (kvs.map (·.1)).map kV := by rw [List.map_map]; rfl
  rw [this, h, List.map_map]
  rfl
theorem ok_order {L O : Addr} (T : Top K mg a) (EO : ErX K a.c_BadOrder L O fI dI "BadOrder.__init__" initO) (G_is_int : FnOk P w K mg base CX0 1 a.f_is_int a.d_is_int ["value"] (spIsInt K)) : FnOk P w K mg base (CX P w) 3 a.f_checked_order a.d_checked_order ["clauses", "order"] (spOrd K a.c_BadOrder) := by
  have G_init := ok_initO (P := P) (w := w) (mg := mg) (base := base) EO
  refine T.F_checked_order.okX sc_checked_order (fun vs H Q E h => ?_) (fun cdv A' outer s H vs Q E hr h => ?_)
  · obtain ⟨_, _, _, _, rfl, _⟩ := h
    rfl
  · obtain ⟨cd, kvs, ks, x, rfl, hcd, hk, hl, h⟩ := h
    refine ⟨_, (pss_cons (ps_set (i := 2) sc_checked_order.nd rfl (.inl rfl) (pe_callB (R0.cr_sortD hr.units) (by rfl) T.z_sorted (by decide +kernel) (pa_cons (pe_callTy (call_list_dK rfl) (by rfl) T.z_list (by decide +kernel) (pa_cons (pv 0) pa_nil)) pa_nil)))
    (pss_cons (ps_if (pt_cmpR op_isN (pv 1) pe_non (nomark _))
      (pss_one (ps_ret (pv 2)))
      pss_nil)
    (pss_cons (ps_if (PW.pt (pw_or (pt_not (pt_val (pe_callB (cr_all rfl) (by rfl) T.z_all (by decide +kernel) (pa_cons (pe_lc (own := [("label", 3)]) rfl sc_checked_order.nd (R1.PI.or (pi_list (pv 1)) (pi_tup (pv 1))) (blkOk_by (own := [("label", 3)]) (N := ["clauses", "order", "labels", "label"]) (sc := defScope s_checked_order) (by decide +kernel)) (fun _ _ _ _ _ => (pg_name (i := 3) sc_checked_order.nd rfl (.inl rfl))) (fun _ _ _ _ _ => pts_nil) (fun _ _ _ _ _ => (pe_call G_is_int (hr.mono (by decide)) (by rfl) T.m_is_int T.F_is_int.kp T.b_is_int .nil pass0 (pa_cons (pv 3) pa_nil)))) pa_nil)))) (pw_or1 (pt_cmpR (OpR.or op_ne (op_neD hr.units)) (pe_callB (R0.cr_sortD hr.units) (by rfl) T.z_sorted (by decide +kernel) (pa_cons (pe_callTy call_list_of (by rfl) T.z_list (by decide +kernel) (pa_cons (pv 1) pa_nil)) pa_nil)) (pv 2) (nomark _)))))
      (pss_one (ps_raise rfl (takes_of rfl rfl rfl rfl) (pmk_oex EO.ox EO.iC EO.tI G_init (hr.mono (by decide)) EO.b_init .nil pass0F (by rfl) T.m_BadOrder (pa_cons (pv 1) pa_nil))))
      pss_nil)
    (pss_one (ps_ret (pe_callTy call_list_of (by rfl) T.z_list (by decide +kernel) (pa_cons (pv 1) pa_nil))))))), ?_⟩
    refine ⟨.ref cd, rfl, cd, kvs, rfl, hcd, fun q1 n1 => ?_⟩
    rw [keys_iv hk]
    have s1 := same_upd (o := .lst (ivN ks)) n1
    dsimp only [tNil]
    refine sorted_iv (.of upd_same) fun l nl => ?_
    have s2 := s1.trans (same_upd (o := .lst (ivN (srtN ks))) nl)
    have hl2 : (upd (upd H q1 (.lst (ivN ks))) l (.lst (ivN (srtN ks)))) l = _ := upd_same
    have n2 : H l = none := s1.free nl
    generalize upd (upd H q1 (.lst (ivN ks))) l (.lst (ivN (srtN ks))) = H2 at s2 hl2 ⊢
    rcases h with ⟨rfl, q⟩ | ⟨q0, ns, rfl, hq, hn, qa, qb⟩
    · exact ⟨.non, rfl, rfl, _, rfl, iteT ⟨_, rfl, q l H2 s2 n2 hl2⟩⟩
    · refine ⟨.ref q0, rfl, rfl, _, rfl, iteF ?_⟩
      have fin : ∀ H3, Same H2 H3 → ∀ Q : Bool → Hp → Prop, (∀ H4, Same H3 H4 → Q (!decide (srtN ns = srtN ks)) H4) → (tTest (tOp (fun x y H Q => rNe x y H Q ∨ rNeD K x y H Q) (tCB (R0.rSortD K) (tCons (tCB (fun xs H Q => ∃ p ys, xs = [V.ref p] ∧ (SqL K H p ys ∨ SqT K H p ys) ∧ ∀ l, H l = none → Q (V.ref l) (upd H l (.lst ys))) (tCons (tVar 1) tNil)) tNil)) (tVar 2))) [some (.ref cd), some (.ref q0), some (.ref l), none] H3 Q := by
        intro H3 s3 Q hQ
        have hq3 : SqL K H3 q0 (ivN ns) ∨ SqT K H3 q0 (ivN ns) := hq.imp (sqL_same (s2.trans s3)) (sqT_tk (Same.tk (s2.trans s3)))
        refine ⟨.ref q0, rfl, q0, _, rfl, hq3, fun l2 nl2 => ?_⟩
        dsimp only [tNil]
        refine sorted_iv (.of upd_same) fun l3 nl3 => ?_
        have s4 : Same H3 (upd (upd H3 l2 (.lst (ivN ns))) l3 (.lst (ivN (srtN ns)))) := (same_upd nl2).trans (same_upd nl3)
        have h4 : (upd (upd H3 l2 (.lst (ivN ns))) l3 (.lst (ivN (srtN ns)))) l3 = _ := upd_same
        generalize upd (upd H3 l2 (.lst (ivN ns))) l3 (.lst (ivN (srtN ns))) = H4 at s4 h4 ⊢
        refine ⟨.ref l, rfl, .inr ⟨.list (dtN (srtN ns)), .list (dtN (srtN ks)), .lst (.of h4) (dp_iv _), .lst (.of (s4 _ _ (s3 _ _ hl2))) (dp_iv _), shaped_iv _, shaped_iv _, _, rfl, ?_⟩⟩
        rw [PyData.eqv, eqv_iv]
        exact hQ H4 s4
      have part : ∀ H3, Same H2 H3 → (!decide (srtN ns = srtN ks)) = true → RaisesV a.c_BadOrder H3 (.ref q0) E := fun H3 s3 z => qb (by simpa using z) H3 (s2.trans s3)
      have lx : (ivN ns).length = ns.length := by unfold ivN; rw [List.length_map]
      have turn : ∀ (D : Addr) (nD : H2 D = none) (u : Nat) (x : V) (H3 : Hp), u < (ivN ns).length → (Same H2 H3 ∧ H3 D = some (.lst ((ivN ns).take u |>.map fun _ => V.bl true))) → (ivN ns)[u]? = some x →
          tCall (spIsInt K) [] E0 (tCons (tVar 3) tNil) [some (.ref cd), some (.ref q0), some (.ref l), some x] H3 (fun v F5 => ∃ acc, F5 D = some (.lst acc) ∧ acc.length < sizeLine ∧ (Same H2 (upd F5 D (.lst (acc ++ [v]))) ∧ (upd F5 D (.lst (acc ++ [v]))) D = some (.lst ((ivN ns).take (u + 1) |>.map fun _ => V.bl true)))) := by
        rintro D nD u x H3 hu ⟨s3, hD⟩ hx
        obtain ⟨n, rfl⟩ : ∃ n : Nat, x = V.int (n : Int) := by
          unfold ivN at hx
          rw [List.getElem?_map] at hx
          cases g : ns[u]? with
          | none => rw [g] at hx; cases hx
          | some n => rw [g] at hx; exact ⟨n, (Option.some.inj hx).symm⟩
        have et : (ivN ns).take (u + 1) = (ivN ns).take u ++ [V.int (n : Int)] := by rw [List.take_add_one, hx]; rfl
        refine ⟨_, rfl, _, "int", true, false, rfl, .base (.int _), by decide +kernel, by decide +kernel, _, hD, ?_, K15.Same.mut s3 nD, ?_⟩
        · rw [List.length_map, List.length_take]
          exact small1000 (by omega)
        · rw [upd_same, et, List.map_append]; rfl
      have allT : (((ivN ns).map fun _ => true).all id) = true := by simp
      rcases hq with hq | hq
      · refine .inl ⟨.ref q0, rfl, q0, rfl, ⟨_, sqL_same s2 hq⟩, fun D nD => R1.walk_it (walk_list (xs := ivN ns)) (fun u H3 => Same H2 H3 ∧ H3 D = some (.lst ((ivN ns).take u |>.map fun _ => V.bl true))) ⟨same_upd nD, upd_same⟩ (fun u H3 _ h => sqL_same (s2.trans h.1) hq) (fun u x _ H3 hu h y => ?_) fun H3 h => ?_⟩
        · obtain ⟨rfl, hx⟩ := y
          exact ⟨rfl, turn D nD u x H3 hu h hx⟩
        · obtain ⟨s3, hD⟩ := h
          rw [List.take_length] at hD
          refine ⟨D, (ivN ns).map fun _ => true, rfl, SqL.of (by rw [hD, List.map_map]; rfl), ?_⟩
          rw [allT]
          refine ⟨_, rfl, iteF (fin H3 s3 _ fun H4 s4 => ?_)⟩
          by_cases h : srtN ns = srtN ks
          · rw [decide_eq_true h]
            refine iteF ⟨.ref q0, rfl, q0, _, rfl, .inl (sqL_same (s2.trans (s3.trans s4)) hq), fun r nr => qa h r _ ((s2.trans (s3.trans s4)).trans (same_upd nr)) ((s2.trans (s3.trans s4)).free nr) upd_same⟩
          · rw [decide_eq_false h]
            exact iteT (raise_v (fun Q q => ⟨_, rfl, q⟩) (part H4 (s3.trans s4) (by rw [decide_eq_false h]; rfl)))
      · refine .inr ⟨.ref q0, rfl, q0, rfl, ⟨_, sqT_tk (Same.tk s2) hq⟩, fun D nD => R1.walk_it (walk_tup (xs := ivN ns)) (fun u H3 => Same H2 H3 ∧ H3 D = some (.lst ((ivN ns).take u |>.map fun _ => V.bl true))) ⟨same_upd nD, upd_same⟩ (fun u H3 _ h => sqT_tk (Same.tk (s2.trans h.1)) hq) (fun u x _ H3 hu h y => ?_) fun H3 h => ?_⟩
        · obtain ⟨rfl, hx⟩ := y
          exact ⟨rfl, turn D nD u x H3 hu h hx⟩
        · obtain ⟨s3, hD⟩ := h
          rw [List.take_length] at hD
          refine ⟨D, (ivN ns).map fun _ => true, rfl, SqL.of (by rw [hD, List.map_map]; rfl), ?_⟩
          rw [allT]
          refine ⟨_, rfl, iteF (fin H3 s3 _ fun H4 s4 => ?_)⟩
          by_cases h : srtN ns = srtN ks
          · rw [decide_eq_true h]
            refine iteF ⟨.ref q0, rfl, q0, _, rfl, .inr (sqT_tk (Same.tk (s2.trans (s3.trans s4))) hq), fun r nr => qa h r _ ((s2.trans (s3.trans s4)).trans (same_upd nr)) ((s2.trans (s3.trans s4)).free nr) upd_same⟩
          · rw [decide_eq_false h]
            exact iteT (raise_v (fun Q q => ⟨_, rfl, q⟩) (part H4 (s3.trans s4) (by rw [decide_eq_false h]; rfl)))
end
end K15


/-! propagate -/
namespace K15
open PySem PySem.Spec PyProof.Rows L2 RN
section
variable {P : Program} {w : World} {K : PySem.W.Frag} {mg : Str → Option Value} {base : Heap} {a : Ad} {fI : Addr} {dI : FuncData} {e : Nat → PyData} {p : Pd}
theorem set_dN {X : Cx} {K : PySem.W.Frag} {w : World} (hu : X.A.units + 16 < cLine) (hK : X.K = K) (hW : X.w = w) : PSet X (rSetN K w) := by subst hK hW; exact set_dictN hu
/-- different literals, in the order given -/
def dd (ls : List Lt) : List Lt := ls.foldl (fun acc l => if l ∈ acc then acc else acc ++ [l]) []
def st0 (ls : List Lt) : List Stp := (dd ls).map fun l => (l, 0)
def rowsOf (R : Nat → List Lt) (ns : List Nat) : List Row := ns.map fun n => (n, R n)
def CkIs (e : Nat → PyData) (K : PySem.W.Frag) (H : Hp) (kvs : List (Key × V)) (R : Nat → List Lt) (ks : List Nat) : Prop := ∀ n ∈ ks, ∃ c0, valV kvs (.inl (n : Int)) = some (.ref c0) ∧ ClIs e K H c0 (R n)
def SqI (K : PySem.W.Frag) (H : Hp) (q : Addr) (xs : List V) : Prop := SqL K H q xs ∨ SqT K H q xs
def spProp (e : Nat → PyData) (w : World) (K : PySem.W.Frag) (C CO : Addr) : Sp := fun vs H Q E => ∃ (cd s0 : Addr) (x : V) (kvs : List (Key × V)) (ks : List Nat) (R : Nat → List Lt) (xs : List V) (ls : List Lt), vs = [.ref cd, .ref s0, x] ∧ H cd = some (.dK kvs) ∧ KsIs kvs ks ∧ ks.length ≤ 6 ∧
  (∀ n ∈ ks, (R n).length ≤ 3 ∧ In7 (R n)) ∧ CkIs e K H kvs R ks ∧ SqI K H s0 xs ∧ R1.Al (Li e K H) xs ls ∧ In7 ls ∧ ls.length ≤ 20 ∧
  ((x = .non ∧ ∀ o H', Same H H' → H o = none → PrIs e w K H' C o (run 100 (rowsOf R (srtN ks)) (st0 ls)).1 (run 100 (rowsOf R (srtN ks)) (st0 ls)).2 → Q (.ref o) H') ∨
   ∃ q ns, x = .ref q ∧ SqI K H q (ivN ns) ∧ ns.length ≤ 100 ∧ (srtN ns = srtN ks → ∀ o H', Same H H' → H o = none → PrIs e w K H' C o (run 100 (rowsOf R ns) (st0 ls)).1 (run 100 (rowsOf R ns) (st0 ls)).2 → Q (.ref o) H') ∧
    (srtN ns ≠ srtN ks → ∀ H', Same H H' → RaisesV CO H' x E))
theorem dd_take (ls : List Lt) (u : Nat) (l : Lt) (h : ls[u]? = some l) : dd (ls.take (u + 1)) = if l ∈ dd (ls.take u) then dd (ls.take u) else dd (ls.take u) ++ [l] := by
  have et : ls.take (u + 1) = ls.take u ++ [l] := by rw [List.take_add_one, h]; rfl
  unfold dd
  rw [et, List.foldl_append]
  rfl
theorem dd_go : ∀ (ls acc : List Lt), acc.Nodup → (∀ x ∈ ls.foldl (fun acc l => if l ∈ acc then acc else acc ++ [l]) acc, x ∈ acc ∨ x ∈ ls) ∧ (ls.foldl (fun acc l => if l ∈ acc then acc else acc ++ [l]) acc).Nodup ∧ (ls.foldl (fun acc l => if l ∈ acc then acc else acc ++ [l]) acc).length ≤ acc.length + ls.length
  | [], acc, h => ⟨fun x hx => .inl hx, h, Nat.le_refl _⟩
  | l :: ls, acc, h => by
    rw [List.foldl_cons]
    by_cases c : l ∈ acc
    · rw [if_pos c]
      obtain ⟨a1, a2, a3⟩ := dd_go ls acc h
      refine ⟨fun x hx => (a1 x hx).imp id fun z => List.mem_cons_of_mem _ z, a2, by rw [List.length_cons]; omega⟩
    · rw [if_neg c]
      have nd : (acc ++ [l]).Nodup := by
        refine List.nodup_append.mpr ⟨h, by simp, fun x hx y hy z => ?_⟩
        rw [List.mem_singleton.mp hy] at z
        subst z
        exact c hx
      obtain ⟨a1, a2, a3⟩ := dd_go ls (acc ++ [l]) nd
      refine ⟨fun x hx => ?_, a2, by rw [List.length_append] at a3; simp at a3 ⊢; omega⟩
      rcases a1 x hx with z | z
      · rcases List.mem_append.mp z with z | z
        · exact .inl z
        · rw [List.mem_singleton.mp z]; exact .inr List.mem_cons_self
      · exact .inr (List.mem_cons_of_mem _ z)
theorem dd_sub {ls : List Lt} {x : Lt} (h : x ∈ dd ls) : x ∈ ls := ((dd_go ls [] List.nodup_nil).1 x h).elim (fun z => nomatch z) id
theorem dd_nodup (ls : List Lt) : (dd ls).Nodup := (dd_go ls [] List.nodup_nil).2.1
theorem dd_len (ls : List Lt) : (dd ls).length ≤ ls.length := by
  have h := (dd_go ls [] List.nodup_nil).2.2
  rw [List.length_nil, Nat.zero_add] at h
  exact h
theorem hs_st0 (ls : List Lt) : hs (st0 ls) = dd ls := by unfold hs st0; rw [List.map_map]; exact List.map_id _
theorem es_new (A : AtOk e) {H : Hp} {l : Lt} {n : Nat} {b : Addr} {es : List Ent} {st : List Stp} (hl : l.1 < 7) (h7 : In7 (hs st)) (hn : l ∉ hs st) (r : EsIs e K H es st) (hb : Li e K H (.ref b) l) : EsIs e K H (putN es (nk (eL e l)) b (.int (n : Int))) (st ++ [(l, n)]) := by
  have g := es_in A hl h7 r
  rw [decide_eq_false hn] at g
  unfold putN
  rw [g, if_neg (by decide)]
  exact Paired.snoc r ⟨rfl, hb, rfl⟩
theorem es_old (A : AtOk e) {H : Hp} {l : Lt} {b : Addr} {es : List Ent} {st : List Stp} (hl : l.1 < 7) (h7 : In7 (hs st)) (hn : l ∈ hs st) (hz : ∀ q ∈ st, q.2 = 0) (r : EsIs e K H es st) : putN es (nk (eL e l)) b (.int 0) = es := by
  have g := es_in A hl h7 r
  rw [decide_eq_true hn] at g
  unfold putN
  rw [g, if_pos rfl]
  clear g hn h7
  induction r with
  | nil => rfl
  | @cons p q ps qs z t ih =>
    rw [List.map_cons, ih fun q hq => hz q (List.mem_cons_of_mem _ hq)]
    congr 1
    have z0 := hz q List.mem_cons_self
    have v0 : p.2.2 = .int 0 := by rw [z.2.2, z0]; rfl
    by_cases c : p.1 = nk (eL e l)
    · rw [if_pos c]
      exact Prod.ext rfl (Prod.ext rfl v0.symm)
    · rw [if_neg c]
theorem lbs_rows (R : Nat → List Lt) (ns : List Nat) : lbs (rowsOf R ns) = ivN ns := by unfold lbs rowsOf ivN; rw [List.map_map]; rfl
theorem rows_ok {R : Nat → List Lt} {ks ns : List Nat} (hR : ∀ n ∈ ks, (R n).length ≤ 3 ∧ In7 (R n)) (hl : ks.length ≤ 6) (pm : ns.Perm ks) : RsOk (rowsOf R ns) := by
  refine ⟨by unfold rowsOf; rw [List.length_map, pm.length_eq]; omega, fun r hr => ?_⟩
  obtain ⟨n, hn, rfl⟩ := List.mem_map.mp hr
  have := hR n (pm.mem_iff.mp hn)
  exact ⟨by show (R n).length ≤ 60; omega, this.2⟩
theorem ck_cd {H : Hp} {kvs : List (Key × V)} {R : Nat → List Lt} {ks ns : List Nat} (h : CkIs e K H kvs R ks) (pm : ns.Perm ks) : CdIs e K H kvs (rowsOf R ns) := fun r hr => by
  obtain ⟨n, hn, rfl⟩ := List.mem_map.mp hr
  exact h n (pm.mem_iff.mp hn)
theorem flat_le {α β : Type} (f : α → List β) (m : Nat) : ∀ l : List α, (∀ x ∈ l, (f x).length ≤ m) → (l.flatMap f).length ≤ m * l.length
  | [], _ => by simp
  | x :: l, h => by
    have a := h x List.mem_cons_self
    have b := flat_le f m l fun y hy => h y (List.mem_cons_of_mem _ hy)
    rw [List.flatMap_cons, List.length_append, List.length_cons, Nat.mul_succ]
    omega
theorem pot_le {R : Nat → List Lt} {ks ns : List Nat} (hR : ∀ n ∈ ks, (R n).length ≤ 3 ∧ In7 (R n)) (hl : ks.length ≤ 6) (pm : ns.Perm ks) (st : List Stp) : pot (rowsOf R ns) st ≤ 18 := by
  have a : ((rowsOf R ns).flatMap (·.2)).length ≤ 3 * (rowsOf R ns).length := flat_le _ 3 _ fun r hr => by
    obtain ⟨n, hn, rfl⟩ := List.mem_map.mp hr
    exact (hR n (pm.mem_iff.mp hn)).1
  have b : (rowsOf R ns).length ≤ 6 := by unfold rowsOf; rw [List.length_map, pm.length_eq]; exact hl
  have c : pot (rowsOf R ns) st ≤ ((rowsOf R ns).flatMap (·.2)).length := List.length_filter_le _ _
  omega
theorem srtN_pm {ns ks : List Nat} (h : srtN ns = srtN ks) : ns.Perm ks := (srtN_perm ns).symm.trans (h ▸ srtN_perm ks)
theorem in7_step {rows : List Row} (ok : RsOk rows) {st : List Stp} {r : Row} {l : Lt} {ls : List Lt} (h7 : In7 (hs st)) (h : chosen rows (hs st) = some r) (hl : left r.2 (hs st) = l :: ls) : l.1 < 7 ∧ l ∉ hs st ∧ In7 (hs (st ++ [(l, r.1)])) := by
  obtain ⟨hr, hf⟩ := chosen_mem h
  obtain ⟨_, hn⟩ := fires_one hf hl
  have hc : l ∈ r.2 := by
    have : l ∈ left r.2 (hs st) := by rw [hl]; exact List.mem_cons_self
    exact (List.mem_filter.mp this).1
  have l7 := (ok.2 r hr).2 l hc
  refine ⟨l7, hn, fun x hx => ?_⟩
  rw [hs_snoc] at hx
  rcases List.mem_append.mp hx with hx | hx
  · exact h7 x hx
  · rw [List.mem_singleton.mp hx]; exact l7
theorem run_step {rows : List Row} {st : List Stp} {r : Row} {l : Lt} {ls : List Lt} (h : chosen rows (hs st) = some r) (hl : left r.2 (hs st) = l :: ls) : run (pot rows st + 1) rows st = run (pot rows (st ++ [(l, r.1)]) + 1) rows (st ++ [(l, r.1)]) := by
  have lt := pot_lt h hl
  have e1 : run (pot rows st + 1) rows st = run (pot rows st) rows (st ++ [(l, r.1)]) := by
    conv => lhs; unfold run
    simp only [h, hl]
  rw [e1]
  exact run_more _ _ _ lt (Nat.lt_succ_self _)

theorem ok_prop {L O : Addr} (A : AtOk e) (T : Top K mg a) (B : PrC K a.c_Propagation p) (EO : ErX K a.c_BadOrder L O fI dI "BadOrder.__init__" initO) (G_is_int : FnOk P w K mg base CX0 1 a.f_is_int a.d_is_int ["value"] (spIsInt K))
    (G_next_step : FnOk P w K mg base CX0 3 a.f_next_step a.d_next_step ["clauses", "order", "held"] (spNext e w K)) : FnOk P w K mg base (CX P w) 5 a.f_propagate a.d_propagate ["clauses", "start", "order"] (spProp e w K a.c_Propagation a.c_BadOrder) := by
  have G_checked_order := ok_order (P := P) (w := w) (base := base) T EO G_is_int
  have G_init := ok_init (P := P) (w := w) (mg := mg) (base := base) A T B
  refine T.F_propagate.ok sc_propagate (fun vs H Q E h => ?_) (fun cdv A' outer s H vs Q E hr h => ?_)
  · obtain ⟨_, _, _, _, _, _, _, _, rfl, _⟩ := h
    rfl
  · obtain ⟨cd, s0, x, kvs, ks, R, xs, ls, rfl, hcd, hks, hkl, hR, hC, hs0, hA, h7, hl, h⟩ := h
    refine ⟨_, (pss_cons (ps_set (i := 3) sc_propagate.nd rfl (.inl rfl) (pe_call G_checked_order (hr.mono (by decide)) (by rfl) T.m_checked_order T.F_checked_order.kp T.b_checked_order .nil (passes_call (takes_of rfl rfl rfl rfl) (fun _ _ _ _ h => h)) (pa_cons (pv 0) (pa_cons (pv 2) pa_nil))))
    (C8.pss_cut (RN.ps_setDcN (own := [("literal", 6)]) (i := 4) rfl rfl (R1.sw_trueD rfl rfl rfl (by decide +kernel)) hr.units rfl sc_propagate.nd (R1.PI.or (pi_list (pv 1)) (pi_tup (pv 1))) (blkOk_by (own := [("literal", 6)]) (N := ["clauses", "start", "order", "labels", "held", "step", "literal"]) (sc := defScope s_propagate) (by decide +kernel)) (fun _ _ _ _ _ => (pg_name (i := 6) sc_propagate.nd rfl (.inl rfl))) (fun _ _ _ _ _ => pts_nil) (fun _ _ _ _ _ => (pv 6)) (fun _ _ _ _ _ => pe_int))
    (pss_cons (ps_set (i := 5) sc_propagate.nd rfl (.inl rfl) (pe_call G_next_step (hr.mono (by decide)) (by rfl) T.m_next_step T.F_next_step.kp T.b_next_step .nil pass0 (pa_cons (pv 0) (pa_cons (pv 3) (pa_cons (pv 4) pa_nil)))))
    (pss_cons (ps_while (passes_of rfl) (PW.pt (pw_and (pt_cmpR op_notN (pv 5) pe_non (nomark _)) (pw_and1 (pt_cmpR op_notN (pe_ix ix_seq (pv 5) pe_int (fun _ _ => rfl)) pe_non (nomark _)))))
      (pss_cons (ps_asg (pe_ix ix_seq (pv 5) pe_int (fun _ _ => rfl)) (pg_sub (pv 4) (pe_ix ix_seq (pv 5) pe_int (fun _ _ => rfl)) (set_dN (K := K) (w := w) (u16 hr) rfl rfl)))
      (pss_one (ps_set (i := 5) sc_propagate.nd rfl (.inl rfl) (pe_call G_next_step (hr.mono (by decide)) (by rfl) T.m_next_step T.F_next_step.kp T.b_next_step .nil pass0 (pa_cons (pv 0) (pa_cons (pv 3) (pa_cons (pv 4) pa_nil))))))))
    (pss_one (ps_ret (pe_make B.mkr G_init (hr.mono (by decide)) (by rfl) T.m_Propagation B.b_I .nil pass0 (pa_cons (pe_callTy RN.call_tupleF (by rfl) T.z_tuple (by decide +kernel) (pa_cons (pe_callTy (RN.call_listItN (w := w) rfl rfl) (by rfl) T.z_list (by decide +kernel) (pa_cons (RN.pe_itemsN (w := w) rfl (pv 4)) pa_nil)) pa_nil)) (pa_cons (pe_ifExp (pt_cmpR op_isN (pv 5) pe_non (nomark _)) pe_int (pe_ix ix_seq (pv 5) pe_int (fun _ _ => rfl))) pa_nil))))))))), ?_⟩
    have key : ∀ Q' : VK, (∀ (ns : List Nat) (lp : Addr) (H1 : Hp), Same H H1 → H lp = none → H1 lp = some (.lst (ivN ns)) → ns.Perm ks → (∀ o H', Same H H' → H o = none → PrIs e w K H' a.c_Propagation o (run 100 (rowsOf R ns) (st0 ls)).1 (run 100 (rowsOf R ns) (st0 ls)).2 → Q (.ref o) H') → Q' (.ref lp) H1) →
        spOrd K a.c_BadOrder [.ref cd, x] H Q' E := by
      intro Q' k
      refine ⟨cd, kvs, ks, x, rfl, hcd, hks, by omega, ?_⟩
      rcases h with ⟨rfl, q⟩ | ⟨q0, ns, rfl, hq, hn, qa, qb⟩
      · exact .inl ⟨rfl, fun lp H1 s1 np hp => k _ lp H1 s1 np hp (srtN_perm ks) q⟩
      · exact .inr ⟨q0, ns, rfl, hq, hn, fun hh lp H1 s1 np hp => k ns lp H1 s1 np hp (srtN_pm hh) (qa hh), qb⟩
    refine ⟨.ref cd, rfl, x, rfl, ?_⟩
    dsimp only [tNil, List.cons_append, List.nil_append]
    refine key _ fun ns lp H1 s1 np hp pm q => ?_
    clear key h
    have t1 := Same.tk s1
    have hA1 := al_tk A h7 t1 hA
    have xl : xs.length = ls.length := hA.1
    -- the start
    have rok := rows_ok hR hkl pm
    have st7 : ∀ u, In7 (hs (st0 (ls.take u))) := fun u l hl2 => by
      rw [hs_st0] at hl2
      exact h7 l (List.mem_of_mem_take (dd_sub hl2))
    have z0 : ∀ u, ∀ q ∈ st0 (ls.take u), q.2 = 0 := fun u q hq => by
      obtain ⟨l, _, rfl⟩ := List.mem_map.mp hq
      rfl
    have turn : ∀ (D : Addr) (_ : H1 D = none) (u : Nat) (y : V) (H2 : Hp), u < xs.length → (Same H1 H2 ∧ ∃ es, H2 D = some (dN w D es) ∧ EsIs e K H2 es (st0 (ls.take u))) → xs[u]? = some y →
        ∃ es k b, y = .ref b ∧ KeyAt K H2 k b ∧ H2 D = some (dN w D es) ∧ KeysAt K H2 es ∧ es.length < sizeLine ∧ (Same H1 (upd H2 D (dN w D (putN es k b (.int 0)))) ∧ ∃ es', (upd H2 D (dN w D (putN es k b (.int 0)))) D = some (dN w D es') ∧ EsIs e K (upd H2 D (dN w D (putN es k b (.int 0)))) es' (st0 (ls.take (u + 1)))) := by
      rintro D nD u y H2 hu ⟨sm, es, hD, hE⟩ hy
      obtain ⟨l, hl2, hli⟩ := hA1.at hy
      have l7 : l.1 < 7 := h7 l (List.mem_of_getElem? hl2)
      have hli2 := hli.tk A l7 (Same.tk sm)
      obtain ⟨b, u0, rfl, _, _⟩ := li_split hli2
      have tD : Tk H2 (upd H2 D (dN w D (putN es (nk (eL e l)) b (.int 0)))) := tk_upd hD True.intro
      have el : es.length = (st0 (ls.take u)).length := Paired.length hE
      refine ⟨es, nk (eL e l), b, rfl, key_li A l7 hli2, hD, es_keys A (st7 u) hE, ?_, K15.Same.mut sm nD, _, upd_same, ?_⟩
      · rw [el]
        unfold st0
        rw [List.length_map]
        have := dd_len (ls.take u)
        rw [List.length_take] at this
        exact small1000 (by omega)
      · have hd := dd_take ls u l hl2
        refine es_tk A tD (st7 (u + 1)) ?_
        by_cases c : l ∈ dd (ls.take u)
        · rw [if_pos c] at hd
          rw [es_old A l7 (st7 u) (by rw [hs_st0]; exact c) (z0 u) hE]
          unfold st0
          rw [hd]
          exact hE
        · rw [if_neg c] at hd
          have := es_new A (n := 0) l7 (st7 u) (by rw [hs_st0]; exact c) hE hli2
          unfold st0
          rw [hd, List.map_append]
          exact this
    refine ⟨fun σ' H2 => ∃ D, σ' = [some (.ref cd), some (.ref s0), some x, some (.ref lp), some (.ref D), none, none] ∧ H1 D = none ∧ Same H1 H2 ∧ ∃ es, H2 D = some (dN w D es) ∧ EsIs e K H2 es (st0 ls), ?_, ?_⟩
    · have h0 : ∀ D, H1 D = none → Same H1 (upd H1 D (dN w D [])) ∧ ∃ es, (upd H1 D (dN w D [])) D = some (dN w D es) ∧ EsIs e K (upd H1 D (dN w D [])) es (st0 (ls.take 0)) := fun D nD => ⟨same_upd nD, [], upd_same, .nil⟩
      rcases hs0 with hs0 | hs0
      · refine .inl ⟨.ref s0, rfl, s0, rfl, ⟨_, sqL_same s1 hs0⟩, fun D nD => R1.walk_it (walk_list (xs := xs)) (fun u H2 => Same H1 H2 ∧ ∃ es, H2 D = some (dN w D es) ∧ EsIs e K H2 es (st0 (ls.take u))) (h0 D nD) (fun u H2 _ h => sqL_same (s1.trans h.1) hs0) (fun u y _ H2 hu h z => ?_) fun H2 h => ?_⟩
        · obtain ⟨rfl, hy⟩ := z
          exact ⟨rfl, _, rfl, turn D nD u y H2 hu h hy⟩
        · rw [xl, List.take_length] at h
          exact ⟨D, rfl, nD, h.1, h.2⟩
      · refine .inr ⟨.ref s0, rfl, s0, rfl, ⟨_, sqT_tk t1 hs0⟩, fun D nD => R1.walk_it (walk_tup (xs := xs)) (fun u H2 => Same H1 H2 ∧ ∃ es, H2 D = some (dN w D es) ∧ EsIs e K H2 es (st0 (ls.take u))) (h0 D nD) (fun u H2 _ h => sqT_tk (Same.tk (s1.trans h.1)) hs0) (fun u y _ H2 hu h z => ?_) fun H2 h => ?_⟩
        · obtain ⟨rfl, hy⟩ := z
          exact ⟨rfl, _, rfl, turn D nD u y H2 hu h hy⟩
        · rw [xl, List.take_length] at h
          exact ⟨D, rfl, nD, h.1, h.2⟩
    clear turn z0
    rintro σ' H2 ⟨D, rfl, nD, s2, es, hD, hE⟩
    have st7' : In7 (hs (st0 ls)) := by have := st7 ls.length; rwa [List.take_length] at this
    clear st7
    have nDH : H D = none := s1.free nD
    have lpD : lp ≠ D := fun z => by rw [z, nD] at hp; cases hp
    have cdH : ∀ H3, Same H H3 → H3 cd = some (.dK kvs) := fun H3 s3 => s3 _ _ hcd
    have nxt : ∀ (H3 : Hp) (st : List Stp) (Q' : VK), Same H H3 → H3 lp = some (.lst (ivN ns)) → HeldIs e w K H3 D st → In7 (hs st) → (∀ v H', Same H3 H' → NxIs e K H' (rowsOf R ns) (hs st) v → Q' v H') → spNext e w K [.ref cd, .ref lp, .ref D] H3 Q' (fun _ _ _ => False) :=
      fun H3 st Q' s3 hl3 hh h73 k => ⟨cd, lp, D, kvs, rowsOf R ns, st, rfl, cdH H3 s3, rok, (ck_cd (kvs := kvs) (R := R) (fun n hn => by
        obtain ⟨c0, e1, e2⟩ := hC n hn
        exact ⟨c0, e1, e2.tk A (Same.tk s3) (hR n hn).2⟩) pm), .of (by rw [lbs_rows]; exact hl3), hh, h73, k⟩
    refine ⟨.ref cd, rfl, .ref lp, rfl, .ref D, rfl, nxt H2 (st0 ls) _ (s1.trans s2) (s2 _ _ hp) ⟨es, hD, hE⟩ st7' fun v H3 s3 hv => ?_⟩
    have potl := pot_le (R := R) hR hkl pm
    have len0 : (st0 ls).length ≤ 20 := by
      unfold st0
      rw [List.length_map]
      have := dd_len ls
      omega
    refine ⟨fun m σ' H' => ∃ st v, σ' = [some (.ref cd), some (.ref s0), some x, some (.ref lp), some (.ref D), some v, none] ∧ Same H H' ∧ H' lp = some (.lst (ivN ns)) ∧ HeldIs e w K H' D st ∧ In7 (hs st) ∧ (hs st).Nodup ∧ NxIs e K H' (rowsOf R ns) (hs st) v ∧
      run 100 (rowsOf R ns) (st0 ls) = run (pot (rowsOf R ns) st + 1) (rowsOf R ns) st ∧ st.length + pot (rowsOf R ns) st ≤ 38 ∧ m = pot (rowsOf R ns) st, ⟨_, st0 ls, v, rfl, (s1.trans s2).trans s3, s3 _ _ (s2 _ _ hp), ⟨es, s3 _ _ hD, es_tk A (Same.tk s3) st7' hE⟩, st7', by rw [hs_st0]; exact dd_nodup ls, hv,
      run_more _ _ _ (by have := potl (st0 ls); omega) (Nat.lt_succ_self _), by have := potl (st0 ls); omega, rfl⟩, ?_⟩
    clear hv s3 H3 v hD hE es s2 H2 len0
    rintro m σ' H' ⟨st, v, rfl, sm, hlp, hH, h73, nd, hv, hrun, hle, rfl⟩
    have notN : ∀ {v : V} {σ : L2.St} {H : Hp} {i : Nat} (b : Bool), σ[i]? = some (some v) → (!decide (v = V.non)) = b → Ans (tTest (tOp (fun x y H Q => y = V.non ∧ Q (V.bl (!decide (x = V.non))) H) (tVar i) (tC V.non))) σ H b := fun b h e Q q => ⟨_, h, rfl, _, rfl, by rw [e]; exact q⟩
    have isN : ∀ {v : V} {σ : L2.St} {H : Hp} {i : Nat} (b : Bool), σ[i]? = some (some v) → decide (v = V.non) = b → Ans (tTest (tOp (fun x y H Q => y = V.non ∧ Q (V.bl (decide (x = V.non))) H) (tVar i) (tC V.non))) σ H b := fun b h e Q q => ⟨_, h, rfl, _, rfl, by rw [e]; exact q⟩
    have notI : ∀ {p : Addr} {y z : V} {σ : L2.St} {H : Hp} (b : Bool), σ[5]? = some (some (.ref p)) → H p = some (.tup [y, z]) → (!decide (y = V.non)) = b → Ans (tTest (tOp (fun x y H Q => y = V.non ∧ Q (V.bl (!decide (x = V.non))) H) (tOp (rIx K) (tVar 5) (tC (.int 0))) (tC V.non))) σ H b := fun b h hp e Q q => ixt 0 h (.of hp) rfl (by simp) ⟨rfl, _, rfl, by rw [e]; exact q⟩
    have rN : ∀ p : Addr, decide (V.ref p = V.non) = false := fun p => decide_eq_false fun z => nomatch z
    have out : ∀ (k : Nat), (∀ (H2 : Hp) (Q2 : VK), Same H' H2 → Q2 (.int (k : Int)) H2 → tIf (tTest (tOp (fun x y H Q => y = V.non ∧ Q (V.bl (decide (x = V.non))) H) (tVar 5) (tC V.non))) (tC (.int 0)) (tOp (rIx K) (tVar 5) (tC (.int 1))) [some (.ref cd), some (.ref s0), some x, some (.ref lp), some (.ref D), some v, none] H2 Q2) →
        run 100 (rowsOf R ns) (st0 ls) = (st, k) → tMake a.c_Propagation (spInit e w K a.c_Propagation) [] E0 (tCons (tCB (fun vs H Q => ∃ p ys, vs = [V.ref p] ∧ H p = some (HO.lst ys) ∧ ∀ (l : Addr) (H' : Hp), H l = Option.none → Same H H' → FrzT H' l ys → Q (V.ref l) H') (tCons (tCB (rListItN w) (tCons (tItN w (tVar 4)) tNil)) tNil))
          (tCons (tIf (tTest (tOp (fun x y H Q => y = V.non ∧ Q (V.bl (decide (x = V.non))) H) (tVar 5) (tC V.non))) (tC (.int 0)) (tOp (rIx K) (tVar 5) (tC (.int 1)))) tNil)) [some (.ref cd), some (.ref s0), some x, some (.ref lp), some (.ref D), some v, none] H' Q := by
      intro k fin hres
      obtain ⟨es, hD, hE⟩ := hH
      have el : es.length = st.length := Paired.length hE
      refine ⟨.ref D, rfl, D, es, rfl, rfl, hD, fun pv nv => ?_⟩
      have s5 := same_upd (o := L2.DX.itemsO pv D) nv
      refine ⟨pv, D, es, rfl, upd_same, s5 _ _ hD, by omega, fun H6 l as s6 n0 hal at0 att => ?_⟩
      refine ⟨l, as.map V.ref, rfl, at0, fun t H7 nt s7 fz => ?_⟩
      have s67 := (s5.trans s6).trans s7
      refine fin H7 _ s67 ?_
      intro o dx no ndx hne
      have k8 : Kp o H7 (upd (upd H7 dx (.own o)) o (.ins a.c_Propagation dx [])) := fun b ob hb z => by
        rw [upd_ne hb, upd_ne (ne_of_none z ndx)]
        exact z
      have s8 : Same H7 (upd (upd H7 dx (.own o)) o (.ins a.c_Propagation dx [])) := fun b ob z => k8 b ob (ne_of_none z no) z
      have t8 := Same.tk (s67.trans s8)
      have ot : t ≠ o := by
        obtain ⟨ot, _, z⟩ := fz
        exact ne_of_none z no
      refine ⟨o, t, dx, k, st, rfl, upd_same, ⟨as, es, ?_, hal, fun j c q0 h1 h2 => ?_, es_tk A t8 h73 hE⟩, h73, nd, by omega, fun H9 k9 pr => ⟨rfl, ?_⟩⟩
      · obtain ⟨ob, z1, z2⟩ := fz
        exact ⟨ob, z1, s8 _ _ z2⟩
      · exact .of (s8 _ _ (s7 _ _ (att j c q0 h1 h2)))
      · have sH : Same H H9 := fun b ob z => by
          have z7 := s67 _ _ (sm _ _ z)
          exact k9 b ob (ne_of_none z7 no) (s8 _ _ z7)
        have nH : H o = none := by
          cases z : H o with
          | none => rfl
          | some ob => have := s67 _ _ (sm _ _ z); rw [no] at this; cases this
        have := q o H9 sH nH
        rw [hres] at this
        exact this pr
    cases hv with
    | none hc =>
      refine ans_and0 (notN false rfl (by simp)) _ (iteF ?_)
      refine out 0 (fun H2 Q2 _ q2 => isN true rfl (by simp) _ (iteT q2)) ?_
      rw [hrun]
      unfold run
      simp only [hc]
    | @clash pp r hc hl hpp =>
      refine ans_and (notN true rfl (by rw [rN]; rfl)) (notI false rfl hpp (by simp)) _ (iteF ?_)
      refine out r.1 (fun H2 Q2 s2 q2 => isN false rfl (rN pp) _ (iteF (ixt 1 rfl (.of (s2 _ _ hpp)) rfl (by simp) q2))) ?_
      rw [hrun]
      unfold run
      simp only [hc, hl]
    | @step pp y r l ls' hc hl hpp hy =>
      obtain ⟨l7, hn, h74⟩ := in7_step rok h73 hc hl
      obtain ⟨b, u0, rfl, _, _⟩ := li_split hy
      refine ans_and (notN true rfl (by rw [rN]; rfl)) (notI true rfl hpp (by rw [rN]; rfl)) _ ?_
      refine iteT ⟨fun σ2 H2 => ∃ m', m' < pot (rowsOf R ns) st ∧ ∃ st v, σ2 = [some (.ref cd), some (.ref s0), some x, some (.ref lp), some (.ref D), some v, none] ∧ Same H H2 ∧ H2 lp = some (.lst (ivN ns)) ∧ HeldIs e w K H2 D st ∧ In7 (hs st) ∧ (hs st).Nodup ∧ NxIs e K H2 (rowsOf R ns) (hs st) v ∧
        run 100 (rowsOf R ns) (st0 ls) = run (pot (rowsOf R ns) st + 1) (rowsOf R ns) st ∧ st.length + pot (rowsOf R ns) st ≤ 38 ∧ m' = pot (rowsOf R ns) st, fun σ2 H2 z => z, ?_⟩
      obtain ⟨es, hD, hE⟩ := hH
      have el : es.length = st.length := Paired.length hE
      refine ixt 1 rfl (.of hpp) rfl (by simp) ⟨_, rfl, ixt 0 rfl (.of hpp) rfl (by simp) ⟨b, D, es, nk (eL e l), rfl, rfl, hD, es_keys A h73 hE, key_li A l7 hy, small1000 (by omega), ?_⟩⟩
      have tD : Tk H' (upd H' D (dN w D (putN es (nk (eL e l)) b (.int (r.1 : Int))))) := tk_upd hD True.intro
      have s4 : Same H (upd H' D (dN w D (putN es (nk (eL e l)) b (.int (r.1 : Int))))) := K15.Same.mut sm nDH
      have e4 := es_tk A tD h74 (es_new A (n := r.1) l7 h73 hn hE hy)
      have lt := pot_lt hc hl
      have hlp4 : (upd H' D (dN w D (putN es (nk (eL e l)) b (.int (r.1 : Int))))) lp = some (.lst (ivN ns)) := by rw [upd_ne lpD]; exact hlp
      have hD4 : (upd H' D (dN w D (putN es (nk (eL e l)) b (.int (r.1 : Int))))) D = _ := upd_same
      generalize upd H' D (dN w D (putN es (nk (eL e l)) b (.int (r.1 : Int)))) = H4 at s4 e4 hlp4 hD4 ⊢
      refine ⟨.ref cd, rfl, .ref lp, rfl, .ref D, rfl, ?_⟩
      dsimp only [tNil, List.cons_append, List.nil_append]
      refine nxt H4 (st ++ [(l, r.1)]) _ s4 hlp4 ⟨_, hD4, e4⟩ h74 fun v H5 s5 hv => ?_
      refine ⟨_, lt, st ++ [(l, r.1)], v, rfl, s4.trans s5, s5 _ _ hlp4, ⟨_, s5 _ _ hD4, es_tk A (Same.tk s5) h74 e4⟩, h74, ?_, hv, hrun.trans (run_step hc hl), by rw [List.length_append]; simp; omega, rfl⟩
      rw [hs_snoc]
      refine List.nodup_append.mpr ⟨nd, by simp, fun x hx y hy z => ?_⟩
      rw [List.mem_singleton.mp hy] at z
      subst z
      exact hn hx
end
end K15


/-! the law's own propagation -/
namespace K15
open PySem PySem.Spec PyProof.Rows L2 RN
section
variable {P : Program} {w : World} {K : PySem.W.Frag} {mg : Str → Option Value} {base : Heap} {a : Ad} {e : Nat → PyData}
def RwIs (e : Nat → PyData) (K : PySem.W.Frag) (H : Hp) (x : V) (r : Row) : Prop := ∃ b c0, x = V.ref b ∧ H b = some (.lst [.int (r.1 : Int), .ref c0]) ∧ ClIs e K H c0 r.2
def StpV (e : Nat → PyData) (K : PySem.W.Frag) (H : Hp) (x : V) (q : Stp) : Prop := ∃ b y, x = V.ref b ∧ SqT K H b [y, .int (q.2 : Int)] ∧ Li e K H y q.1
def RwsIs (e : Nat → PyData) (K : PySem.W.Frag) (H : Hp) (p : Addr) (rows : List Row) : Prop := ∃ xs, SqL K H p xs ∧ R1.Al (RwIs e K H) xs rows
theorem RwIs.same (A : AtOk e) {H H' : Hp} {x : V} {r : Row} (h7 : In7 r.2) (s : Same H H') (h : RwIs e K H x r) : RwIs e K H' x r := by
  obtain ⟨b, c0, rfl, h1, h2⟩ := h
  exact ⟨b, c0, rfl, s _ _ h1, h2.tk A (Same.tk s) h7⟩
theorem StpV.tk (A : AtOk e) {H H' : Hp} {x : V} {q : Stp} (h7 : q.1.1 < 7) (t : Tk H H') (h : StpV e K H x q) : StpV e K H' x q := by
  obtain ⟨b, y, rfl, h1, h2⟩ := h
  exact ⟨b, y, rfl, sqT_tk t h1, h2.tk A h7 t⟩
theorem stp_tk (A : AtOk e) {H H' : Hp} {xs : List V} {st : List Stp} (h7 : In7 (hs st)) (t : Tk H H') (h : R1.Al (StpV e K H) xs st) : R1.Al (StpV e K H') xs st :=
  ⟨h.1, fun i x q a b => (h.2 i x q a b).tk A (h7 _ (by unfold hs; exact List.mem_map.mpr ⟨q, List.mem_of_getElem? b, rfl⟩)) t⟩
theorem rws_same (A : AtOk e) {H H' : Hp} {p : Addr} {rows : List Row} (ok : RsOk rows) (s : Same H H') (h : RwsIs e K H p rows) : RwsIs e K H' p rows := by
  obtain ⟨xs, h1, h2⟩ := h
  exact ⟨xs, sqL_same s h1, h2.1, fun i x r a b => (h2.2 i x r a b).same A (ok.2 r (List.mem_of_getElem? b)).2 s⟩
def ChIs (e : Nat → PyData) (K : PySem.W.Frag) (p1 p2 : Addr) (H : Hp) (held : List Lt) : Option Row → V → Prop
  | none, v => v = .non
  | some r, v => ∃ c lf ys, v = .ref c ∧ H c = some (.lst [.int (r.1 : Int), .ref lf]) ∧ H lf = some (.lst ys) ∧ R1.Al (Li e K H) ys (left r.2 held) ∧ c ≠ p1 ∧ c ≠ p2 ∧ lf ≠ p1 ∧ lf ≠ p2
theorem in7_l {c held : List Lt} (h : In7 c) : In7 (left c held) := fun m hm => h m (List.mem_filter.mp hm).1
theorem ChIs.same (A : AtOk e) {p1 p2 : Addr} {H H' : Hp} {held : List Lt} {o : Option Row} {v : V} (h7 : ∀ r, o = some r → In7 r.2) (s : Same H H') (h : ChIs e K p1 p2 H held o v) : ChIs e K p1 p2 H' held o v := by
  cases o with
  | none => exact h
  | some r =>
    obtain ⟨c, lf, ys, rfl, h1, h2, h3, h4⟩ := h
    exact ⟨c, lf, ys, rfl, s _ _ h1, s _ _ h2, al_tk A (in7_l (h7 r rfl)) (Same.tk s) h3, h4⟩
theorem run_none {rows : List Row} {st : List Stp} {n : Nat} (hn : 0 < n) (h : chosen rows (hs st) = none) : run n rows st = (st, 0) := by
  cases n with
  | zero => omega
  | succ n => unfold run; simp only [h]
theorem run_clash {rows : List Row} {st : List Stp} {n : Nat} {r : Row} (hn : 0 < n) (h : chosen rows (hs st) = some r) (hl : left r.2 (hs st) = []) : run n rows st = (st, r.1) := by
  cases n with
  | zero => omega
  | succ n => unfold run; simp only [h, hl]
theorem run_next {rows : List Row} {st : List Stp} {n : Nat} {r : Row} {l : Lt} {ls : List Lt} (h : chosen rows (hs st) = some r) (hl : left r.2 (hs st) = l :: ls) : run (n + 1) rows st = run n rows (st ++ [(l, r.1)]) := by
  conv => lhs; unfold run
  simp only [h, hl]
theorem chosen_some {rows : List Row} {held : List Lt} {j : Nat} {r r0 : Row} (hr : rows[j]? = some r0) (h : chosen (rows.take j) held = some r) : chosen (rows.take (j + 1)) held = some r := by
  have et : rows.take (j + 1) = rows.take j ++ [r0] := by rw [List.take_add_one, hr]; rfl
  unfold chosen at h ⊢
  rw [et, List.find?_append, h]
  rfl
theorem chosen_new {rows : List Row} {held : List Lt} {j : Nat} {r : Row} (hr : rows[j]? = some r) (h : chosen (rows.take j) held = none) (f : fires r.2 held = true) : chosen (rows.take (j + 1)) held = some r := by
  have et : rows.take (j + 1) = rows.take j ++ [r] := by rw [List.take_add_one, hr]; rfl
  unfold chosen at h ⊢
  rw [et, List.find?_append, h]
  simp [f]
def spPg (e : Nat → PyData) (K : PySem.W.Frag) : Sp := fun vs H Q _ => ∃ (rl s0 : Addr) (rows : List Row) (xs : List V) (ls : List Lt), vs = [.ref rl, .ref s0] ∧ RwsIs e K H rl rows ∧ RsOk rows ∧ SqI K H s0 xs ∧ R1.Al (Li e K H) xs ls ∧ In7 ls ∧ ls.length ≤ 20 ∧
  ∀ p sl ys H', Same H H' → H p = none → H' p = some (.lst [.ref sl, .int ((run 100 rows (st0 ls)).2 : Int)]) → H' sl = some (.lst ys) → R1.Al (StpV e K H') ys (run 100 rows (st0 ls)).1 → Q (.ref p) H'
theorem ok_pg (A : AtOk e) (T : Top K mg a) (G_l_left : FnOk P w K mg base CX0 2 a.f_l_left a.d_l_left ["_law_clause_here", "_law_held"] (spLeft e K)) : FnOk P w K mg base CX0 3 a.f_l_propagated a.d_l_propagated ["_law_rows", "_law_start_here"] (spPg e K) := by
  refine T.F_l_propagated.ok sc_l_propagated (fun vs H Q E h => ?_) (fun cdv A' outer s H vs Q E hr h => ?_)
  · obtain ⟨_, _, _, _, _, rfl, _⟩ := h
    rfl
  · obtain ⟨rl, s0, rows, xs, ls, rfl, hrw, rok, hs0, hA, h7, hl, q⟩ := h
    refine ⟨_, (pss_cons (ps_set (i := 2) sc_l_propagated.nd rfl (.inl rfl) (pe_lst pa_nil))
    (pss_cons (ps_set (i := 3) sc_l_propagated.nd rfl (.inl rfl) (pe_lst pa_nil))
    (C8.pss_cut (ps_for PassesOwn.never rfl (R1.PI.or (pi_list (pv 1)) (pi_tup (pv 1))) (pg_name (i := 4) sc_l_propagated.nd rfl (.inl rfl))
      (pss_one (ps_if (pt_cmpR (op_notInDK (u65 hr) rfl) (pv 4) (pv 2) rfl)
        (pss_cons (ps_expr (pe_bm PySem.F.plainAttrs_list PySem.F.slot_list_append PySem.F.type_list_append mt_append (pv 2) (pa_cons (pv 4) pa_nil)))
        (pss_one (ps_expr (pe_bm PySem.F.plainAttrs_list PySem.F.slot_list_append PySem.F.type_list_append mt_append (pv 3) (pa_cons (pe_tup (pa_cons (pv 4) (pa_cons pe_int pa_nil))) pa_nil)))))
        pss_nil)))
    (pss_cons (ps_for PassesOwn.never rfl (pi_range1 (by rfl) T.z_range (pa_cons pe_int pa_nil)) (pg_name (i := 5) sc_l_propagated.nd rfl (.inl rfl))
      (pss_cons (ps_set (i := 6) sc_l_propagated.nd rfl (.inl rfl) pe_non)
      (pss_cons (ps_for PassesOwn.never rfl (R1.PI.or (pi_list (pv 0)) (pi_tup (pv 0))) (pg_name (i := 7) sc_l_propagated.nd rfl (.inl rfl))
        (pss_cons (ps_set (i := 8) sc_l_propagated.nd rfl (.inl rfl) (pe_call G_l_left (hr.mono (by decide)) (by rfl) T.m_l_left T.F_l_left.kp T.b_l_left .nil pass0 (pa_cons (pe_ix ix_seq (pv 7) pe_int (fun _ _ => rfl)) (pa_cons (pv 2) pa_nil))))
        (pss_one (ps_if (PW.pt (pw_and (pt_cmpR op_isN (pv 6) pe_non (nomark _)) (pw_and1 (PW.pt (pw_or (pt_cmpR (OpR.or op_eq (op_eqD hr.units)) (pe_callB (CallR.or call_len_str call_len_seq) (by rfl) T.z_len (by decide +kernel) (pa_cons (pv 8) pa_nil)) pe_int (nomark _)) (pw_or1 (PW.pt (pw_and (pt_cmpR (OpR.or op_eq (op_eqD hr.units)) (pe_callB (CallR.or call_len_str call_len_seq) (by rfl) T.z_len (by decide +kernel) (pa_cons (pv 8) pa_nil)) pe_int (nomark _)) (pw_and1 (pt_cmpR (op_notInDK (u65 hr) rfl) (pe_ix ix_seq (pv 8) pe_int (fun _ _ => rfl)) (pv 2) rfl))))))))))
          (pss_one (ps_set (i := 6) sc_l_propagated.nd rfl (.inl rfl) (pe_lst (pa_cons (pe_ix ix_seq (pv 7) pe_int (fun _ _ => rfl)) (pa_cons (pv 8) pa_nil)))))
          pss_nil))))
      (pss_cons (ps_if (pt_cmpR op_isN (pv 6) pe_non (nomark _))
        (pss_one (ps_ret (pe_lst (pa_cons (pv 3) (pa_cons pe_int pa_nil)))))
        pss_nil)
      (pss_cons (ps_if (pt_cmpR (OpR.or op_eq (op_eqD hr.units)) (pe_callB (CallR.or call_len_str call_len_seq) (by rfl) T.z_len (by decide +kernel) (pa_cons (pe_ix ix_seq (pv 6) pe_int (fun _ _ => rfl)) pa_nil)) pe_int (nomark _))
        (pss_one (ps_ret (pe_lst (pa_cons (pv 3) (pa_cons (pe_ix ix_seq (pv 6) pe_int (fun _ _ => rfl)) pa_nil)))))
        pss_nil)
      (pss_cons (ps_expr (pe_bm PySem.F.plainAttrs_list PySem.F.slot_list_append PySem.F.type_list_append mt_append (pv 2) (pa_cons (pe_ix ix_seq (pe_ix ix_seq (pv 6) pe_int (fun _ _ => rfl)) pe_int (fun _ _ => rfl)) pa_nil)))
      (pss_one (ps_expr (pe_bm PySem.F.plainAttrs_list PySem.F.slot_list_append PySem.F.type_list_append mt_append (pv 3) (pa_cons (pe_tup (pa_cons (pe_ix ix_seq (pe_ix ix_seq (pv 6) pe_int (fun _ _ => rfl)) pe_int (fun _ _ => rfl)) (pa_cons (pe_ix ix_seq (pv 6) pe_int (fun _ _ => rfl)) pa_nil))) pa_nil))))))))))
    (pss_one (ps_ret (pe_lst (pa_cons (pv 3) (pa_cons pe_int pa_nil))))))))), ?_⟩
    refine ⟨Nat.zero_le _, fun hl0 nh => ⟨Nat.zero_le _, fun sl ns => ?_⟩⟩
    have sA : Same H (upd H hl0 (.lst [])) := same_upd nh
    have sB : Same H (upd (upd H hl0 (.lst [])) sl (.lst [])) := sA.trans (same_upd ns)
    have hlA : (upd (upd H hl0 (.lst [])) sl (.lst [])) hl0 = some (.lst []) := (same_upd ns) _ _ upd_same
    have hlB : (upd (upd H hl0 (.lst [])) sl (.lst [])) sl = some (.lst []) := upd_same
    have nsH : H sl = none := sA.free ns
    have hne : sl ≠ hl0 := fun z => by rw [z] at ns; rw [upd_same] at ns; cases ns
    generalize upd (upd H hl0 (.lst [])) sl (.lst []) = H1 at sB hlA hlB ⊢
    -- what the two lists are
    let Two : Hp → List Stp → Prop := fun H2 st => Same H H2 ∧ ∃ hx sx, H2 hl0 = some (.lst hx) ∧ R1.Al (Li e K H2) hx (hs st) ∧ H2 sl = some (.lst sx) ∧ R1.Al (StpV e K H2) sx st
    have two_same : ∀ {H2 H3 : Hp} {st : List Stp}, In7 (hs st) → Same H2 H3 → Two H2 st → Two H3 st := by
      rintro H2 H3 st h73 s3 ⟨s2, hx, sx, a1, a2, a3, a4⟩
      exact ⟨s2.trans s3, hx, sx, s3 _ _ a1, al_tk A h73 (Same.tk s3) a2, s3 _ _ a3, stp_tk A h73 (Same.tk s3) a4⟩
    have st7 : ∀ u, In7 (hs (st0 (ls.take u))) := fun u l hl2 => by
      rw [hs_st0] at hl2
      exact h7 l (List.mem_of_mem_take (dd_sub hl2))
    have xl : xs.length = ls.length := hA.1
    -- a literal more: held.append, steps.append
    have push : ∀ {H2 : Hp} {st : List Stp} {x : V} {l : Lt} (n : Nat) {hx sx : List V}, Same H H2 → H2 hl0 = some (.lst hx) → R1.Al (Li e K H2) hx (hs st) → H2 sl = some (.lst sx) → R1.Al (StpV e K H2) sx st → In7 (hs st) → l.1 < 7 → Li e K H2 x l →
        ∀ Tt, (upd H2 hl0 (.lst (hx ++ [x]))) Tt = none → (upd (upd H2 hl0 (.lst (hx ++ [x]))) Tt (.tup [x, .int (n : Int)])) sl = some (.lst sx) ∧ Two (upd (upd (upd H2 hl0 (.lst (hx ++ [x]))) Tt (.tup [x, .int (n : Int)])) sl (.lst (sx ++ [.ref Tt]))) (st ++ [(l, n)]) := by
      intro H2 st x l n hx sx s2 a1 a2 a3 a4 h73 l7 hli Tt nT
      have k1 : Tk H2 (upd H2 hl0 (.lst (hx ++ [x]))) := tk_upd a1 True.intro
      have b3 : (upd H2 hl0 (.lst (hx ++ [x]))) sl = some (.lst sx) := by rw [upd_ne hne]; exact a3
      have b1 : (upd H2 hl0 (.lst (hx ++ [x]))) hl0 = some (.lst (hx ++ [x])) := upd_same
      have s3 : Same H (upd H2 hl0 (.lst (hx ++ [x]))) := K15.Same.mut s2 nh
      have b2 : R1.Al (Li e K (upd H2 hl0 (.lst (hx ++ [x])))) (hx ++ [x]) (hs (st ++ [(l, n)])) := by
        rw [hs_snoc]
        exact R1.Al.snoc (al_tk A h73 k1 a2) (hli.tk A l7 k1)
      have b4 := stp_tk A h73 k1 a4
      have hli3 := hli.tk A l7 k1
      have h74 : In7 (hs (st ++ [(l, n)])) := fun y hy => by
        rw [hs_snoc] at hy
        rcases List.mem_append.mp hy with hy | hy
        · exact h73 y hy
        · rw [List.mem_singleton.mp hy]; exact l7
      generalize upd H2 hl0 (.lst (hx ++ [x])) = H3 at k1 b1 b2 b3 b4 s3 hli3 nT ⊢
      have sT : Same H3 (upd H3 Tt (.tup [x, .int (n : Int)])) := same_upd nT
      have c3 := sT _ _ b3
      have cT : (upd H3 Tt (.tup [x, .int (n : Int)])) Tt = some (.tup [x, .int (n : Int)]) := upd_same
      have c1 := sT _ _ b1
      have c2 := al_tk A h74 (Same.tk sT) b2
      have c4 := stp_tk A h73 (Same.tk sT) b4
      have c5 := hli3.tk A l7 (Same.tk sT)
      have s4 := s3.trans sT
      generalize upd H3 Tt (.tup [x, .int (n : Int)]) = H4 at sT c1 c2 c3 c4 c5 cT s4 ⊢
      have k5 : Tk H4 (upd H4 sl (.lst (sx ++ [.ref Tt]))) := tk_upd c3 True.intro
      refine ⟨c3, K15.Same.mut s4 nsH, hx ++ [x], sx ++ [.ref Tt], ?_, al_tk A h74 k5 c2, upd_same, R1.Al.snoc (stp_tk A h73 k5 c4) ⟨Tt, x, rfl, sqT_tk k5 (.of cT), c5.tk A l7 k5⟩⟩
      rw [upd_ne (Ne.symm hne)]
      exact c1
    have turn : ∀ (u : Nat) (y : V) (H2 : Hp), u < xs.length → Two H2 (st0 (ls.take u)) → xs[u]? = some y → ∃ l, ls[u]? = some l ∧ Li e K H2 y l ∧ l.1 < 7 := fun u y H2 hu h2 hy => by
      obtain ⟨l, hl2, hli⟩ := hA.at hy
      have l7 := h7 l (List.mem_of_getElem? hl2)
      exact ⟨l, hl2, hli.tk A l7 (Same.tk h2.1), l7⟩
    refine ⟨fun σ' H2 => ∃ y4, σ' = [some (.ref rl), some (.ref s0), some (.ref hl0), some (.ref sl), y4, none, none, none, none] ∧ Two H2 (st0 ls), ?_, ?_⟩
    · have h0 : Two H1 (st0 (ls.take 0)) := ⟨sB, [], [], hlA, R1.Al.nil, hlB, R1.Al.nil⟩
      rcases hs0 with hs0 | hs0
      · refine .inl ⟨.ref s0, rfl, s0, rfl, ⟨_, sqL_same sB hs0⟩, for_it (walk_list (xs := xs)) (fun u σ' H2 => ∃ y4, σ' = [some (.ref rl), some (.ref s0), some (.ref hl0), some (.ref sl), y4, none, none, none, none] ∧ Two H2 (st0 (ls.take u))) ⟨none, rfl, h0⟩ (fun u σ' H2 _ h => by obtain ⟨_, _, h2⟩ := h; exact sqL_same h2.1 hs0) (fun u y σ' _ H2 hu h z => ?_) fun σ' H2 h => ?_⟩
        · obtain ⟨y4, rfl, h2⟩ := h
          obtain ⟨rfl, hy⟩ := z
          obtain ⟨l, hl2, hli, l7⟩ := turn u y _ hu h2 hy
          obtain ⟨s2, hx, sx, a1, a2, a3, a4⟩ := h2
          have h73 := st7 u
          have ld := dd_len (ls.take u)
          rw [List.length_take] at ld
          have l1 : hx.length ≤ 1000 := by rw [a2.1, hs_st0]; omega
          have l2 : sx.length ≤ 1000 := by rw [a4.1]; unfold st0; rw [List.length_map]; omega
          have hdt := dd_take ls u l hl2
          refine ⟨y, rfl, .ref hl0, rfl, eL e l, (hs (st0 (ls.take u))).map (eL e), hli, .lst (.of a1) (al_dps a2), eL_shaped A l7, list_shaped A h73, _, rfl, ?_⟩
          rw [any_eL A l7 h73, hs_st0]
          by_cases c : l ∈ dd (ls.take u)
          · rw [decide_eq_true c]
            rw [if_pos c] at hdt
            refine iteF ⟨_, rfl, s2, hx, sx, a1, ?_, a3, ?_⟩
            · rw [hs_st0, hdt, ← hs_st0]; exact a2
            · unfold st0; rw [hdt]; exact a4
          · rw [decide_eq_false c]
            rw [if_neg c] at hdt
            refine iteT ⟨.ref hl0, rfl, .inl ⟨rfl, _, .of a1⟩, y, rfl, hl0, hx, y, rfl, rfl, a1, small1000 l1, ?_⟩
            refine ⟨.ref sl, rfl, .inl ⟨rfl, sx, .of (by rw [upd_ne hne]; exact a3)⟩, y, rfl, Nat.le_of_lt (small1000 (by simp)), fun Tt nT => ?_⟩
            obtain ⟨p1, p2⟩ := push 0 s2 a1 a2 a3 a4 h73 l7 hli Tt nT
            refine ⟨sl, sx, .ref Tt, rfl, rfl, p1, small1000 l2, _, rfl, ?_⟩
            have : st0 (ls.take (u + 1)) = st0 (ls.take u) ++ [(l, 0)] := by unfold st0; rw [hdt, List.map_append]; rfl
            rw [this]
            exact p2
        · obtain ⟨y4, rfl, h2⟩ := h
          rw [xl, List.take_length] at h2
          exact ⟨y4, rfl, h2⟩
      · refine .inr ⟨.ref s0, rfl, s0, rfl, ⟨_, sqT_tk (Same.tk sB) hs0⟩, for_it (walk_tup (xs := xs)) (fun u σ' H2 => ∃ y4, σ' = [some (.ref rl), some (.ref s0), some (.ref hl0), some (.ref sl), y4, none, none, none, none] ∧ Two H2 (st0 (ls.take u))) ⟨none, rfl, h0⟩ (fun u σ' H2 _ h => by obtain ⟨_, _, h2⟩ := h; exact sqT_tk (Same.tk h2.1) hs0) (fun u y σ' _ H2 hu h z => ?_) fun σ' H2 h => ?_⟩
        · obtain ⟨y4, rfl, h2⟩ := h
          obtain ⟨rfl, hy⟩ := z
          obtain ⟨l, hl2, hli, l7⟩ := turn u y _ hu h2 hy
          obtain ⟨s2, hx, sx, a1, a2, a3, a4⟩ := h2
          have h73 := st7 u
          have ld := dd_len (ls.take u)
          rw [List.length_take] at ld
          have l1 : hx.length ≤ 1000 := by rw [a2.1, hs_st0]; omega
          have l2 : sx.length ≤ 1000 := by rw [a4.1]; unfold st0; rw [List.length_map]; omega
          have hdt := dd_take ls u l hl2
          refine ⟨y, rfl, .ref hl0, rfl, eL e l, (hs (st0 (ls.take u))).map (eL e), hli, .lst (.of a1) (al_dps a2), eL_shaped A l7, list_shaped A h73, _, rfl, ?_⟩
          rw [any_eL A l7 h73, hs_st0]
          by_cases c : l ∈ dd (ls.take u)
          · rw [decide_eq_true c]
            rw [if_pos c] at hdt
            refine iteF ⟨_, rfl, s2, hx, sx, a1, ?_, a3, ?_⟩
            · rw [hs_st0, hdt, ← hs_st0]; exact a2
            · unfold st0; rw [hdt]; exact a4
          · rw [decide_eq_false c]
            rw [if_neg c] at hdt
            refine iteT ⟨.ref hl0, rfl, .inl ⟨rfl, _, .of a1⟩, y, rfl, hl0, hx, y, rfl, rfl, a1, small1000 l1, ?_⟩
            refine ⟨.ref sl, rfl, .inl ⟨rfl, sx, .of (by rw [upd_ne hne]; exact a3)⟩, y, rfl, Nat.le_of_lt (small1000 (by simp)), fun Tt nT => ?_⟩
            obtain ⟨p1, p2⟩ := push 0 s2 a1 a2 a3 a4 h73 l7 hli Tt nT
            refine ⟨sl, sx, .ref Tt, rfl, rfl, p1, small1000 l2, _, rfl, ?_⟩
            have : st0 (ls.take (u + 1)) = st0 (ls.take u) ++ [(l, 0)] := by unfold st0; rw [hdt, List.map_append]; rfl
            rw [this]
            exact p2
        · obtain ⟨y4, rfl, h2⟩ := h
          rw [xl, List.take_length] at h2
          exact ⟨y4, rfl, h2⟩
    · clear turn
      rintro σ1 Ha ⟨y4, rfl, h2a⟩
      have st7' : In7 (hs (st0 ls)) := by have := st7 ls.length; rwa [List.take_length] at this
      have len0 : (st0 ls).length ≤ 20 := by
        unfold st0
        rw [List.length_map]
        have := dd_len ls
        omega
      have ret : ∀ (H2 : Hp) (st : List Stp) (k : Nat), In7 (hs st) → Two H2 st → run 100 rows (st0 ls) = (st, k) → ∀ pq, H2 pq = none → Q (.ref pq) (upd H2 pq (.lst [.ref sl, .int (k : Int)])) := by
        rintro H2 st k h73 ⟨s2, hx, sx, a1, a2, a3, a4⟩ hrun pq npq
        have s3 := same_upd (o := .lst [.ref sl, .int (k : Int)]) npq
        refine q pq sl sx _ (s2.trans s3) (s2.free npq) ?_ (s3 _ _ a3) ?_
        · rw [hrun]; exact upd_same
        · rw [hrun]
          exact stp_tk A h73 (Same.tk s3) a4
      obtain ⟨rv, hrv, hAr⟩ := hrw
      have lr : rv.length = rows.length := hAr.1
      have isN : ∀ {v : V} {σ : L2.St} {H : Hp} {i : Nat} (b : Bool), σ[i]? = some (some v) → decide (v = V.non) = b → Ans (tTest (tOp (fun x y H Q => y = V.non ∧ Q (V.bl (decide (x = V.non))) H) (tVar i) (tC V.non))) σ H b := fun b h e Q q => ⟨_, h, rfl, _, rfl, by rw [e]; exact q⟩
      have rN : ∀ p : Addr, decide (V.ref p = V.non) = false := fun p => decide_eq_false fun z => nomatch z
      have c7 : ∀ {j : Nat} {held : List Lt} {r : Row}, chosen (rows.take j) held = some r → In7 r.2 := fun h => (rok.2 _ (List.mem_of_mem_take (chosen_mem h).1)).2
      refine ⟨100, rfl, by omega, by omega, for_it walk_range (fun i σ' H' => ∃ y4 y5 y6 y7 y8 st, σ' = [some (.ref rl), some (.ref s0), some (.ref hl0), some (.ref sl), y4, y5, y6, y7, y8] ∧ Two H' st ∧ In7 (hs st) ∧ st.length ≤ 20 + i ∧ run (100 - i) rows st = run 100 rows (st0 ls)) ⟨y4, none, none, none, none, st0 ls, rfl, h2a, st7', by omega, rfl⟩ (fun _ _ _ _ _ => trivial) ?_ ?_⟩
      · rintro i x σ' _ H2 hi ⟨y4, y5, y6, y7, y8, st, rfl, h2, h73, hlen, hrun⟩ ⟨rfl, rfl⟩
        have hi' : i < 100 := by omega
        refine .inl ⟨.ref rl, rfl, rl, rfl, ⟨_, sqL_same h2.1 hrv⟩, for_it (walk_list (xs := rv)) (fun j σ' H' => ∃ v6 y7 y8, σ' = [some (.ref rl), some (.ref s0), some (.ref hl0), some (.ref sl), y4, some (.int (0 + (i : Int))), some v6, y7, y8] ∧ Two H' st ∧ ChIs e K hl0 sl H' (hs st) (chosen (rows.take j) (hs st)) v6) ⟨.non, y7, y8, rfl, h2, rfl⟩ (fun j σ' H' _ h => by obtain ⟨_, _, _, _, h2, _⟩ := h; exact sqL_same h2.1 hrv) ?_ ?_⟩
        · rintro j xr σ' _ H3 hj ⟨v6, y7, y8, rfl, h3, hch⟩ ⟨rfl, hxr⟩
          obtain ⟨r, hr2, hrw⟩ := hAr.at hxr
          have rm := List.mem_of_getElem? hr2
          obtain ⟨rl60, r7⟩ := rok.2 r rm
          obtain ⟨b, c0, rfl, hb, xs0, hxs0, hA0⟩ := hrw.same A r7 h3.1
          obtain ⟨s3, hx, sx, a1, a2, a3, a4⟩ := id h3
          refine ixv 1 rfl (.of hb) rfl ⟨.ref hl0, rfl, c0, hl0, xs0, hx, r.2, hs st, rfl, hxs0, hA0, by omega, r7, .of a1, a2, h73, fun lf ys H4 s4 nlf hlf hB => ?_⟩
          have h4 := two_same h73 s4 h3
          obtain ⟨_, hx4, sx4, b1, b2, b3, b4⟩ := id h4
          have hb4 := s4 _ _ hb
          have hch4 := hch.same A (fun r hr => c7 hr) s4
          cases hc : chosen (rows.take j) (hs st) with
          | some r1 =>
            rw [hc] at hch4
            obtain ⟨c, lf1, ys1, rfl, d1, d2, d3⟩ := hch4
            refine if_ans (b := false) (ans_and0 (isN false rfl (rN c))) (fun z => nomatch z) (fun _ => ⟨_, _, _, rfl, h4, ?_⟩)
            rw [chosen_some hr2 hc]
            exact ⟨c, lf1, ys1, rfl, d1, d2, d3⟩
          | none =>
            rw [hc] at hch4
            obtain rfl : v6 = V.non := hch4
            have ly : ys.length = (left r.2 (hs st)).length := hB.1
            have len : ∀ n : Nat, Ans (tTest (tOp (rEqq K) (tCB (rLn K) (tCons (tVar 8) tNil)) (tC (.int (n : Int))))) [some (.ref rl), some (.ref s0), some (.ref hl0), some (.ref sl), y4, some (.int (0 + (i : Int))), some .non, some (.ref b), some (.ref lf)] H4 (decide ((left r.2 (hs st)).length = n)) := fun n => by
              have := len_eq (K := K) (i := 8) (n := n) (p := lf) (ys := ys) (σ := [some (.ref rl), some (.ref s0), some (.ref hl0), some (.ref sl), y4, some (.int (0 + (i : Int))), some .non, some (.ref b), some (.ref lf)]) (H := H4) rfl (.inl (.of hlf))
              rw [ly] at this
              exact this
            have inner : Ans (tOr (tTest (tOp (rEqq K) (tCB (rLn K) (tCons (tVar 8) tNil)) (tC (.int 0)))) (tAnd (tTest (tOp (rEqq K) (tCB (rLn K) (tCons (tVar 8) tNil)) (tC (.int 1)))) (tTest (tOp (rNotInD K) (tOp (rIx K) (tVar 8) (tC (.int 0))) (tVar 2)))))
                [some (.ref rl), some (.ref s0), some (.ref hl0), some (.ref sl), y4, some (.int (0 + (i : Int))), some .non, some (.ref b), some (.ref lf)] H4 (fires r.2 (hs st)) := by
              cases hL : left r.2 (hs st) with
              | nil =>
                have := len 0
                rw [hL] at this
                rw [fires_nil hL]
                exact ans_or1 this
              | cons l ls1 =>
                have l0 := len 0
                rw [hL, decide_eq_false (by simp)] at l0
                refine ans_or l0 ?_
                cases ls1 with
                | nil =>
                  have l1 := len 1
                  rw [hL, decide_eq_true (by rfl)] at l1
                  rw [fires_one' hL]
                  refine ans_and l1 fun Q' q' => ?_
                  rw [hL] at hB
                  obtain ⟨y, hy⟩ : ∃ y, ys = [y] := List.length_eq_one_iff.mp hB.1
                  subst hy
                  have l7 : l.1 < 7 := r7 l (by
                    have : l ∈ left r.2 (hs st) := by rw [hL]; exact List.mem_cons_self
                    exact (List.mem_filter.mp this).1)
                  refine ixv 0 rfl (.of hlf) rfl ⟨.ref hl0, rfl, eL e l, (hs st).map (eL e), hB.2 0 y l rfl rfl, .lst (.of b1) (al_dps b2), eL_shaped A l7, list_shaped A h73, _, rfl, ?_⟩
                  rw [any_eL A l7 h73]
                  exact q'
                | cons m ls2 =>
                  have l1 := len 1
                  rw [hL, decide_eq_false (by simp)] at l1
                  rw [fires_more hL]
                  exact ans_and0 l1
            refine if_ans (ans_and (isN true rfl (by simp)) inner) (fun z => ?_) (fun z => ⟨_, _, _, rfl, h4, ?_⟩)
            · refine ixv 0 rfl (.of hb4) rfl ⟨.ref lf, rfl, Nat.le_of_lt (small1000 (by simp)), fun c nc => ⟨_, _, _, rfl, two_same h73 (same_upd nc) h4, ?_⟩⟩
              rw [chosen_new hr2 hc z]
              have sc := same_upd (o := .lst [.int (r.1 : Int), .ref lf]) nc
              exact ⟨c, lf, ys, rfl, upd_same, sc _ _ hlf, al_tk A (in7_l r7) (Same.tk sc) hB, Ne.symm (ne_of_none b1 nc), Ne.symm (ne_of_none b3 nc), Ne.symm (ne_of_none a1 nlf), Ne.symm (ne_of_none a3 nlf)⟩
            · rw [chosen_take hr2 hc z]
              exact rfl
        · rintro σ' H3 ⟨v6, y7, y8, rfl, h3, hch⟩
          rw [lr, List.take_length] at hch
          have c7' : ∀ r, chosen rows (hs st) = some r → In7 r.2 := fun r h => (rok.2 _ (chosen_mem h).1).2
          cases hc : chosen rows (hs st) with
          | none =>
            rw [hc] at hch
            obtain rfl : v6 = V.non := hch
            refine if_ans (isN true rfl (by simp)) (fun _ => ?_) (fun z => nomatch z)
            exact ⟨.ref sl, rfl, Nat.le_of_lt (small1000 (by simp)), ret H3 st 0 h73 h3 (by rw [← hrun]; exact run_none (by omega) hc)⟩
          | some r =>
            rw [hc] at hch
            obtain ⟨c, lf, ys, rfl, d1, d2, d3, n1, n2, n3, n4⟩ := hch
            have r7 := c7' r hc
            refine if_ans (isN false rfl (rN c)) (fun z => nomatch z) (fun _ => ?_)
            have ly : ys.length = (left r.2 (hs st)).length := d3.1
            have tl : Ans (tTest (tOp (rEqq K) (tCB (rLn K) (tCons (tOp (rIx K) (tVar 6) (tC (.int 1))) tNil)) (tC (.int 0)))) [some (.ref rl), some (.ref s0), some (.ref hl0), some (.ref sl), y4, some (.int (0 + (i : Int))), some (.ref c), y7, y8] H3 (decide ((left r.2 (hs st)).length = 0)) := fun Q' q' => by
              have : decide ((ys.length : Int) = 0) = decide ((left r.2 (hs st)).length = 0) := by rw [Bool.eq_iff_iff, decide_eq_true_eq, decide_eq_true_eq]; omega
              refine ixv 1 rfl (.of d1) rfl (.inr ⟨lf, ys, rfl, .inl (.of d2), eqi ?_⟩)
              rw [this]
              exact q'
            refine if_ans tl (fun z => ?_) (fun z => ?_)
            · have hL : left r.2 (hs st) = [] := List.length_eq_zero_iff.mp (of_decide_eq_true z)
              exact ⟨.ref sl, rfl, ixv 0 rfl (.of d1) rfl ⟨Nat.le_of_lt (small1000 (by simp)), ret H3 st r.1 h73 h3 (by rw [← hrun]; exact run_clash (by omega) hc hL)⟩⟩
            · cases hL : left r.2 (hs st) with
              | nil => rw [hL] at z; cases z
              | cons l ls1 =>
                rw [hL] at d3 ly
                obtain ⟨y, ys1, rfl⟩ : ∃ y ys1, ys = y :: ys1 := by
                  cases ys with
                  | nil => simp at ly
                  | cons y ys1 => exact ⟨y, ys1, rfl⟩
                have hli := d3.2 0 y l rfl rfl
                have l7 : l.1 < 7 := r7 l (by
                  have : l ∈ left r.2 (hs st) := by rw [hL]; exact List.mem_cons_self
                  exact (List.mem_filter.mp this).1)
                obtain ⟨s3, hx, sx, a1, a2, a3, a4⟩ := h3
                have l1 : hx.length ≤ 1000 := by rw [a2.1]; unfold hs; rw [List.length_map]; omega
                have l2 : sx.length ≤ 1000 := by rw [a4.1]; omega
                refine ⟨.ref hl0, rfl, .inl ⟨rfl, _, .of a1⟩, ixv 1 rfl (.of d1) rfl (.inl ⟨lf, y :: ys1, (0 : Nat), y, rfl, rfl, .of d2, atI_nat rfl, hl0, hx, y, rfl, rfl, a1, small1000 l1, ?_⟩)⟩
                have d1b : (upd H3 hl0 (.lst (hx ++ [y]))) c = some (.lst [.int (r.1 : Int), .ref lf]) := by rw [upd_ne n1]; exact d1
                have d2b : (upd H3 hl0 (.lst (hx ++ [y]))) lf = some (.lst (y :: ys1)) := by rw [upd_ne n3]; exact d2
                refine ⟨.ref sl, rfl, .inl ⟨rfl, sx, .of (by rw [upd_ne hne]; exact a3)⟩, ixv 1 rfl (.of d1b) rfl (.inl ⟨lf, y :: ys1, (0 : Nat), y, rfl, rfl, .of d2b, atI_nat rfl, ixv 0 rfl (.of d1b) rfl ⟨Nat.le_of_lt (small1000 (by simp)), fun Tt nT => ?_⟩⟩)⟩
                obtain ⟨p1, p2⟩ := push r.1 s3 a1 a2 a3 a4 h73 l7 hli Tt nT
                refine ⟨sl, sx, .ref Tt, rfl, rfl, p1, small1000 l2, y4, some (.int (0 + (i : Int))), some (.ref c), y7, y8, st ++ [(l, r.1)], rfl, p2, ?_, by rw [List.length_append]; simp; omega, ?_⟩
                · intro m hm
                  rw [hs_snoc] at hm
                  rcases List.mem_append.mp hm with hm | hm
                  · exact h73 m hm
                  · rw [List.mem_singleton.mp hm]; exact l7
                · rw [← hrun]
                  have e100 : 100 - i = (100 - (i + 1)) + 1 := by omega
                  rw [e100]
                  exact (run_next hc hL).symm
      · rintro σ' H2 ⟨y4, y5, y6, y7, y8, st, rfl, h2, h73, hlen, hrun⟩
        exact ⟨.ref sl, rfl, Nat.le_of_lt (small1000 (by simp)), ret H2 st 0 h73 h2 (by rw [← hrun]; rfl)⟩
end
end K15


/-! the rows as a dict, the rows by label -/
namespace K15
open PySem PySem.Spec PyProof.Rows L2 RN
section
variable {P : Program} {w : World} {K : PySem.W.Frag} {mg : Str → Option Value} {base : Heap} {a : Ad} {e : Nat → PyData}
def KvIs (e : Nat → PyData) (K : PySem.W.Frag) (H : Hp) (kvs : List (Key × V)) (rows : List Row) : Prop := kvs.length = rows.length ∧ ∀ (i : Nat) (p : Key × V) (r : Row), kvs[i]? = some p → rows[i]? = some r → p.1 = Sum.inl (r.1 : Int) ∧ ∃ c0, p.2 = .ref c0 ∧ ClIs e K H c0 r.2
theorem KvIs.tk (A : AtOk e) {H H' : Hp} {kvs : List (Key × V)} {rows : List Row} (ok : RsOk rows) (t : Tk H H') (h : KvIs e K H kvs rows) : KvIs e K H' kvs rows :=
  ⟨h.1, fun i p r a b => let ⟨h1, c0, h2, h3⟩ := h.2 i p r a b; ⟨h1, c0, h2, h3.tk A t (ok.2 r (List.mem_of_getElem? b)).2⟩⟩
theorem kv_keys {H : Hp} {kvs : List (Key × V)} {rows : List Row} (h : KvIs e K H kvs rows) : KsIs kvs (rows.map (·.1)) := by
  refine List.ext_getElem? fun i => ?_
  rw [List.getElem?_map, List.map_map, List.getElem?_map]
  cases hr : rows[i]? with
  | none =>
    have : kvs[i]? = none := by
      rw [List.getElem?_eq_none_iff] at hr ⊢
      rw [h.1]; exact hr
    rw [this]; rfl
  | some r =>
    have lt := (List.getElem?_eq_some_iff.mp hr).1
    have lt2 : i < kvs.length := by rw [h.1]; exact lt
    have g : kvs[i]? = some kvs[i] := List.getElem?_eq_getElem lt2
    rw [g]
    exact congrArg some (h.2 i _ r g hr).1
theorem kv_mem {H : Hp} {kvs : List (Key × V)} {rows : List Row} (h : KvIs e K H kvs rows) : ∀ p ∈ kvs, (∃ n, p.1 = Sum.inl n) ∧ ∃ c, p.2 = .ref c := fun p hp => by
  obtain ⟨i, hi⟩ := List.mem_iff_getElem?.mp hp
  have lt := (List.getElem?_eq_some_iff.mp hi).1
  have lt2 : i < rows.length := by rw [← h.1]; exact lt
  have g : rows[i]? = some rows[i] := List.getElem?_eq_getElem lt2
  obtain ⟨h1, c0, h2, _⟩ := h.2 i p _ hi g
  exact ⟨⟨_, h1⟩, c0, h2⟩
theorem KvIs.snoc {H : Hp} {kvs : List (Key × V)} {rows : List Row} {r : Row} {c0 : Addr} (h : KvIs e K H kvs rows) (hc : ClIs e K H c0 r.2) : KvIs e K H (kvs ++ [(Sum.inl (r.1 : Int), .ref c0)]) (rows ++ [r]) := by
  refine ⟨by simp [h.1], fun i p q hp hq => ?_⟩
  by_cases lt : i < kvs.length
  · rw [List.getElem?_append_left lt] at hp
    rw [List.getElem?_append_left (by rw [← h.1]; exact lt)] at hq
    exact h.2 i p q hp hq
  · rw [List.getElem?_append_right (by omega)] at hp
    rw [List.getElem?_append_right (by rw [← h.1]; omega), ← h.1] at hq
    cases z : i - kvs.length with
    | zero => rw [z] at hp hq; cases hp; cases hq; exact ⟨rfl, c0, rfl, hc⟩
    | succ k => rw [z] at hp; simp at hp
theorem val_find (kvs : List (Key × V)) (k : Key) : valV kvs k = (kvs.find? fun kv => decide (kv.1 = k)).map (·.2) := rfl
theorem kv_find {H : Hp} : ∀ {kvs : List (Key × V)} {rows : List Row}, KvIs e K H kvs rows → (rows.map (·.1)).Nodup → ∀ r ∈ rows, ∃ c0, valV kvs (.inl (r.1 : Int)) = some (.ref c0) ∧ ClIs e K H c0 r.2
  | [], [], _, _, r, hr => nomatch hr
  | [], _ :: _, h, _, _, _ => by have := h.1; simp at this
  | _ :: _, [], _, _, r, hr => nomatch hr
  | p :: kvs, r0 :: rows, h, nd, r, hr => by
    obtain ⟨h1, c0, h2, h3⟩ := h.2 0 p r0 rfl rfl
    have tl : KvIs e K H kvs rows := ⟨Nat.succ.inj h.1, fun i q s a b => h.2 (i + 1) q s (by simpa using a) (by simpa using b)⟩
    rw [List.map_cons, List.nodup_cons] at nd
    rw [val_find, List.find?_cons]
    rcases List.mem_cons.mp hr with rfl | hr
    · rw [h1]
      simp only [decide_true]
      exact ⟨c0, by rw [← h2]; rfl, h3⟩
    · have ne : ¬ p.1 = Sum.inl (r.1 : Int) := fun z => by
        rw [h1] at z
        have z2 : (r0.1 : Int) = (r.1 : Int) := Sum.inl.inj z
        exact nd.1 (List.mem_map.mpr ⟨r, hr, by omega⟩)
      simp only [ne, decide_false]
      obtain ⟨c1, e1, e2⟩ := kv_find tl nd.2 r hr
      exact ⟨c1, by rw [← e1, val_find], e2⟩
def spDict (e : Nat → PyData) (K : PySem.W.Frag) : Sp := fun vs H Q _ => ∃ (rl : Addr) (rows : List Row), vs = [.ref rl] ∧ RwsIs e K H rl rows ∧ RsOk rows ∧ (rows.map (·.1)).Nodup ∧ ∀ d kvs H', Same H H' → H d = none → H' d = some (.dK kvs) → KvIs e K H' kvs rows → Q (.ref d) H'
theorem ok_dict (A : AtOk e) (T : Top K mg a) : FnOk P w K mg base CX0 1 a.f_l_dict a.d_l_dict ["_law_rows"] (spDict e K) := by
  refine T.F_l_dict.ok sc_l_dict (fun vs H Q E h => ?_) (fun cdv A' outer s H vs Q E hr h => ?_)
  · obtain ⟨_, _, rfl, _⟩ := h
    rfl
  · obtain ⟨rl, rows, rfl, ⟨rv, hrv, hAr⟩, rok, nd, q⟩ := h
    refine ⟨_, (pss_cons (ps_set (i := 1) sc_l_dict.nd rfl (.inl rfl) pe_dnewK)
    (pss_cons (ps_for PassesOwn.never rfl (R1.PI.or (pi_list (pv 0)) (pi_tup (pv 0))) (pg_name (i := 2) sc_l_dict.nd rfl (.inl rfl))
      (pss_one (ps_asg (pe_ix ix_seq (pv 2) pe_int (fun _ _ => rfl)) (pg_sub (pv 1) (pe_ix ix_seq (pv 2) pe_int (fun _ _ => rfl)) (set_dict (hu_of hr))))))
    (pss_one (ps_ret (pv 1))))), ?_⟩
    refine fun d nd' => ?_
    have lr : rv.length = rows.length := hAr.1
    have rl60 := rok.1
    refine .inl ⟨.ref rl, rfl, rl, rfl, ⟨_, sqL_same (same_upd nd') hrv⟩, for_it (walk_list (xs := rv)) (fun j σ' H' => ∃ y2 kvs, σ' = [some (.ref rl), some (.ref d), y2] ∧ Same H H' ∧ H' d = some (.dK kvs) ∧ KvIs e K H' kvs (rows.take j)) ⟨none, [], rfl, same_upd nd', upd_same, rfl, fun i p r h => by simp at h⟩ (fun j σ' H' _ h => by obtain ⟨_, _, _, s2, _⟩ := h; exact sqL_same s2 hrv) ?_ ?_⟩
    · rintro j xr σ' _ H2 hj ⟨y2, kvs, rfl, s2, hd, hK⟩ ⟨rfl, hxr⟩
      obtain ⟨r, hr2, hrw⟩ := hAr.at hxr
      have rm := List.mem_of_getElem? hr2
      obtain ⟨b, c0, rfl, hb, hc⟩ := hrw.same A (rok.2 r rm).2 s2
      have kl : kvs.length ≤ 60 := by rw [hK.1, List.length_take]; omega
      refine ixv 1 rfl (.of hb) rfl ⟨.ref d, rfl, ixv 0 rfl (.of hb) rfl ⟨d, upd H2 d (.dK (putK kvs (.inl (r.1 : Int)) (.ref c0))), rfl, DPut.k (k := Sum.inl (r.1 : Int)) hd (small1000 (by omega)), _, _, rfl, K15.Same.mut s2 nd', upd_same, ?_⟩⟩
      have ks := kv_keys hK
      have fresh : (kvs.any fun kv => decide (kv.1 = Sum.inl (r.1 : Int))) = false := by
        rw [List.any_eq_false]
        intro p hp z
        have z2 := of_decide_eq_true z
        have m : (Sum.inl (r.1 : Int) : Key) ∈ kvs.map (·.1) := List.mem_map.mpr ⟨p, hp, z2⟩
        rw [ks] at m
        obtain ⟨n, hn, e1⟩ := List.mem_map.mp m
        have e2 : (n : Int) = (r.1 : Int) := Sum.inl.inj e1
        obtain ⟨r1, hr1, e3⟩ := List.mem_map.mp hn
        have lt := (List.getElem?_eq_some_iff.mp hr2).1
        have g : (rows.map (·.1)) = (rows.take j).map (·.1) ++ (rows.drop j).map (·.1) := by rw [← List.map_append, List.take_append_drop]
        rw [g] at nd
        have dj := (List.nodup_append.mp nd).2.2
        refine dj r1.1 (List.mem_map.mpr ⟨r1, hr1, rfl⟩) r.1 ?_ (by omega)
        have : rows.drop j = rows[j] :: rows.drop (j + 1) := List.drop_eq_getElem_cons lt
        rw [this]
        have gj : rows[j] = r := (List.getElem?_eq_some_iff.mp hr2).2
        rw [gj]
        exact List.mem_cons_self
      have pk : putK kvs (.inl (r.1 : Int)) (.ref c0) = kvs ++ [(.inl (r.1 : Int), .ref c0)] := by
        unfold putK
        rw [fresh, if_neg (by decide)]
      have et : rows.take (j + 1) = rows.take j ++ [r] := by rw [List.take_add_one, hr2]; rfl
      have tD : Tk H2 (upd H2 d (.dK (putK kvs (.inl (r.1 : Int)) (.ref c0)))) := tk_upd hd True.intro
      rw [et]
      have okt : RsOk (rows.take j) := ⟨by rw [List.length_take]; omega, fun r hr => rok.2 r (List.mem_of_mem_take hr)⟩
      have := (hK.tk A okt tD).snoc (r := r) (c0 := c0) (hc.tk A tD (rok.2 r rm).2)
      rw [← pk] at this
      exact this
    · rintro σ' H2 ⟨y2, kvs, rfl, s2, hd, hK⟩
      rw [lr, List.take_length] at hK
      exact ⟨_, rfl, q d kvs H2 s2 nd' hd hK⟩
end
end K15


/-! the rows by label -/
namespace R1
theorem ix_seqK {X : L2.Cx} {K : PySem.W.Frag} (hK : X.K = K) : L2.IxR X (L2.rIx K) := by subst hK; exact L2.ix_seq
end R1
namespace K15
open PySem PySem.Spec PyProof.Rows L2 RN
section
variable {P : Program} {w : World} {K : PySem.W.Frag} {mg : Str → Option Value} {base : Heap} {a : Ad} {e : Nat → PyData}
def Rof (rows : List Row) (n : Nat) : List Lt := ((rows.find? fun r => decide (r.1 = n)).map (·.2)).getD []
theorem Rof_mem : ∀ {rows : List Row}, (rows.map (·.1)).Nodup → ∀ r ∈ rows, Rof rows r.1 = r.2
  | [], _, r, hr => nomatch hr
  | r0 :: rows, nd, r, hr => by
    rw [List.map_cons, List.nodup_cons] at nd
    unfold Rof
    rw [List.find?_cons]
    rcases List.mem_cons.mp hr with rfl | hr
    · simp
    · have ne : ¬ r0.1 = r.1 := fun z => nd.1 (List.mem_map.mpr ⟨r, hr, z.symm⟩)
      simp only [ne, decide_false]
      exact Rof_mem nd.2 r hr
theorem rows_of {rows : List Row} (nd : (rows.map (·.1)).Nodup) : rowsOf (Rof rows) (rows.map (·.1)) = rows := by
  unfold rowsOf
  rw [List.map_map]
  have : ∀ l : List Row, (∀ r ∈ l, r ∈ rows) → l.map ((fun n => (n, Rof rows n)) ∘ (·.1)) = l := by
    intro l
    induction l with
    | nil => intro _; rfl
    | cons r l ih =>
      intro h
      rw [List.map_cons, ih fun x hx => h x (List.mem_cons_of_mem _ hx)]
      congr 1
      exact Prod.ext rfl (Rof_mem nd r (h r List.mem_cons_self))
  exact this rows fun _ h => h
/-- a row stays one while a list of rows grows -/
theorem rw_upd (A : AtOk e) {H : Hp} {D : Addr} {acc ys : List V} {rows : List Row} (hD : H D = some (.lst acc)) (hA : R1.Al (RwIs e K H) acc rows) {x : V} {r : Row} (h7 : In7 r.2) (h : RwIs e K H x r) : RwIs e K (upd H D (.lst ys)) x r := by
  obtain ⟨b, c0, rfl, h1, h2⟩ := h
  refine ⟨b, c0, rfl, ?_, h2.tk A (tk_upd hD True.intro) h7⟩
  rw [upd_ne fun z => ?_]
  · exact h1
  · rw [z, hD] at h1
    cases h1
    obtain ⟨r1, _, b1, c1, e1, _⟩ := hA.at (i := 0) (x := .int (r.1 : Int)) rfl
    cases e1
def spBy (e : Nat → PyData) (K : PySem.W.Frag) : Sp := fun vs H Q _ => ∃ (rl : Addr) (rows : List Row), vs = [.ref rl] ∧ RwsIs e K H rl rows ∧ RsOk rows ∧ (rows.map (·.1)).Nodup ∧ ∀ p H', Same H H' → H p = none → RwsIs e K H' p (rowsOf (Rof rows) (srtN (rows.map (·.1)))) → Q (.ref p) H'
theorem ok_by (A : AtOk e) (T : Top K mg a) (G_l_dict : FnOk P w K mg base CX0 1 a.f_l_dict a.d_l_dict ["_law_rows"] (spDict e K)) : FnOk P w K mg base CX0 2 a.f_l_by_label a.d_l_by_label ["_law_rows"] (spBy e K) := by
  refine T.F_l_by_label.ok sc_l_by_label (fun vs H Q E h => ?_) (fun cdv A' outer s H vs Q E hr h => ?_)
  · obtain ⟨_, _, rfl, _⟩ := h
    rfl
  · obtain ⟨rl, rows, rfl, hrw, rok, nd, q⟩ := h
    refine ⟨_, (pss_cons (ps_set (i := 1) sc_l_by_label.nd rfl (.inr rfl) (pe_call G_l_dict (hr.mono (by decide)) (by rfl) T.m_l_dict T.F_l_dict.kp T.b_l_dict .nil pass0 (pa_cons (pv 0) pa_nil)))
    (pss_one (ps_ret (pe_lc (own := [("_law_label", 2)]) rfl sc_l_by_label.nd (R1.PI.or (pi_list (pe_callB (R0.cr_sortD hr.units) (by rfl) T.z_sorted (by decide +kernel) (pa_cons (pe_lc (own := [("_law_row", 3)]) rfl sc_l_by_label.nd (R1.PI.or (pi_list (pv 0)) (pi_tup (pv 0))) (blkOk_by (own := [("_law_row", 3)]) (N := ["_law_rows", "_law_table", "_law_label", "_law_row"]) (sc := defScope s_l_by_label) (by decide +kernel)) (fun _ _ _ _ _ => (pg_name (i := 3) sc_l_by_label.nd rfl (.inl rfl))) (fun _ _ _ _ _ => pts_nil) (fun _ _ _ _ _ => (pe_ix (R1.ix_seqK (K := K) rfl) (pv 3) pe_int (fun _ _ => rfl)))) pa_nil))) (pi_tup (pe_callB (R0.cr_sortD hr.units) (by rfl) T.z_sorted (by decide +kernel) (pa_cons (pe_lc (own := [("_law_row", 3)]) rfl sc_l_by_label.nd (R1.PI.or (pi_list (pv 0)) (pi_tup (pv 0))) (blkOk_by (own := [("_law_row", 3)]) (N := ["_law_rows", "_law_table", "_law_label", "_law_row"]) (sc := defScope s_l_by_label) (by decide +kernel)) (fun _ _ _ _ _ => (pg_name (i := 3) sc_l_by_label.nd rfl (.inl rfl))) (fun _ _ _ _ _ => pts_nil) (fun _ _ _ _ _ => (pe_ix (R1.ix_seqK (K := K) rfl) (pv 3) pe_int (fun _ _ => rfl)))) pa_nil)))) (blkOk_by (own := [("_law_label", 2)]) (N := ["_law_rows", "_law_table", "_law_label", "_law_row"]) (sc := defScope s_l_by_label) (by decide +kernel)) (fun _ _ _ _ _ => (pg_name (i := 2) sc_l_by_label.nd rfl (.inl rfl))) (fun _ _ _ _ _ => pts_nil) (fun _ _ _ _ _ => (pe_lst (pa_cons (pv 2) (pa_cons (pe_dget (hu_of hr) (pv 1) (pv 2) (fun _ _ => rfl)) pa_nil)))))))), ?_⟩
    refine ⟨.ref rl, rfl, rl, rows, rfl, hrw, rok, nd, fun d kvs H1 s1 nd1 hd hK => ?_⟩
    obtain ⟨rv, hrv, hAr⟩ := rws_same A rok s1 hrw
    have lr : rv.length = rows.length := hAr.1
    have rl60 := rok.1
    refine .inl (.inl ⟨.ref rl, rfl, rl, rfl, ⟨_, hrv⟩, fun D nD => R1.walk_it (walk_list (xs := rv)) (fun u H2 => Same H1 H2 ∧ H2 D = some (.lst (ivN ((rows.map (·.1)).take u)))) ⟨same_upd nD, upd_same⟩ (fun u H2 _ h => sqL_same h.1 hrv) ?_ ?_⟩)
    · rintro u x _ H2 hu ⟨s2, hD⟩ ⟨rfl, hx⟩
      obtain ⟨r, hr2, b, c0, rfl, hb, _⟩ := hAr.at hx
      have et : (rows.map (·.1)).take (u + 1) = (rows.map (·.1)).take u ++ [r.1] := by rw [List.take_add_one, List.getElem?_map, hr2]; rfl
      refine ⟨rfl, .ref b, rfl, .inl ⟨b, _, (0 : Nat), .int (r.1 : Int), rfl, rfl, .of (s2 _ _ hb), atI_nat rfl, _, hD, ?_, K15.Same.mut s2 nD, ?_⟩⟩
      · unfold ivN
        rw [List.length_map, List.length_take]
        exact small1000 (by omega)
      · rw [upd_same, et]
        unfold ivN
        rw [List.map_append]; rfl
    · rintro H2 ⟨s2, hD⟩
      rw [lr] at hD
      have e1 : (rows.map (·.1)).take rows.length = rows.map (·.1) := by
        have : rows.length = (rows.map (·.1)).length := by rw [List.length_map]
        rw [this, List.take_length]
      rw [e1] at hD
      dsimp only [tNil]
      refine sorted_iv (.of hD) fun l nl => ?_
      have s3 := s2.trans (same_upd (o := .lst (ivN (srtN (rows.map (·.1))))) nl)
      have hl3 : (upd H2 l (.lst (ivN (srtN (rows.map (·.1)))))) l = _ := upd_same
      generalize upd H2 l (.lst (ivN (srtN (rows.map (·.1))))) = H3 at s3 hl3 ⊢
      obtain ⟨ks, hks⟩ : ∃ ks, ks = srtN (rows.map (·.1)) := ⟨_, rfl⟩
      rw [← hks] at hl3
      have kl : ks.length ≤ 60 := by rw [hks, srtN_len, List.length_map]; exact rl60
      have kmem : ∀ n ∈ ks, ∃ r ∈ rows, r.1 = n := fun n hn => by
        rw [hks] at hn
        obtain ⟨r, h1, h2⟩ := List.mem_map.mp ((srtN_perm _).mem_iff.mp hn)
        exact ⟨r, h1, h2⟩
      refine ⟨l, rfl, ⟨_, .of hl3⟩, fun D2 nD2 => R1.walk_it (walk_list (xs := ivN ks)) (fun u H4 => Same H3 H4 ∧ ∃ acc, H4 D2 = some (.lst acc) ∧ R1.Al (RwIs e K H4) acc ((rowsOf (Rof rows) ks).take u)) ⟨same_upd nD2, [], upd_same, R1.Al.nil⟩ (fun u H4 _ h => sqL_same h.1 (.of hl3)) ?_ ?_⟩
      · rintro u x _ H4 hu ⟨s4, acc, hD4, hB⟩ ⟨rfl, hx⟩
        obtain ⟨n, hn, rfl⟩ : ∃ n : Nat, ks[u]? = some n ∧ x = V.int (n : Int) := by
          unfold ivN at hx
          rw [List.getElem?_map] at hx
          cases g : ks[u]? with
          | none => rw [g] at hx; cases hx
          | some n => rw [g] at hx; exact ⟨n, rfl, (Option.some.inj hx).symm⟩
        obtain ⟨r, rm, rfl⟩ := kmem n (List.mem_of_getElem? hn)
        have s14 := s3.trans s4
        obtain ⟨c0, hv, hc⟩ := kv_find (hK.tk A rok (Same.tk s14)) nd r rm
        have gr : (rowsOf (Rof rows) ks)[u]? = some r := by
          unfold rowsOf
          rw [List.getElem?_map, hn]
          exact congrArg some (Prod.ext rfl (Rof_mem nd r rm))
        have et : (rowsOf (Rof rows) ks).take (u + 1) = (rowsOf (Rof rows) ks).take u ++ [r] := by rw [List.take_add_one, gr]; rfl
        have la : acc.length ≤ 1000 := by
          have := hB.1
          rw [List.length_take] at this
          unfold rowsOf at this
          rw [List.length_map] at this
          omega
        refine ⟨rfl, .int (r.1 : Int), rfl, .ref d, rfl, .int (r.1 : Int), rfl, d, .ref c0, rfl, .inl ⟨kvs, .inl (r.1 : Int), .inl (s14 _ _ hd), rfl, hv.symm⟩, Nat.le_of_lt (small1000 (by simp)), fun b nb => ?_⟩
        have s5 := same_upd (o := .lst [.int (r.1 : Int), .ref c0]) nb
        have hD5 := s5 _ _ hD4
        have hb5 : (upd H4 b (.lst [.int (r.1 : Int), .ref c0])) b = _ := upd_same
        have bD : b ≠ D2 := fun z => by rw [z, hD4] at nb; cases nb
        refine ⟨acc, hD5, small1000 la, K15.Same.mut (s4.trans s5) nD2, _, upd_same, ?_⟩
        have hB5 : R1.Al (RwIs e K (upd H4 b (.lst [.int (r.1 : Int), .ref c0]))) acc ((rowsOf (Rof rows) ks).take u) := ⟨hB.1, fun i x q a1 a2 => (hB.2 i x q a1 a2).same A (by
          have qm : q ∈ rowsOf (Rof rows) ks := List.mem_of_mem_take (List.mem_of_getElem? a2)
          obtain ⟨n1, hn1, rfl⟩ := List.mem_map.mp qm
          obtain ⟨r1, rm1, rfl⟩ := kmem n1 hn1
          show In7 (Rof rows r1.1)
          rw [Rof_mem nd r1 rm1]
          exact (rok.2 r1 rm1).2) s5⟩
        have hc5 := hc.tk A (Same.tk s5) (rok.2 r rm).2
        have nb1 : ∀ (x : V) (q : Row), RwIs e K (upd H4 b (.lst [.int (r.1 : Int), .ref c0])) x q → True := fun _ _ _ => trivial
        rw [et]
        generalize upd H4 b (.lst [.int (r.1 : Int), .ref c0]) = H5 at hD5 hb5 hB5 hc5 s5 ⊢
        have q7 : ∀ (i : Nat) (q : Row), ((rowsOf (Rof rows) ks).take u)[i]? = some q → In7 q.2 := fun i q a2 => by
          obtain ⟨n1, hn1, rfl⟩ := List.mem_map.mp (List.mem_of_mem_take (List.mem_of_getElem? a2))
          obtain ⟨r1, rm1, rfl⟩ := kmem n1 hn1
          show In7 (Rof rows r1.1)
          rw [Rof_mem nd r1 rm1]
          exact (rok.2 r1 rm1).2
        refine R1.Al.snoc ⟨hB5.1, fun i x q a1 a2 => rw_upd A hD5 hB5 (q7 i q a2) (hB5.2 i x q a1 a2)⟩ (rw_upd A hD5 hB5 (rok.2 r rm).2 ⟨b, c0, rfl, hb5, hc5⟩)
      · rintro H4 ⟨s4, acc, hD4, hB⟩
        have e2 : (rowsOf (Rof rows) ks).take (ivN ks).length = rowsOf (Rof rows) ks := by
          have : (ivN ks).length = (rowsOf (Rof rows) ks).length := by unfold ivN rowsOf; rw [List.length_map, List.length_map]
          rw [this, List.take_length]
        rw [e2, hks] at hB
        have s04 := (s1.trans s3).trans s4
        exact q D2 H4 s04 ((s1.trans s3).free nD2) ⟨acc, .of hD4, hB⟩
end
end K15


/-! drawn clauses and starts -/
namespace K15
open PySem PySem.Spec PyProof.Rows L2 RN
section
variable {P : Program} {w : World} {K : PySem.W.Frag} {mg : Str → Option Value} {base : Heap} {a : Ad} {e : Nat → PyData}
def In6 (ls : List Lt) : Prop := ∀ l ∈ ls, l.1 < 6
theorem In6.to7 {ls : List Lt} (h : In6 ls) : In7 ls := fun l hl => by have := h l hl; omega
def AtsIs (e : Nat → PyData) (K : PySem.W.Frag) (H : Hp) (al : Addr) (n : Nat) : Prop := ∃ xs, H al = some (.lst xs) ∧ xs.length = n ∧ ∀ (i : Nat) x, xs[i]? = some x → Dp K H x (e i)
theorem sta_tk {H H' : Hp} {sc st : Addr} (S : Sta sc H st) (k : Kp st H H') : Tk H H' := by
  obtain ⟨ns, i, b, s, l, hne, hst, _⟩ := S.ex
  exact kp_tk hst True.intro k
theorem sqL_kp {H H' : Hp} {sc st p : Addr} {xs : List V} (S : Sta sc H st) (k : Kp st H H') (n : ∀ i, xs[1]? ≠ some (.int i)) (h : SqL K H p xs) : SqL K H' p xs := by
  obtain ⟨ns, i, b, s, l, hne, hst, _⟩ := S.ex
  by_cases z : p = st
  · subst z
    rcases h with (h | ⟨o, h⟩) | h
    · rw [hst] at h; cases h; exact absurd rfl (n i)
    · rw [hst] at h; cases h
    · exact .inr h
  · rcases h with (h | ⟨o, h⟩) | h
    · exact .inl (.inl (k _ _ z h))
    · exact .inl (.inr ⟨o, k _ _ z h⟩)
    · exact .inr h
theorem AtsIs.sq {H : Hp} {al : Addr} {n : Nat} (h : AtsIs e K H al n) : ∃ xs, SqL K H al xs ∧ xs.length = n ∧ ∀ (i : Nat) x, xs[i]? = some x → Dp K H x (e i) := let ⟨xs, h1, h2⟩ := h; ⟨xs, .of h1, h2⟩
theorem ats_tk (A : AtOk e) {H H' : Hp} {al : Addr} {n : Nat} (h3 : n ≤ 7) (k : Tk H H') (ho : ∀ xs, H al = some (.lst xs) → H' al = some (.lst xs)) (h : AtsIs e K H al n) : AtsIs e K H' al n := by
  obtain ⟨xs, h1, h2, h4⟩ := h
  exact ⟨xs, ho xs h1, h2, fun i x hx => by
    have := (List.getElem?_eq_some_iff.mp hx).1
    exact dp_tk k _ _ (h4 i x hx) (A.kb i (by omega))⟩
theorem ats_same (A : AtOk e) {H H' : Hp} {al : Addr} {n : Nat} (h3 : n ≤ 7) (s : Same H H') (h : AtsIs e K H al n) : AtsIs e K H' al n := ats_tk A h3 (Same.tk s) (fun _ q => s _ _ q) h
theorem ats_kp (A : AtOk e) {H H' : Hp} {sc st al : Addr} {n : Nat} (h3 : n ≤ 7) (S : Sta sc H st) (k : Kp st H H') (h : AtsIs e K H al n) : AtsIs e K H' al n := by
  refine ats_tk A h3 (sta_tk S k) (fun xs q => k _ _ (fun z => ?_) q) h
  obtain ⟨xs2, h1, h2, h4⟩ := h
  rw [q] at h1
  cases h1
  obtain ⟨ns, i, b, s, l, hne, hst, _⟩ := S.ex
  rw [z, hst] at q
  cases q
  have d := h4 1 (.int i) rfl
  obtain ⟨u, ds, e1⟩ := A.tup 1 (by omega)
  rw [e1] at d
  cases d
theorem rwal_kp (A : AtOk e) {H H' : Hp} {sc st : Addr} {xs : List V} {rows : List Row} (ok : RsOk rows) (S : Sta sc H st) (k : Kp st H H') (h2 : R1.Al (RwIs e K H) xs rows) : R1.Al (RwIs e K H') xs rows := by
  have T := sta_tk S k
  refine ⟨h2.1, fun i x r a b => ?_⟩
  obtain ⟨b1, c1, rfl, h3, h4⟩ := h2.2 i x r a b
  refine ⟨b1, c1, rfl, k _ _ (fun z => ?_) h3, h4.tk A T (ok.2 r (List.mem_of_getElem? b)).2⟩
  obtain ⟨ns, i, b, s, l, hne, hst, _⟩ := S.ex
  rw [z, hst] at h3
  cases h3
theorem rws_kp (A : AtOk e) {H H' : Hp} {sc st rl : Addr} {rows : List Row} (ok : RsOk rows) (S : Sta sc H st) (k : Kp st H H') (h : RwsIs e K H rl rows) : RwsIs e K H' rl rows := by
  obtain ⟨xs, h1, h2⟩ := h
  refine ⟨xs, sqL_kp S k (fun i z => ?_) h1, rwal_kp A ok S k h2⟩
  obtain ⟨r, _, b1, c1, e1, _⟩ := h2.at z
  cases e1
theorem kp_free {H H' : Hp} {sc st p : Addr} (S : Sta sc H' st) (k : Kp st H H') (h : H' p = none) : H p = none := by
  by_cases z : p = st
  · subst z
    obtain ⟨ns, i, b, s, l, hne, hst, _⟩ := S.ex
    rw [hst] at h; cases h
  · cases q : H p with
    | none => rfl
    | some o => rw [k _ _ z q] at h; cases h
theorem Sta.same {H H' : Hp} {sc st : Addr} (S : Sta sc H st) (s : Same H H') : Sta sc H' st := by
  obtain ⟨ns, i, b, s1, l, hne, hst, hsc, r⟩ := S.ex
  exact ⟨ns, i, b, s1, l, hne, s _ _ hst, s _ _ hsc, r⟩
def spClause (e : Nat → PyData) (K : PySem.W.Frag) : Sp := fun vs H Q _ => ∃ (sc st al : Addr) (n m : Nat), vs = [.ref st, .ref al, .int (m : Int)] ∧ Sta sc H st ∧ AtsIs e K H al n ∧ 3 ≤ n ∧ n ≤ 6 ∧ m ≤ 3 ∧
  ∀ c0 c H', Kp st H H' → Sta sc H' st → H c0 = none → ClIs e K H' c0 c → c.length ≤ m → In6 c → Q (.ref c0) H'
theorem Sta.mut {H H' : Hp} {D sc st : Addr} {o : HO} (S0 : Sta sc H st) (nD : H D = none) (S : Sta sc H' st) : Sta sc (upd H' D o) st := by
  obtain ⟨ns0, i0, b0, s0, l0, _, h1, h2, _⟩ := S0.ex
  obtain ⟨ns, i, b, s1, l, hne, hst, hsc, r⟩ := S.ex
  refine ⟨ns, i, b, s1, l, hne, ?_, ?_, r⟩
  · rw [upd_ne (ne_of_none h1 nD)]; exact hst
  · rw [upd_ne (ne_of_none h2 nD)]; exact hsc
theorem Sta.nn {H : Hp} {D sc st : Addr} (S0 : Sta sc H st) (nD : H D = none) : D ≠ st := by
  obtain ⟨ns0, i0, b0, s0, l0, _, h1, h2, _⟩ := S0.ex
  exact (ne_of_none h1 nD).symm
theorem ok_clause (A : AtOk e) (T : Top K mg a) (G_l_draw : FnOk P w K mg base CX0 1 a.f_l_draw a.d_l_draw ["_law_state_here", "_law_many"] spDraw) : FnOk P w K mg base CX0 2 a.f_l_clause a.d_l_clause ["_law_state_here", "_law_atoms", "_law_most"] (spClause e K) := by
  refine T.F_l_clause.ok sc_l_clause (fun vs H Q E h => ?_) (fun cdv A' outer s H vs Q E hr h => ?_)
  · obtain ⟨_, _, _, _, _, rfl, _⟩ := h
    rfl
  · obtain ⟨sc, st, al, n, m, rfl, S0, hat, hn3, hn6, hm, q⟩ := h
    refine ⟨_, (pss_cons (ps_set (i := 3) sc_l_clause.nd rfl (.inl rfl) (pe_lst pa_nil))
    (pss_cons (ps_if (pt_cmpR (OpR.or op_eq (op_eqD hr.units)) (pe_callB (CallR.or call_len_str call_len_seq) (by rfl) T.z_len (by decide +kernel) (pa_cons (pv 1) pa_nil)) pe_int (nomark _))
      (pss_one (ps_ret (pe_tup pa_nil)))
      pss_nil)
    (pss_cons (ps_for PassesOwn.never rfl (pi_range1 (by rfl) T.z_range (pa_cons (pe_call G_l_draw (hr.mono (by decide)) (by rfl) T.m_l_draw T.F_l_draw.kp T.b_l_draw .nil pass0 (pa_cons (pv 0) (pa_cons (pe_op (OpR.or op_add (OpR.or op_add_str (OpR.or op_cat op_catT))) (pv 2) pe_int) pa_nil))) pa_nil)) (pg_name (i := 4) sc_l_clause.nd rfl (.inl rfl))
      (pss_cons (ps_set (i := 5) sc_l_clause.nd rfl (.inl rfl) (pe_tup (pa_cons (pe_ix ix_seq (pv 1) (pe_call G_l_draw (hr.mono (by decide)) (by rfl) T.m_l_draw T.F_l_draw.kp T.b_l_draw .nil pass0 (pa_cons (pv 0) (pa_cons (pe_callB (CallR.or call_len_str call_len_seq) (by rfl) T.z_len (by decide +kernel) (pa_cons (pv 1) pa_nil)) pa_nil))) (fun _ _ => rfl)) (pa_cons (pe_cmpR (OpR.or op_eq (op_eqD hr.units)) (pe_call G_l_draw (hr.mono (by decide)) (by rfl) T.m_l_draw T.F_l_draw.kp T.b_l_draw .nil pass0 (pa_cons (pv 0) (pa_cons pe_int pa_nil))) pe_int (nomark _)) pa_nil))))
      (pss_one (ps_if (pt_cmpR (op_notInDK (u65 hr) rfl) (pv 5) (pv 3) rfl)
        (pss_one (ps_expr (pe_bm PySem.F.plainAttrs_list PySem.F.slot_list_append PySem.F.type_list_append mt_append (pv 3) (pa_cons (pv 5) pa_nil))))
        pss_nil))))
    (pss_one (ps_ret (pe_callTy call_tuple_of (by rfl) T.z_tuple (by decide +kernel) (pa_cons (pe_callB (R0.cr_sortD hr.units) (by rfl) T.z_sorted (by decide +kernel) (pa_cons (pv 3) pa_nil)) pa_nil))))))), ?_⟩
    refine ⟨Nat.zero_le _, fun D nD => ?_⟩
    have k1 : Kp st H (upd H D (.lst [])) := (Kp.refl _ _).new nD
    have S1 : Sta sc (upd H D (.lst [])) st := S0.mut nD S0
    have hD1 : (upd H D (.lst [])) D = some (.lst []) := upd_same
    have hat1 := ats_kp A (by omega) S0 k1 hat
    have nDs := S0.nn nD
    generalize upd H D (.lst []) = H1 at k1 S1 hD1 hat1 ⊢
    obtain ⟨xs, hx, lx, hxd⟩ := hat1.sq
    have z0 : decide ((xs.length : Int) = 0) = false := decide_eq_false (by omega)
    refine ⟨.ref al, rfl, .inr ⟨al, xs, rfl, .inl hx, eqi ?_⟩⟩
    rw [z0]
    refine iteF ?_
    refine ⟨.ref st, rfl, .int (m : Int), rfl, .inl ⟨m, 1, rfl, rfl, sc, st, _, rfl, S1, by omega, by omega, fun H2 v k2 S2 v0 v1 => ?_⟩⟩
    obtain ⟨v, rfl⟩ : ∃ v' : Nat, v = v' := ⟨v.toNat, by omega⟩
    have tk12 := sta_tk S1 k2
    refine ⟨v, rfl, by omega, by omega, for_range (lo := 0) (n := v) (fun i σ' H' => ∃ y4 y5 acc ls, σ' = [some (.ref st), some (.ref al), some (.int (m : Int)), some (.ref D), y4, y5] ∧ Kp st H H' ∧ Sta sc H' st ∧ AtsIs e K H' al n ∧ H' D = some (.lst acc) ∧ R1.Al (Li e K H') acc ls ∧ ls.length ≤ i ∧ In6 ls)
      ⟨_, _, [], [], rfl, k1.trans k2, S2, ats_kp A (by omega) S1 k2 hat1, k2 _ _ nDs hD1, R1.Al.nil, Nat.zero_le _, fun l h => nomatch h⟩ ?_ ?_⟩
    · rintro i σ' H3 hi ⟨y4, y5, acc, ls, rfl, k3, S3, hat3, hD3, hA3, hl3, h63⟩
      obtain ⟨xs3, hx3, lx3, hxd3⟩ := hat3.sq
      refine ⟨.ref al, rfl, .ref st, rfl, .ref al, rfl, .inr ⟨al, xs3, rfl, .inl hx3, sc, st, _, rfl, S3, by omega, by omega, fun H4 v1 k4 S4 a0 a1 => ?_⟩⟩
      obtain ⟨j, rfl⟩ : ∃ v' : Nat, v1 = v' := ⟨v1.toNat, by omega⟩
      obtain ⟨xs4, hx4, lx4, hxd4⟩ := (ats_kp A (by omega) S3 k4 hat3).sq
      have g4 : xs4[j]? = some (xs4[j]'(by omega)) := List.getElem?_eq_getElem (by omega)
      refine .inl ⟨al, xs4, (j : Int), _, rfl, rfl, hx4, atI_nat g4, ?_⟩
      refine ⟨.ref st, rfl, sc, st, 2, rfl, S4, by decide, by decide, fun H5 v2 k5 S5 b0 b1 => ?_⟩
      refine .inl ⟨rfl, Nat.le_of_lt (small1000 (by simp)), fun p np => ?_⟩
      have hj : j < 6 := by omega
      have t45 := sta_tk S4 k5
      have k35 := k4.trans k5
      have dj := dp_tk t45 _ _ (hxd4 j _ g4) (A.kb j (by omega))
      generalize decide (V.int v2 = V.int 0) = b
      have hD5 := k35 _ _ nDs hD3
      have h7 : In7 ls := h63.to7
      have hA5 := al_tk A h7 (sta_tk S3 k35) hA3
      have s6 := same_upd (o := .tup [xs4[j]'(by omega), .bl b]) np
      have hL : Li e K (upd H5 p (.tup [xs4[j]'(by omega), .bl b])) (.ref p) (j, b) := li_mk (l := (j, b)) (.of upd_same) (dp_tk (tk_new np) _ _ dj (A.kb j (by omega)))
      have k6 := k5.same s6
      have S6 := S5.same s6
      have hD6 := s6 _ _ hD5
      have hA6 := al_tk A h7 (Same.tk s6) hA5
      have k06 := k3.trans (k4.trans k6)
      have hat6 := ats_kp A (by omega) S3 (k4.trans k6) hat3
      generalize upd H5 p (.tup [xs4[j]'(by omega), .bl b]) = H6 at hL k6 S6 hD6 hA6 k06 hat6 ⊢
      have hin : Ans (tTest (tOp (rNotInD K) (tVar 5) (tVar 3))) [some (.ref st), some (.ref al), some (.int (m : Int)), some (.ref D), some (.int (0 + (i : Int))), some (.ref p)] H6 (!decide ((j, b) ∈ ls)) := fun Q' q' => by
        refine ⟨.ref p, rfl, .ref D, rfl, eL e (j, b), ls.map (eL e), hL, .lst (.of hD6) (al_dps hA6), eL_shaped A (show j < 7 by omega), list_shaped A h7, _, rfl, ?_⟩
        rw [any_eL A (l := (j, b)) (show j < 7 by omega) h7]
        exact q'
      refine if_ans hin (fun z => ?_) (fun z => ⟨_, _, acc, ls, rfl, k06, S6, hat6, hD6, hA6, by omega, h63⟩)
      have la : acc.length ≤ 1000 := by rw [hA3.1]; omega
      refine ⟨.ref D, rfl, .inl ⟨rfl, acc, .of hD6⟩, .ref p, rfl, D, acc, .ref p, rfl, rfl, hD6, small1000 la, ?_⟩
      have tD : Tk H6 (upd H6 D (.lst (acc ++ [.ref p]))) := tk_upd hD6 True.intro
      refine ⟨_, _, acc ++ [.ref p], ls ++ [(j, b)], rfl, k06.mut nD, S0.mut nD S6, ?_, upd_same, (al_tk A h7 tD hA6).snoc (hL.tk A (show j < 7 by omega) tD), by simp; omega, fun l hl => ?_⟩
      · obtain ⟨ys, y1, y2, y3⟩ := hat
        have kk := k06.mut (o := .lst (acc ++ [.ref p])) nD
        exact ats_kp A (by omega) S0 kk ⟨ys, y1, y2, y3⟩
      · rcases List.mem_append.mp hl with hl | hl
        · exact h63 l hl
        · rw [List.mem_singleton.mp hl]; exact hj
    · rintro σ' H3 ⟨y4, y5, acc, ls, rfl, k3, S3, hat3, hD3, hA3, hl3, h63⟩
      obtain ⟨g1, g2, g3⟩ := sort_ok A h63
      refine ⟨.ref D, rfl, ⟨D, acc, ls.map (eL e), rfl, .of hD3, al_dps hA3, g1, g2, g3, fun l nl => ?_⟩⟩
      have hs3 : R1.Al (Li e K H3) (R0.sortV acc (ls.map (eL e))) (srt e ls) := R1.sort_al (eL e) hA3
      have h7s : In7 (srt e ls) := fun l hl => by have := h63 l ((srt_perm ls).mem_iff.mp hl); omega
      have s4 := same_upd (o := .lst (R0.sortV acc (ls.map (eL e)))) nl
      refine ⟨l, _, rfl, .inl ⟨.of upd_same, fun p np => ?_⟩⟩
      have s5 := s4.trans (same_upd (o := .tup (R0.sortV acc (ls.map (eL e)))) np)
      refine q p (srt e ls) _ (k3.same s5) (S3.same s5) (kp_free S3 k3 (s4.free np)) ⟨_, .of upd_same, al_tk A h7s (Same.tk s5) hs3⟩ ?_ ?_
      · rw [(srt_perm ls).length_eq]; omega
      · exact fun l hl => h63 l ((srt_perm ls).mem_iff.mp hl)
/-! ### the clauses under labels -/
def Rows6 (rows : List Row) : Prop := rows.length ≤ 6 ∧ (rows.map (·.1)).Nodup ∧ ∀ r ∈ rows, 1 ≤ r.1 ∧ r.1 ≤ 997 ∧ r.2.length ≤ 3 ∧ In6 r.2
theorem Rows6.ok {rows : List Row} (h : Rows6 rows) : RsOk rows := ⟨by have := h.1; omega, fun r hr => ⟨by have := (h.2.2 r hr).2.2.1; omega, (h.2.2 r hr).2.2.2.to7⟩⟩
def spClauses (e : Nat → PyData) (K : PySem.W.Frag) : Sp := fun vs H Q _ => ∃ (sc st al : Addr) (n : Nat), vs = [.ref st, .ref al, .int 6, .int 3] ∧ Sta sc H st ∧ AtsIs e K H al n ∧ 3 ≤ n ∧ n ≤ 6 ∧
  ∀ rl rows H', Kp st H H' → Sta sc H' st → H rl = none → RwsIs e K H' rl rows → Rows6 rows → Q (.ref rl) H'
def lab (s j : Nat) : Nat := 1 + (s + 337 * j) % 997
theorem lab_ne {s j k : Nat} (h : lab s j = lab s k) (hj : j < 6) (hk : k < 6) : j = k := by unfold lab at h; omega
theorem labs_nd (s : Nat) : ∀ m, m ≤ 6 → ((List.range m).map (lab s)).Nodup
  | 0, _ => List.nodup_nil
  | m + 1, h => by
    rw [List.range_succ, List.map_append]
    refine List.nodup_append.mpr ⟨labs_nd s m (by omega), by simp, fun x hx y hy z => ?_⟩
    obtain ⟨j, hj, rfl⟩ := List.mem_map.mp hx
    have hy' : y = lab s m := List.mem_singleton.mp hy
    rw [hy'] at z
    have := List.mem_range.mp hj
    have := lab_ne z (by omega) (by omega)
    omega
theorem ok_clauses (A : AtOk e) (T : Top K mg a) (G_l_draw : FnOk P w K mg base CX0 1 a.f_l_draw a.d_l_draw ["_law_state_here", "_law_many"] spDraw) (G_l_clause : FnOk P w K mg base CX0 2 a.f_l_clause a.d_l_clause ["_law_state_here", "_law_atoms", "_law_most"] (spClause e K)) : FnOk P w K mg base CX0 3 a.f_l_clauses a.d_l_clauses ["_law_state_here", "_law_atoms", "_law_many", "_law_most"] (spClauses e K) := by
  refine T.F_l_clauses.ok sc_l_clauses (fun vs H Q E h => ?_) (fun cdv A' outer s H vs Q E hr h => ?_)
  · obtain ⟨_, _, _, _, rfl, _⟩ := h
    rfl
  · obtain ⟨sc, st, al, n, rfl, S0, hat, hn3, hn6, q⟩ := h
    refine ⟨_, (pss_cons (ps_set (i := 4) sc_l_clauses.nd rfl (.inl rfl) (pe_call G_l_draw (hr.mono (by decide)) (by rfl) T.m_l_draw T.F_l_draw.kp T.b_l_draw .nil pass0 (pa_cons (pv 0) (pa_cons pe_int pa_nil))))
    (pss_cons (ps_set (i := 5) sc_l_clauses.nd rfl (.inl rfl) (pe_lst pa_nil))
    (pss_cons (ps_for PassesOwn.never rfl (pi_range1 (by rfl) T.z_range (pa_cons (pe_call G_l_draw (hr.mono (by decide)) (by rfl) T.m_l_draw T.F_l_draw.kp T.b_l_draw .nil pass0 (pa_cons (pv 0) (pa_cons (pe_op (OpR.or op_add (OpR.or op_add_str (OpR.or op_cat op_catT))) (pv 2) pe_int) pa_nil))) pa_nil)) (pg_name (i := 6) sc_l_clauses.nd rfl (.inl rfl))
      (pss_one (ps_expr (pe_bm PySem.F.plainAttrs_list PySem.F.slot_list_append PySem.F.type_list_append mt_append (pv 5) (pa_cons (pe_lst (pa_cons (pe_op (OpR.or op_add (OpR.or op_add_str (OpR.or op_cat op_catT))) pe_int (pe_op op_mod (pe_callTy (CallR.or call_int1 call_int_str) (by rfl) T.z_int (by decide +kernel) (pa_cons (pe_op (OpR.or op_add (OpR.or op_add_str (OpR.or op_cat op_catT))) (pv 4) (pe_op (OpR.or op_mul op_mulW) pe_int (pv 6))) pa_nil)) pe_int)) (pa_cons (pe_call G_l_clause (hr.mono (by decide)) (by rfl) T.m_l_clause T.F_l_clause.kp T.b_l_clause .nil pass0 (pa_cons (pv 0) (pa_cons (pv 1) (pa_cons (pv 3) pa_nil)))) pa_nil))) pa_nil)))))
    (pss_one (ps_ret (pv 5)))))), ?_⟩
    refine ⟨.ref st, rfl, sc, st, 997, rfl, S0, by decide, by decide, fun H1 v k1 S1 v0 v1 => ?_⟩
    obtain ⟨sh, rfl⟩ : ∃ v' : Nat, v = v' := ⟨v.toNat, by omega⟩
    refine ⟨Nat.zero_le _, fun D nD => ?_⟩
    have nDH := kp_free S1 k1 nD
    have nDs := S0.nn nDH
    have k2 := k1.new (o := .lst []) nD
    have S2 := S0.mut (o := .lst []) nDH S1
    have hD2 : (upd H1 D (.lst [])) D = some (.lst []) := upd_same
    have hat2 := ats_kp A (by omega) S0 k2 hat
    generalize upd H1 D (.lst []) = H2 at k2 S2 hD2 hat2 ⊢
    refine ⟨.ref st, rfl, .int 6, rfl, .inl ⟨6, 1, rfl, rfl, sc, st, _, rfl, S2, by decide, by decide, fun H3 v k3 S3 v0 v1 => ?_⟩⟩
    obtain ⟨m, rfl⟩ : ∃ v' : Nat, v = v' := ⟨v.toNat, by omega⟩
    refine ⟨m, rfl, by omega, by omega, for_range (lo := 0) (n := m) (fun i σ' H' => ∃ y6 acc rows, σ' = [some (.ref st), some (.ref al), some (.int 6), some (.int 3), some (.int (sh : Int)), some (.ref D), y6] ∧ Kp st H H' ∧ Sta sc H' st ∧ AtsIs e K H' al n ∧ H' D = some (.lst acc) ∧ R1.Al (RwIs e K H') acc rows ∧ rows.map (·.1) = (List.range i).map (lab sh) ∧ ∀ r ∈ rows, r.2.length ≤ 3 ∧ In6 r.2)
      ⟨_, [], [], rfl, k2.trans k3, S3, ats_kp A (by omega) S2 k3 hat2, k3 _ _ nDs hD2, R1.Al.nil, rfl, fun l h => nomatch h⟩ ?_ ?_⟩
    · rintro i σ' H4 hi ⟨y6, acc, rows, rfl, k4, S4, hat4, hD4, hA4, hl4, h64⟩
      have lr : rows.length = i := by
        have := congrArg List.length hl4
        rw [List.length_map, List.length_map, List.length_range] at this
        exact this
      refine ⟨.ref D, rfl, .inl ⟨rfl, acc, .of hD4⟩, ?_⟩
      refine ⟨.int (sh : Int), rfl, .int (0 + (i : Int)), rfl, .inl ⟨337, _, rfl, rfl, .inl ⟨by decide, by decide⟩, .inl ⟨_, _, rfl, rfl, .inl (.inl ⟨_, rfl, _, 997, rfl, rfl, by (show (0 : Int) < _; decide), .inl ⟨1, _, rfl, rfl, ?_⟩⟩)⟩⟩⟩
      refine ⟨.ref st, rfl, .ref al, rfl, .int 3, rfl, sc, st, al, n, 3, rfl, S4, hat4, hn3, hn6, by decide, fun c0 c H5 k5 S5 nc hc hcl h6 => ?_⟩
      refine ⟨Nat.le_of_lt (small1000 (by simp)), fun b nb => ?_⟩
      have hlab : (1 : Int) + ((sh : Int) + 337 * (0 + (i : Int))) % 997 = ((lab sh i : Nat) : Int) := by unfold lab; omega
      have s6 := same_upd (o := .lst [.int (1 + ((sh : Int) + 337 * (0 + (i : Int))) % 997), .ref c0]) nb
      have rokA : RsOk rows := ⟨by omega, fun r hr => ⟨by have := (h64 r hr).1; omega, (h64 r hr).2.to7⟩⟩
      have hb6 : (upd H5 b (.lst [.int (1 + ((sh : Int) + 337 * (0 + (i : Int))) % 997), .ref c0])) b = _ := upd_same
      have hR6 : RwIs e K (upd H5 b (.lst [.int (1 + ((sh : Int) + 337 * (0 + (i : Int))) % 997), .ref c0])) (.ref b) (lab sh i, c) := ⟨b, c0, rfl, by rw [← hlab]; exact hb6, hc.tk A (Same.tk s6) h6.to7⟩
      have hD5 := k5 _ _ nDs hD4
      have hA5 := rwal_kp A rokA S4 k5 hA4
      have hD6 := s6 _ _ hD5
      have hA6 : R1.Al (RwIs e K (upd H5 b (.lst [.int (1 + ((sh : Int) + 337 * (0 + (i : Int))) % 997), .ref c0]))) acc rows := ⟨hA5.1, fun i x r a b => (hA5.2 i x r a b).same A (rokA.2 r (List.mem_of_getElem? b)).2 s6⟩
      have k6 := k4.trans (k5.same s6)
      have S6 := S5.same s6
      have bD : b ≠ D := fun z => by rw [z, hD5] at nb; cases nb
      generalize upd H5 b (.lst [.int (1 + ((sh : Int) + 337 * (0 + (i : Int))) % 997), .ref c0]) = H6 at hb6 hR6 hD6 hA6 k6 S6 ⊢
      have la : acc.length ≤ 1000 := by rw [hA4.1]; omega
      refine ⟨D, acc, .ref b, rfl, rfl, hD6, small1000 la, ?_⟩
      have tD : Tk H6 (upd H6 D (.lst (acc ++ [.ref b]))) := tk_upd hD6 True.intro
      have kk := k6.mut (o := .lst (acc ++ [.ref b])) nDH
      refine ⟨_, acc ++ [.ref b], rows ++ [(lab sh i, c)], rfl, kk, S0.mut nDH S6, ats_kp A (by omega) S0 kk hat, upd_same, ?_, ?_, fun r hr => ?_⟩
      · refine R1.Al.snoc ⟨hA6.1, fun i x q a1 a2 => rw_upd A hD6 hA6 (rokA.2 q (List.mem_of_getElem? a2)).2 (hA6.2 i x q a1 a2)⟩ (rw_upd A hD6 hA6 h6.to7 hR6)
      · rw [List.map_append, hl4, List.range_succ, List.map_append]; rfl
      · rcases List.mem_append.mp hr with hr | hr
        · exact h64 r hr
        · rw [List.mem_singleton.mp hr]; exact ⟨hcl, h6⟩
    · rintro σ' H4 ⟨y6, acc, rows, rfl, k4, S4, hat4, hD4, hA4, hl4, h64⟩
      have lr : rows.length = m := by
        have := congrArg List.length hl4
        rw [List.length_map, List.length_map, List.length_range] at this
        exact this
      refine ⟨_, rfl, q D rows H4 k4 S4 nDH ⟨acc, .of hD4, hA4⟩ ⟨by omega, ?_, fun r hr => ?_⟩⟩
      · rw [hl4]
        exact labs_nd sh m (by omega)
      · have mr : r.1 ∈ rows.map (·.1) := List.mem_map.mpr ⟨r, hr, rfl⟩
        rw [hl4] at mr
        obtain ⟨j, _, e1⟩ := List.mem_map.mp mr
        unfold lab at e1
        exact ⟨by omega, by omega, h64 r hr⟩
/-! ### the starts -/
def spStart (e : Nat → PyData) (K : PySem.W.Frag) : Sp := fun vs H Q _ => ∃ (sc st al : Addr) (n : Nat), vs = [.ref st, .ref al] ∧ Sta sc H st ∧ AtsIs e K H al n ∧ 3 ≤ n ∧ n ≤ 6 ∧
  ∀ p xs ls H', Kp st H H' → Sta sc H' st → H p = none → H' p = some (.lst xs) → R1.Al (Li e K H') xs ls → ls.length ≤ 4 → In6 ls → Q (.ref p) H'
theorem ok_start (A : AtOk e) (T : Top K mg a) (G_l_draw : FnOk P w K mg base CX0 1 a.f_l_draw a.d_l_draw ["_law_state_here", "_law_many"] spDraw) : FnOk P w K mg base CX0 2 a.f_l_start a.d_l_start ["_law_state_here", "_law_atoms"] (spStart e K) := by
  refine T.F_l_start.ok sc_l_start (fun vs H Q E h => ?_) (fun cdv A' outer s H vs Q E hr h => ?_)
  · obtain ⟨_, _, _, _, rfl, _⟩ := h
    rfl
  · obtain ⟨sc, st, al, n, rfl, S0, hat, hn3, hn6, q⟩ := h
    refine ⟨_, (pss_cons (ps_set (i := 2) sc_l_start.nd rfl (.inl rfl) (pe_lst pa_nil))
    (pss_cons (ps_for PassesOwn.never rfl (pi_range1 (by rfl) T.z_range (pa_cons (pe_call G_l_draw (hr.mono (by decide)) (by rfl) T.m_l_draw T.F_l_draw.kp T.b_l_draw .nil pass0 (pa_cons (pv 0) (pa_cons pe_int pa_nil))) pa_nil)) (pg_name (i := 3) sc_l_start.nd rfl (.inl rfl))
      (pss_one (ps_if (pt_cmpR (OpR.or op_gt op_gt_str) (pe_callB (CallR.or call_len_str call_len_seq) (by rfl) T.z_len (by decide +kernel) (pa_cons (pv 1) pa_nil)) pe_int (nomark _))
        (pss_one (ps_expr (pe_bm PySem.F.plainAttrs_list PySem.F.slot_list_append PySem.F.type_list_append mt_append (pv 2) (pa_cons (pe_tup (pa_cons (pe_ix ix_seq (pv 1) (pe_call G_l_draw (hr.mono (by decide)) (by rfl) T.m_l_draw T.F_l_draw.kp T.b_l_draw .nil pass0 (pa_cons (pv 0) (pa_cons (pe_callB (CallR.or call_len_str call_len_seq) (by rfl) T.z_len (by decide +kernel) (pa_cons (pv 1) pa_nil)) pa_nil))) (fun _ _ => rfl)) (pa_cons (pe_cmpR (OpR.or op_eq (op_eqD hr.units)) (pe_call G_l_draw (hr.mono (by decide)) (by rfl) T.m_l_draw T.F_l_draw.kp T.b_l_draw .nil pass0 (pa_cons (pv 0) (pa_cons pe_int pa_nil))) pe_int (nomark _)) pa_nil))) pa_nil))))
        pss_nil)))
    (pss_one (ps_ret (pv 2))))), ?_⟩
    refine ⟨Nat.zero_le _, fun D nD => ?_⟩
    have nDs := S0.nn nD
    have k2 := (Kp.refl st H).new (o := .lst []) nD
    have S2 := S0.mut (o := .lst []) nD S0
    have hD2 : (upd H D (.lst [])) D = some (.lst []) := upd_same
    have hat2 := ats_kp A (by omega) S0 k2 hat
    generalize upd H D (.lst []) = H2 at k2 S2 hD2 hat2 ⊢
    refine ⟨.ref st, rfl, sc, st, _, rfl, S2, by decide, by decide, fun H3 v k3 S3 v0 v1 => ?_⟩
    obtain ⟨m, rfl⟩ : ∃ v' : Nat, v = v' := ⟨v.toNat, by omega⟩
    refine ⟨m, rfl, by omega, by omega, for_range (lo := 0) (n := m) (fun i σ' H' => ∃ y3 acc ls, σ' = [some (.ref st), some (.ref al), some (.ref D), y3] ∧ Kp st H H' ∧ Sta sc H' st ∧ AtsIs e K H' al n ∧ H' D = some (.lst acc) ∧ R1.Al (Li e K H') acc ls ∧ ls.length ≤ i ∧ In6 ls)
      ⟨_, [], [], rfl, k2.trans k3, S3, ats_kp A (by omega) S2 k3 hat2, k3 _ _ nDs hD2, R1.Al.nil, Nat.zero_le _, fun l h => nomatch h⟩ ?_ ?_⟩
    · rintro i σ' H3 hi ⟨y3, acc, ls, rfl, k3, S3, hat3, hD3, hA3, hl3, h63⟩
      obtain ⟨xs3, hx3, lx3, hxd3⟩ := hat3.sq
      have g0 : decide ((0 : Int) < (xs3.length : Int)) = true := decide_eq_true (by omega)
      refine ⟨.ref al, rfl, .inr ⟨al, xs3, rfl, .inl hx3, .inl ⟨_, 0, rfl, rfl, _, rfl, ite2 (fun _ => ?_) (fun z => ?_)⟩⟩⟩
      rotate_left
      · exact absurd (show decide ((0 : Int) < (xs3.length : Int)) = false from Bool.eq_false_iff.mpr z) (by rw [g0]; decide)
      refine ⟨.ref D, rfl, .inl ⟨rfl, acc, .of hD3⟩, ?_⟩
      refine ⟨.ref al, rfl, .ref st, rfl, .ref al, rfl, .inr ⟨al, xs3, rfl, .inl hx3, sc, st, _, rfl, S3, by omega, by omega, fun H4 v1 k4 S4 a0 a1 => ?_⟩⟩
      obtain ⟨j, rfl⟩ : ∃ v' : Nat, v1 = v' := ⟨v1.toNat, by omega⟩
      obtain ⟨xs4, hx4, lx4, hxd4⟩ := (ats_kp A (by omega) S3 k4 hat3).sq
      have g4 : xs4[j]? = some (xs4[j]'(by omega)) := List.getElem?_eq_getElem (by omega)
      refine .inl ⟨al, xs4, (j : Int), _, rfl, rfl, hx4, atI_nat g4, ?_⟩
      refine ⟨.ref st, rfl, sc, st, 2, rfl, S4, by decide, by decide, fun H5 v2 k5 S5 b0 b1 => ?_⟩
      refine .inl ⟨rfl, Nat.le_of_lt (small1000 (by simp)), fun p np => ?_⟩
      have hj : j < 6 := by omega
      have t45 := sta_tk S4 k5
      have k35 := k4.trans k5
      have dj := dp_tk t45 _ _ (hxd4 j _ g4) (A.kb j (by omega))
      generalize decide (V.int v2 = V.int 0) = b
      have hD5 := k35 _ _ nDs hD3
      have h7 : In7 ls := h63.to7
      have hA5 := al_tk A h7 (sta_tk S3 k35) hA3
      have s6 := same_upd (o := .tup [xs4[j]'(by omega), .bl b]) np
      have hL : Li e K (upd H5 p (.tup [xs4[j]'(by omega), .bl b])) (.ref p) (j, b) := li_mk (l := (j, b)) (.of upd_same) (dp_tk (tk_new np) _ _ dj (A.kb j (by omega)))
      have k6 := k5.same s6
      have S6 := S5.same s6
      have hD6 := s6 _ _ hD5
      have hA6 := al_tk A h7 (Same.tk s6) hA5
      have k06 := k3.trans (k4.trans k6)
      generalize upd H5 p (.tup [xs4[j]'(by omega), .bl b]) = H6 at hL k6 S6 hD6 hA6 k06 ⊢
      have la : acc.length ≤ 1000 := by rw [hA3.1]; omega
      refine ⟨D, acc, .ref p, rfl, rfl, hD6, small1000 la, ?_⟩
      have tD : Tk H6 (upd H6 D (.lst (acc ++ [.ref p]))) := tk_upd hD6 True.intro
      have kk := k06.mut (o := .lst (acc ++ [.ref p])) nD
      refine ⟨_, acc ++ [.ref p], ls ++ [(j, b)], rfl, kk, S0.mut nD S6, ats_kp A (by omega) S0 kk hat, upd_same, (al_tk A h7 tD hA6).snoc (hL.tk A (show j < 7 by omega) tD), by simp; omega, fun l hl => ?_⟩
      rcases List.mem_append.mp hl with hl | hl
      · exact h63 l hl
      · rw [List.mem_singleton.mp hl]; exact hj
    · rintro σ' H3 ⟨y3, acc, ls, rfl, k3, S3, hat3, hD3, hA3, hl3, h63⟩
      exact ⟨_, rfl, q D acc ls H3 k3 S3 nD hD3 hA3 (by omega) h63⟩
end
end K15

/-! the drawn atoms -/
namespace K15
open PySem PySem.Spec PyProof.Rows L2 RN
section
variable {P : Program} {w : World} {K : PySem.W.Frag} {mg : Str → Option Value} {base : Heap} {a : Ad}
def spAtoms (K : PySem.W.Frag) : Sp := fun vs H Q _ => ∃ (sc st : Addr) (n : Nat), vs = [.ref st, .int (n : Int)] ∧ Sta sc H st ∧ n ≤ 6 ∧
  ∀ al sy sh H', sy < 6 → sh < 6 → Kp st H H' → Sta sc H' st → H al = none → AtsIs (eA sy sh) K H' al n → Q (.ref al) H'
theorem sgc : ∀ r : Fin 6, atI (PySem.Str.ofString "abcdef").cps.toList ((r : Nat) : Int) = some (97 + (r : Nat)) := by decide +kernel
theorem l9 : ∀ k : Fin 6, ((9 : Int) - (0 + ((k : Nat) : Int))).natAbs.log2 < 1920 := by decide +kernel
theorem l9s : ∀ k : Fin 6, (⟨#[97]⟩ : Str).length + (PySem.Str.ofString (toString ((9 : Int) - (0 + ((k : Nat) : Int))))).length ≤ sizeLine := by decide +kernel
theorem eA_0 (sh : Nat) {k : Nat} (h : k < 6) : eA 0 sh k = .tuple [.str "o", .str "word", .str (sg sh k ++ toString (9 - (k : Int)))] := by unfold eA; rw [if_neg (by omega), if_pos rfl]
theorem eA_1 (sh : Nat) {k : Nat} (h : k < 6) : eA 1 sh k = .tuple [.str (sg sh k), .str "word", .str "w"] := by unfold eA; rw [if_neg (by omega), if_neg (by decide), if_pos rfl]
theorem eA_2 (sh : Nat) {k : Nat} (h : k < 6) : eA 2 sh k = .tuple [.str "t", .str "below", .str "x", .str (sg sh k)] := by unfold eA; rw [if_neg (by omega), if_neg (by decide), if_neg (by decide), if_pos rfl]
theorem eA_3 (sh : Nat) {k : Nat} (h : k < 6) : eA 3 sh k = .tuple [.str (sg sh k ++ "1"), .str "turn", .str "x", .str "y", .int ((k : Int) % 3)] := by unfold eA; rw [if_neg (by omega), if_neg (by decide), if_neg (by decide), if_neg (by decide), if_pos rfl]
theorem eA_4 (sh : Nat) {k : Nat} (h : k < 6) : eA 4 sh k = .tuple [.str "", .str "same", .str (sg sh k), .str "x"] := by unfold eA; rw [if_neg (by omega), if_neg (by decide), if_neg (by decide), if_neg (by decide), if_neg (by decide), if_pos rfl]
theorem eA_5 (sh : Nat) {k : Nat} (h : k < 6) : eA 5 sh k = .tuple [.str "u", .str "equal", .tuple [.str (sg sh k)], .tuple [.str "g", .tuple [.str "x"]]] := by unfold eA; rw [if_neg (by omega), if_neg (by decide), if_neg (by decide), if_neg (by decide), if_neg (by decide), if_neg (by decide)]
theorem ok_atoms (T : Top K mg a) (G_l_draw : FnOk P w K mg base CX0 1 a.f_l_draw a.d_l_draw ["_law_state_here", "_law_many"] spDraw) : FnOk P w K mg base CX0 2 a.f_l_atom_row a.d_l_atom_row ["_law_state_here", "_law_count"] (spAtoms K) := by
  refine T.F_l_atom_row.ok sc_l_atom_row (fun vs H Q E h => ?_) (fun cdv A' outer s H vs Q E hr h => ?_)
  · obtain ⟨_, _, _, rfl, _⟩ := h
    rfl
  · obtain ⟨sc, st, n, rfl, S0, hn6, q⟩ := h
    refine ⟨_, (pss_cons (ps_set (i := 2) sc_l_atom_row.nd rfl (.inl rfl) (pe_call G_l_draw (hr.mono (by decide)) (by rfl) T.m_l_draw T.F_l_draw.kp T.b_l_draw .nil pass0 (pa_cons (pv 0) (pa_cons pe_int pa_nil))))
    (pss_cons (ps_set (i := 3) sc_l_atom_row.nd rfl (.inl rfl) (pe_call G_l_draw (hr.mono (by decide)) (by rfl) T.m_l_draw T.F_l_draw.kp T.b_l_draw .nil pass0 (pa_cons (pv 0) (pa_cons pe_int pa_nil))))
    (pss_cons (ps_set (i := 4) sc_l_atom_row.nd rfl (.inl rfl) (pe_lst pa_nil))
    (pss_cons (ps_for PassesOwn.never rfl (pi_range1 (by rfl) T.z_range (pa_cons (pv 1) pa_nil)) (pg_name (i := 5) sc_l_atom_row.nd rfl (.inl rfl))
      (pss_cons (ps_set (i := 6) sc_l_atom_row.nd rfl (.inl rfl) (pe_ix ix_seq pe_str (pe_op op_mod (pe_callTy (CallR.or call_int1 call_int_str) (by rfl) T.z_int (by decide +kernel) (pa_cons (pe_op (OpR.or op_add (OpR.or op_add_str (OpR.or op_cat op_catT))) (pv 5) (pv 3)) pa_nil)) pe_int) (fun _ _ => rfl)))
      (pss_one (ps_if (pt_cmpR (OpR.or op_eq (op_eqD hr.units)) (pv 2) pe_int (nomark _))
        (pss_one (ps_expr (pe_bm PySem.F.plainAttrs_list PySem.F.slot_list_append PySem.F.type_list_append mt_append (pv 4) (pa_cons (pe_tup (pa_cons pe_str (pa_cons pe_str (pa_cons (pe_op (OpR.or op_add (OpR.or op_add_str (OpR.or op_cat op_catT))) (pv 6) (pe_callTy call_str_int (by rfl) T.z_str (by decide +kernel) (pa_cons (pe_op op_sub pe_int (pv 5)) pa_nil))) pa_nil)))) pa_nil))))
        (pss_one (ps_if (pt_cmpR (OpR.or op_eq (op_eqD hr.units)) (pv 2) pe_int (nomark _))
          (pss_one (ps_expr (pe_bm PySem.F.plainAttrs_list PySem.F.slot_list_append PySem.F.type_list_append mt_append (pv 4) (pa_cons (pe_tup (pa_cons (pv 6) (pa_cons pe_str (pa_cons pe_str pa_nil)))) pa_nil))))
          (pss_one (ps_if (pt_cmpR (OpR.or op_eq (op_eqD hr.units)) (pv 2) pe_int (nomark _))
            (pss_one (ps_expr (pe_bm PySem.F.plainAttrs_list PySem.F.slot_list_append PySem.F.type_list_append mt_append (pv 4) (pa_cons (pe_tup (pa_cons pe_str (pa_cons pe_str (pa_cons pe_str (pa_cons (pv 6) pa_nil))))) pa_nil))))
            (pss_one (ps_if (pt_cmpR (OpR.or op_eq (op_eqD hr.units)) (pv 2) pe_int (nomark _))
              (pss_one (ps_expr (pe_bm PySem.F.plainAttrs_list PySem.F.slot_list_append PySem.F.type_list_append mt_append (pv 4) (pa_cons (pe_tup (pa_cons (pe_op (OpR.or op_add (OpR.or op_add_str (OpR.or op_cat op_catT))) (pv 6) pe_str) (pa_cons pe_str (pa_cons pe_str (pa_cons pe_str (pa_cons (pe_op op_mod (pe_callTy (CallR.or call_int1 call_int_str) (by rfl) T.z_int (by decide +kernel) (pa_cons (pv 5) pa_nil)) pe_int) pa_nil)))))) pa_nil))))
              (pss_one (ps_if (pt_cmpR (OpR.or op_eq (op_eqD hr.units)) (pv 2) pe_int (nomark _))
                (pss_one (ps_expr (pe_bm PySem.F.plainAttrs_list PySem.F.slot_list_append PySem.F.type_list_append mt_append (pv 4) (pa_cons (pe_tup (pa_cons pe_str (pa_cons pe_str (pa_cons (pv 6) (pa_cons pe_str pa_nil))))) pa_nil))))
                (pss_one (ps_expr (pe_bm PySem.F.plainAttrs_list PySem.F.slot_list_append PySem.F.type_list_append mt_append (pv 4) (pa_cons (pe_tup (pa_cons pe_str (pa_cons pe_str (pa_cons (pe_tup (pa_cons (pv 6) pa_nil)) (pa_cons (pe_tup (pa_cons pe_str (pa_cons (pe_tup (pa_cons pe_str pa_nil)) pa_nil))) pa_nil))))) pa_nil))))))))))))))))
    (pss_one (ps_ret (pv 4))))))), ?_⟩
    refine ⟨.ref st, rfl, sc, st, 6, rfl, S0, by decide, by decide, fun H1 v k1 S1 v0 v1 => ?_⟩
    obtain ⟨sy, rfl⟩ : ∃ v' : Nat, v = v' := ⟨v.toNat, by omega⟩
    refine ⟨.ref st, rfl, sc, st, 6, rfl, S1, by decide, by decide, fun H2 v k2 S2 w0 w1 => ?_⟩
    obtain ⟨sh, rfl⟩ : ∃ v' : Nat, v = v' := ⟨v.toNat, by omega⟩
    have A := at_ok (st := sy) (sh := sh) (by omega) (by omega)
    refine ⟨Nat.zero_le _, fun D nD => ?_⟩
    have nDH : H D = none := kp_free S2 (k1.trans k2) nD
    have nDs := S0.nn nDH
    have k3 := (k1.trans k2).new (o := .lst []) nD
    have S3 := S0.mut (o := .lst []) nDH S2
    have hD3 : (upd H2 D (.lst [])) D = some (.lst []) := upd_same
    generalize upd H2 D (.lst []) = H3 at k3 S3 hD3 ⊢
    refine ⟨.int (n : Int), rfl, n, rfl, by omega, by omega, for_range (lo := 0) (n := n) (fun i σ' H' => ∃ y5 y6 acc, σ' = [some (.ref st), some (.int (n : Int)), some (.int (sy : Int)), some (.int (sh : Int)), some (.ref D), y5, y6] ∧ Kp st H H' ∧ Sta sc H' st ∧ H' D = some (.lst acc) ∧ acc.length = i ∧ ∀ (j : Nat) x, acc[j]? = some x → Dp K H' x (eA sy sh j))
      ⟨_, _, [], rfl, k3, S3, hD3, rfl, fun j x h => by simp at h⟩ ?_ ?_⟩
    · rintro i σ' H4 hi ⟨y5, y6, acc, rfl, k4, S4, hD4, hl4, hA4⟩
      have la : acc.length ≤ 1000 := by omega
      have fin : ∀ H5 x y5 y6, Same H4 H5 → Dp K H5 x (eA sy sh i) → rAppend (.ref D) [x] H5 (fun _ H6 => ∃ y5' y6' acc, ([some (.ref st), some (.int (n : Int)), some (.int (sy : Int)), some (.int (sh : Int)), some (.ref D), y5, y6] : L2.St) = [some (.ref st), some (.int (n : Int)), some (.int (sy : Int)), some (.int (sh : Int)), some (.ref D), y5', y6'] ∧ Kp st H H6 ∧ Sta sc H6 st ∧ H6 D = some (.lst acc) ∧ acc.length = i + 1 ∧ ∀ (j : Nat) x, acc[j]? = some x → Dp K H6 x (eA sy sh j)) := by
        intro H5 x y5 y6 s5 hx
        have hD5 := s5 _ _ hD4
        have tD : Tk H5 (upd H5 D (.lst (acc ++ [x]))) := tk_upd hD5 True.intro
        refine ⟨D, acc, x, rfl, rfl, hD5, small1000 la, y5, y6, acc ++ [x], rfl, (k4.same s5).mut nDH, S0.mut nDH (S4.same s5), upd_same, by simp; omega, fun j y hj => ?_⟩
        by_cases lt : j < acc.length
        · rw [List.getElem?_append_left lt] at hj
          exact dp_tk tD _ _ (dp_tk (Same.tk s5) _ _ (hA4 j y hj) (A.kb j (by omega))) (A.kb j (by omega))
        · rw [List.getElem?_append_right (by omega)] at hj
          have ej : j = i := by
            have := (List.getElem?_eq_some_iff.mp hj).1
            simp at this
            omega
          subst ej
          rw [hl4, Nat.sub_self] at hj
          cases hj
          exact dp_tk tD _ _ hx (A.kb j (by omega))
      have hm : ((0 : Int) + (i : Int) + (sh : Int)) % 6 = (((i + sh) % 6 : Nat) : Int) := by omega
      have hc := sgc ⟨(i + sh) % 6, by omega⟩
      refine ⟨.int (0 + (i : Int)), rfl, .int (sh : Int), rfl, .inl ⟨_, _, rfl, rfl, .inl (.inl ⟨_, rfl, _, 6, rfl, rfl, by (show (0 : Int) < _; decide), ?_⟩)⟩⟩
      refine .inr (.inr ⟨_, _, _, rfl, rfl, by decide +kernel, by rw [hm]; exact hc, ?_⟩)
      refine ⟨.int (sy : Int), rfl, eqi (ite2 (fun e0 => ?_) (fun e0 => ?_))⟩
      · obtain rfl : sy = 0 := by have := of_decide_eq_true e0; omega
        refine ⟨.ref D, rfl, .inl ⟨rfl, acc, .of hD4⟩, ?_⟩
        refine ⟨_, rfl, .int (0 + (i : Int)), rfl, 9, _, rfl, rfl, _, rfl, l9 ⟨i, by omega⟩, .inr (.inl ⟨_, _, rfl, rfl, ?_, ?_⟩)⟩
        · have := l9s ⟨i, by omega⟩
          exact this
        · refine ⟨Nat.le_of_lt (small1000 (by simp)), fun p np => fin _ (.ref p) _ _ (same_upd np) ?_⟩
          rw [eA_0 sh (by omega)]
          have := Dp.tup (K := K) (.of (upd_same (a := p) (H := H4))) (.cons (.str "o") (.cons (.str "word") (.cons (.str (sg sh i ++ toString (9 - (i : Int)))) .nil)))
          rw [Int.zero_add]
          exact this
      refine ⟨.int (sy : Int), rfl, eqi (ite2 (fun e1 => ?_) (fun e1 => ?_))⟩
      · obtain rfl : sy = 1 := by have := of_decide_eq_true e1; omega
        refine ⟨.ref D, rfl, .inl ⟨rfl, acc, .of hD4⟩, _, rfl, Nat.le_of_lt (small1000 (by simp)), fun p np => fin _ (.ref p) _ _ (same_upd np) ?_⟩
        rw [eA_1 sh (by omega)]
        exact .tup (.of upd_same) (.cons (.str _) (.cons (.str _) (.cons (.str _) .nil)))
      refine ⟨.int (sy : Int), rfl, eqi (ite2 (fun e2 => ?_) (fun e2 => ?_))⟩
      · obtain rfl : sy = 2 := by have := of_decide_eq_true e2; omega
        refine ⟨.ref D, rfl, .inl ⟨rfl, acc, .of hD4⟩, _, rfl, Nat.le_of_lt (small1000 (by simp)), fun p np => fin _ (.ref p) _ _ (same_upd np) ?_⟩
        rw [eA_2 sh (by omega)]
        exact .tup (.of upd_same) (.cons (.str _) (.cons (.str _) (.cons (.str _) (.cons (.str _) .nil))))
      refine ⟨.int (sy : Int), rfl, eqi (ite2 (fun e3 => ?_) (fun e3 => ?_))⟩
      · obtain rfl : sy = 3 := by have := of_decide_eq_true e3; omega
        refine ⟨.ref D, rfl, .inl ⟨rfl, acc, .of hD4⟩, _, rfl, .inr (.inl ⟨_, _, rfl, rfl, (by show 1 + 1 ≤ sizeLine; decide), .int (0 + (i : Int)), rfl, .inl (.inl ⟨_, rfl, _, 3, rfl, rfl, by (show (0 : Int) < _; decide), ?_⟩)⟩)⟩
        refine ⟨Nat.le_of_lt (small1000 (by simp)), fun p np => fin _ (.ref p) _ _ (same_upd np) ?_⟩
        rw [eA_3 sh (by omega)]
        have := Dp.tup (K := K) (.of (upd_same (a := p) (H := H4))) (.cons (.str (sg sh i ++ "1")) (.cons (.str "turn") (.cons (.str "x") (.cons (.str "y") (.cons (.int ((i : Int) % 3)) .nil)))))
        rw [Int.zero_add]
        exact this
      refine ⟨.int (sy : Int), rfl, eqi (ite2 (fun e4 => ?_) (fun e4 => ?_))⟩
      · obtain rfl : sy = 4 := by have := of_decide_eq_true e4; omega
        refine ⟨.ref D, rfl, .inl ⟨rfl, acc, .of hD4⟩, _, rfl, Nat.le_of_lt (small1000 (by simp)), fun p np => fin _ (.ref p) _ _ (same_upd np) ?_⟩
        rw [eA_4 sh (by omega)]
        exact .tup (.of upd_same) (.cons (.str _) (.cons (.str _) (.cons (.str _) (.cons (.str _) .nil))))
      · obtain rfl : sy = 5 := by
          have := of_decide_eq_false (Bool.eq_false_iff.mpr e0)
          have := of_decide_eq_false (Bool.eq_false_iff.mpr e1)
          have := of_decide_eq_false (Bool.eq_false_iff.mpr e2)
          have := of_decide_eq_false (Bool.eq_false_iff.mpr e3)
          have := of_decide_eq_false (Bool.eq_false_iff.mpr e4)
          omega
        have sm : ∀ {n : Nat}, n ≤ 4 → n ≤ sizeLine := fun h => Nat.le_of_lt (small1000 (by omega))
        refine ⟨.ref D, rfl, .inl ⟨rfl, acc, .of hD4⟩, _, rfl, sm (by simp), fun p1 n1 => ⟨sm (by simp), fun p2 n2 => ⟨sm (by simp), fun p3 n3 => ⟨sm (by simp), fun p np => fin _ (.ref p) _ _ ((same_upd n1).trans ((same_upd n2).trans ((same_upd n3).trans (same_upd np)))) ?_⟩⟩⟩⟩
        rw [eA_5 sh (by omega)]
        have s34 := same_upd (o := .tup [.str "u", .str "equal", .ref p1, .ref p3]) np
        have s23 := (same_upd (o := .tup [.str "g", .ref p2]) n3).trans s34
        have s12 := (same_upd (o := .tup [.str "x"]) n2).trans s23
        exact .tup (.of upd_same) (.cons (.str _) (.cons (.str _) (.cons (.tup (.of (s12 _ _ upd_same)) (.cons (.str _) .nil)) (.cons (.tup (.of (s34 _ _ upd_same)) (.cons (.str _) (.cons (.tup (.of (s23 _ _ upd_same)) (.cons (.str _) .nil)) .nil))) .nil))))
    · rintro σ' H4 ⟨y5, y6, acc, rfl, k4, S4, hD4, hl4, hA4⟩
      refine ⟨_, rfl, q D sy sh H4 (by omega) (by omega) k4 S4 nDH ⟨acc, hD4, hl4, hA4⟩⟩
end
end K15

/-! the two functions with a try -/
namespace K15
open PySem PySem.Spec PyProof.Rows L2 RN
section
variable {P : Program} {w : World} {K : PySem.W.Frag} {mg : Str → Option Value} {base : Heap} {a : Ad} {e : Nat → PyData} {p : Pd} {fI : Addr} {dI : FuncData}
theorem FnOk.ex {P : Program} {w : World} {K : PySem.W.Frag} {mg : Str → Option Value} {base : Heap} {CX : CXT} {k : Nat} {f : Addr} {fd : FuncData} {ps : List Str} {α : Type} {G : α → Prop} {sp : α → Sp} (h : ∀ x, G x → FnOk P w K mg base CX k f fd ps (sp x)) : FnOk P w K mg base CX k f fd ps (fun vs H Q E => ∃ x, G x ∧ sp x vs H Q E) :=
  ⟨fun vs H Q E ⟨x, g, q⟩ => (h x g).len vs H Q E q, fun A outer s H args us vs Q E hr he hb hv ⟨x, g, q⟩ => (h x g).run A outer s H args us vs Q E hr he hb hv q⟩
theorem fnR0 {CX : CXT} {k : Nat} {f : Addr} {fd : FuncData} {ps : List Str} {sp : Sp} (F : FnOk P w K mg base CX k f fd ps sp) (hb : Binds K fd ps []) : FnR P w K mg base CX k f sp := (F.raw hb .nil).imp fun vs H Q E h => by rw [List.append_nil]; exact h
/-! ### calls of propagate -/
abbrev prPs : List Str := ["clauses", "start", "order"]
theorem kbp2 (T : Top K mg a) : ∃ (its mv : List Value), KBn K a.d_propagate prPs 2 [] (fun us ws => us ++ (mv ++ ws)) (fun vs zs => vs ++ ([.non] ++ zs)) :=
  T.F_propagate.kbinds 2 [] [("order", .non)] (fun us its mv ws => us ++ (mv ++ ws)) (by simp) (by simp) (fun q h => h) (fun r1 r2 r3 r4 => r1.append (r3.append r4)) fun Tt D doc pm an cdv ct us its mv ws l1 l2 l3 l4 => by
    match us, its, mv, ws, l1, l2, l3, l4 with
    | [u1, u2], [i], [m], [], _, _, _, _ => exact ⟨_, rfl, ⟨_, _, _, _, _, _, rfl, rfl, rfl⟩⟩
theorem kbp2k (T : Top K mg a) : ∃ (its mv : List Value), KBn K a.d_propagate prPs 2 ["order"] (fun us ws => us ++ ws) (fun vs zs => vs ++ zs) :=
  T.F_propagate.kbinds 2 ["order"] [] (fun us its mv ws => us ++ ws) (by simp) (by simp) (fun q h => by cases h) (fun r1 r2 r3 r4 => r1.append r4) fun Tt D doc pm an cdv ct us its mv ws l1 l2 l3 l4 => by
    match us, its, mv, ws, l1, l2, l3, l4 with
    | [u1, u2], [i], [], [m], _, _, _, _ => exact ⟨_, rfl, rfl⟩
theorem kbp1 (T : Top K mg a) : ∃ (its mv : List Value), KBn K a.d_propagate prPs 1 [] (fun us ws => us ++ (its ++ (mv ++ ws))) (fun vs zs => vs ++ ([.ref a.e0] ++ ([.non] ++ zs))) :=
  T.F_propagate.kbinds 1 [] [("order", .non)] (fun us its mv ws => us ++ (its ++ (mv ++ ws))) (by simp) (by simp) (fun q h => h) (fun r1 r2 r3 r4 => r1.append (r2.append (r3.append r4))) fun Tt D doc pm an cdv ct us its mv ws l1 l2 l3 l4 => by
    match us, its, mv, ws, l1, l2, l3, l4 with
    | [u1], [i], [m], [], _, _, _, _ => exact ⟨_, rfl, ⟨_, _, _, _, _, _, rfl, rfl, rfl⟩⟩
/-! ### _law_item -/
def spItem (e : Nat → PyData) (w : World) (K : PySem.W.Frag) (C : Addr) : Sp := fun vs H Q _ => ∃ (o : Addr) (st : List Stp) (k : Nat) (x : V) (l : Lt), vs = [.ref o, x] ∧ PrIs e w K H C o st k ∧ In7 (hs st) ∧ l.1 < 7 ∧ Li e K H x l ∧
  (∀ q, st.find? (fun q => decide (q.1 = l)) = some q → Q (.int (q.2 : Int)) H) ∧ (l ∉ hs st → ∀ p H', H p = none → Same H H' → H' p = some (.lst [x]) → Q (.ref p) H')
theorem ok_item (A : AtOk e) (T : Top K mg a) (B : PrC K a.c_Propagation p) (EL : ErX K a.c_BadLiteral a.c_LookerError a.c_BadOrder fI dI "BadLiteral.__init__" initL) : FnOk P w K mg base CX0 5 a.f_l_item a.d_l_item ["_law_found", "_law_literal"] (spItem e w K a.c_Propagation) := by
  have G := ok_get (P := P) (w := w) (base := base) A T B EL
  refine T.F_l_item.ok sc_l_item (fun vs H Q E h => ?_) (fun cdv A' outer s H vs Q E hr h => ?_)
  · obtain ⟨_, _, _, _, _, rfl, _⟩ := h
    rfl
  · obtain ⟨o, st, k, x, l, rfl, hP, h7, l7, hx, q1, q2⟩ := h
    refine ⟨_, pss_cons (ps_try_as (i := 2) (Wout := fun _ _ _ _ => False) rfl rfl sc_l_item.nd rfl rfl ⟨rfl, by decide, .inl T.m_BadLiteral⟩ takes0
        (fun W pn xe tk _ => pss_one (ps_ret (R1.pe_ixOS (E := WE W) (pv 0) (pv 1) B.gs B.gf B.gn (fnR0 G B.b_G) (hr.mono (by decide)) (fun σ => passAt tk σ) (fun _ _ => rfl))))
        (fun ea oe cls d pn hz hf => pss_one (ps_if (PW.pt (pw_and (pt_val (pe_callB (R1.call_isX (K := K) rfl EL.xc hz hf) (by rfl) T.z_isinstance (by decide +kernel) (pa_cons (pv 2) (pa_cons (pe_glob (v := .ref _) (by rfl) T.m_LookerError rfl) pa_nil)))) (pw_and1 (pt_not (pt_val (pe_callB (R1.call_isX (K := K) rfl EL.xc hz hf) (by rfl) T.z_isinstance (by decide +kernel) (pa_cons (pv 2) (pa_cons (pe_glob (v := .ref _) (by rfl) T.m_BadOrder rfl) pa_nil))))))))
          (pss_one (ps_ret (pe_lst (pa_cons (pe_xf EL.xf EL.noV hz hf (pv 2)) pa_nil)))) pss_nil)))
      (pss_one (ps_ret pe_non)), ?_⟩
    obtain ⟨dx, t, lt, ld, ho, _⟩ := id hP
    refine ⟨.ref o, rfl, x, rfl, o, dx, _, rfl, ho, o, st, k, x, l, rfl, hP, h7, l7, hx, q1, fun hn d H' hd sm hxd => ⟨true, EL.te, fun _ ea hea => ?_, fun z => by cases z⟩⟩
    refine if_ans (b := true && !false) (ans_and2 (fun Q q => ⟨_, rfl, a.c_LookerError, true, d, _, rfl, rfl, hxd, rfl, EL.su, true, rfl, q⟩) (fun Q q => ⟨_, rfl, a.c_BadOrder, false, d, _, rfl, rfl, hxd, rfl, EL.no, false, rfl, q⟩)) (fun _ => ?_) (fun e => nomatch e)
    exact ⟨.ref ea, rfl, rfl, rfl, d, _, x, rfl, hxd, rfl, Nat.le_of_lt (small1000 (by simp)), fun p np => q2 hn p _ (sm.free np) (sm.trans (same_upd np)) upd_same⟩
/-! ### _law_refused -/
def spRef (e : Nat → PyData) (w : World) (K : PySem.W.Frag) : Sp := fun vs H Q _ => ∃ (cd s0 q : Addr) (kvs : List (Key × V)) (ks ns : List Nat) (R : Nat → List Lt) (xs : List V) (ls : List Lt), vs = [.ref cd, .ref s0, .ref q] ∧ H cd = some (.dK kvs) ∧ KsIs kvs ks ∧ ks.length ≤ 6 ∧
  (∀ n ∈ ks, (R n).length ≤ 3 ∧ In7 (R n)) ∧ CkIs e K H kvs R ks ∧ SqI K H s0 xs ∧ R1.Al (Li e K H) xs ls ∧ In7 ls ∧ ls.length ≤ 20 ∧ SqI K H q (ivN ns) ∧ ns.length ≤ 100 ∧
  ∀ p H', H p = none → Same H H' → H' p = some (.lst (if srtN ns = srtN ks then [] else [.ref q])) → Q (.ref p) H'
theorem ok_refused (T : Top K mg a) (EO : ErX K a.c_BadOrder a.c_LookerError a.c_BadLiteral fI dI "BadOrder.__init__" initO) (G_propagate : FnOk P w K mg base (CX P w) 5 a.f_propagate a.d_propagate prPs (spProp e w K a.c_Propagation a.c_BadOrder)) : FnOk P w K mg base CX0 6 a.f_l_refused a.d_l_refused ["_law_clauses_here", "_law_start_here", "_law_labels"] (spRef e w K) := by
  obtain ⟨_, _, KB⟩ := kbp2k T
  refine T.F_l_refused.ok sc_l_refused (fun vs H Q E h => ?_) (fun cdv A' outer s H vs Q E hr h => ?_)
  · obtain ⟨_, _, _, _, _, _, _, _, _, rfl, _⟩ := h
    rfl
  · obtain ⟨cd, s0, q, kvs, ks, ns, R, xs, ls, rfl, hcd, hk, hk6, hR, hck, hs0, hA, h7, hl, hq, hn, q1⟩ := h
    refine ⟨_, pss_cons (ps_try_as (i := 3) (Wout := fun _ _ _ _ => False) rfl rfl sc_l_refused.nd rfl rfl ⟨rfl, by decide, .inl T.m_BadOrder⟩ takes0
        (fun W pn xe tk _ => pss_one (ps_expr (R1.pe_callNS (ks := ["order"]) G_propagate (hr.mono (by decide)) (by rfl) T.m_propagate T.F_propagate.kp KB (fun σ => passAt tk σ) (pa_cons (pv 0) (pa_cons (pv 1) pa_nil)) (pk_cons (pv 2) pk_nil))))
        (fun ea oe cls d pn hz hf => pss_one (ps_if (PW.pt (pw_and (pt_val (pe_callB (R1.call_isX (K := K) rfl EO.xc hz hf) (by rfl) T.z_isinstance (by decide +kernel) (pa_cons (pv 3) (pa_cons (pe_glob (v := .ref _) (by rfl) T.m_LookerError rfl) pa_nil)))) (pw_and1 (pt_not (pt_val (pe_callB (R1.call_isX (K := K) rfl EO.xc hz hf) (by rfl) T.z_isinstance (by decide +kernel) (pa_cons (pv 3) (pa_cons (pe_glob (v := .ref _) (by rfl) T.m_BadLiteral rfl) pa_nil))))))))
          (pss_one (ps_ret (pe_lst (pa_cons (pe_xf EO.xf EO.noV hz hf (pv 3)) pa_nil)))) pss_nil)))
      (pss_one (ps_ret (pe_lst pa_nil))), ?_⟩
    refine ⟨.ref cd, rfl, .ref s0, rfl, .ref q, rfl, rfl, rfl, cd, s0, .ref q, kvs, ks, R, xs, ls, rfl, hcd, hk, hk6, hR, hck, hs0, hA, h7, hl, .inr ⟨q, ns, rfl, hq, hn, fun e1 o H' sm no hP => ?_, fun e1 H0 s0 d H' hd sm hxd => ⟨true, EO.te, fun _ ea hea => ?_, fun z => by cases z⟩⟩⟩
    · refine ⟨Nat.zero_le _, fun p np => q1 p _ (sm.free np) (sm.trans (same_upd np)) ?_⟩
      rw [if_pos e1]
      exact upd_same
    · refine if_ans (b := true && !false) (ans_and2 (fun Q q => ⟨_, rfl, a.c_LookerError, true, d, _, rfl, rfl, hxd, rfl, EO.su, true, rfl, q⟩) (fun Q q => ⟨_, rfl, a.c_BadLiteral, false, d, _, rfl, rfl, hxd, rfl, EO.no, false, rfl, q⟩)) (fun _ => ?_) (fun e => nomatch e)
      refine ⟨.ref ea, rfl, rfl, rfl, d, _, .ref q, rfl, hxd, rfl, Nat.le_of_lt (small1000 (by simp)), fun p np => q1 p _ (s0.free (sm.free np)) ((s0.trans sm).trans (same_upd np)) ?_⟩
      rw [if_neg e1]
      exact upd_same
end
end K15


/-! whether an object is the due propagation -/
namespace K15
open PySem PySem.Spec PyProof.Rows L2 RN
section
variable {P : Program} {w : World} {K : PySem.W.Frag} {mg : Str → Option Value} {base : Heap} {a : Ad} {e : Nat → PyData} {p : Pd} {fI : Addr} {dI : FuncData}
theorem mt_indexDK {X : Cx} {K : PySem.W.Frag} (hu : X.A.units + 65 < cLine) (hK : X.K = K) : MtR X "list.index" (rIndexD K) := by subst hK; exact mt_indexD hu
def eS (e : Nat → PyData) (q : Stp) : PyData := .tuple [eL e q.1, .int (q.2 : Int)]
theorem wlAll_map {α : Type} {f : α → PyData} {m : Nat} : ∀ {l : List α}, (∀ x ∈ l, wl (f x) ≤ m) → wlAll (l.map f) ≤ m * l.length
  | [], _ => Nat.zero_le _
  | x :: l, h => by
    have i := wlAll_map (f := f) (m := m) (l := l) fun y hy => h y (List.mem_cons_of_mem _ hy)
    have j := h x List.mem_cons_self
    show wl (f x) + wlAll (l.map f) ≤ m * (l.length + 1)
    rw [Nat.mul_add, Nat.mul_one]; omega
theorem depthAll_map {α : Type} {f : α → PyData} {m : Nat} : ∀ {l : List α}, (∀ x ∈ l, (f x).depth ≤ m) → PyData.depthAll (l.map f) ≤ m
  | [], _ => Nat.zero_le _
  | x :: l, h => by
    have i := depthAll_map (f := f) (m := m) (l := l) fun y hy => h y (List.mem_cons_of_mem _ hy)
    have j := h x List.mem_cons_self
    show max (f x).depth (PyData.depthAll (l.map f)) ≤ m
    omega
theorem eL_wl (A : AtOk e) {l : Lt} (h : l.1 < 7) : wl (eL e l) ≤ 102 := by
  have := A.wt _ h
  show 2 + (wl (e l.1) + (0 + 0)) ≤ 102
  omega
theorem eS_dep (A : AtOk e) {q : Stp} (h : q.1.1 < 7) : (eS e q).depth ≤ 22 ∧ wl (eS e q) ≤ 104 := by
  have h1 := eL_d A h
  have h2 := eL_wl A h
  refine ⟨?_, ?_⟩
  · show max (eL e q.1).depth (max 0 0) + 1 ≤ 22
    omega
  · show 2 + (wl (eL e q.1) + (0 + 0)) ≤ 104
    omega
theorem hs_mem {st : List Stp} (h7 : In7 (hs st)) : ∀ q ∈ st, q.1.1 < 7 := fun q hq => h7 _ (by unfold hs; exact List.mem_map.mpr ⟨q, hq, rfl⟩)
theorem stis_dp {H : Hp} {t : Addr} {st : List Stp} (h : StIs e K H t st) : Dp K H (.ref t) (.tuple (st.map (eS e))) := by
  obtain ⟨cs, es, h1, h2, h3, h4⟩ := h
  have le := Paired.length h4
  refine .tup (frz_sq h1) (al_dps ⟨by rw [List.length_map]; omega, fun i x q hx hq => ?_⟩)
  rw [List.getElem?_map] at hx
  cases g : cs[i]? with
  | none => rw [g] at hx; cases hx
  | some c =>
    rw [g] at hx
    cases hx
    have lt := (List.getElem?_eq_some_iff.mp g).1
    obtain ⟨p0, g0, q1, g1, z1, z2, z3⟩ := Paired.at' h4 (show i < es.length by omega)
    rw [hq] at g1
    cases g1
    have := h3 i c p0 g g0
    rw [z3] at this
    exact .tup this (.cons z2 (.cons (.int _) .nil))
theorem stpv_dp {H : Hp} {x : V} {q : Stp} (h : StpV e K H x q) : Dp K H x (eS e q) := by
  obtain ⟨b, y, rfl, h1, h2⟩ := h
  exact .tup h1 (.cons h2 (.cons (.int _) .nil))
theorem st_bounds (A : AtOk e) {st : List Stp} (h7 : In7 (hs st)) (hl : st.length ≤ 200) : (PyData.tuple (st.map (eS e))).depth ≤ 23 ∧ wl (.tuple (st.map (eS e))) ≤ 30000 := by
  have h1 := depthAll_map (f := eS e) (m := 22) (l := st) fun q hq => (eS_dep A (hs_mem h7 q hq)).1
  have h2 := wlAll_map (f := eS e) (m := 104) (l := st) fun q hq => (eS_dep A (hs_mem h7 q hq)).2
  refine ⟨?_, ?_⟩
  · show PyData.depthAll (st.map (eS e)) + 1 ≤ 23
    omega
  · show (st.map (eS e)).length + wlAll (st.map (eS e)) ≤ 30000
    rw [List.length_map]; omega
theorem ls_bounds (A : AtOk e) {ls : List Lt} (h7 : In7 ls) (hl : ls.length ≤ 200) : PyData.depthAll (ls.map (eL e)) ≤ 21 ∧ (ls.map (eL e)).length + wlAll (ls.map (eL e)) ≤ 30000 := by
  have h1 := depthAll_map (f := eL e) (m := 21) (l := ls) fun q hq => eL_d A (h7 q hq)
  have h2 := wlAll_map (f := eL e) (m := 102) (l := ls) fun q hq => eL_wl A (h7 q hq)
  exact ⟨h1, by rw [List.length_map]; omega⟩
theorem pr_same (A : AtOk e) {H H' : Hp} {C o : Addr} {st : List Stp} {k : Nat} (h7 : In7 (hs st)) (s : Same H H') (h : PrIs e w K H C o st k) : PrIs e w K H' C o st k := by
  obtain ⟨dx, t, lt, ld, h1, h2, h3, es, h4, h5⟩ := h
  obtain ⟨xs, x1, x2⟩ := h3
  exact ⟨dx, t, lt, ld, s _ _ h1, st_kp A h1 True.intro (Same.kp s) h7 h2, ⟨xs, s _ _ x1, al_tk A h7 (Same.tk s) x2⟩, es, s _ _ h4, es_tk A (Same.tk s) h7 h5⟩
theorem find_idx {l : Lt} : ∀ {st : List Stp} {q0 : Stp}, st.find? (fun q => decide (q.1 = l)) = some q0 → ∃ j, st[j]? = some q0 ∧ q0.1 = l ∧ ∀ (m : Nat) (q : Stp), m < j → st[m]? = some q → q.1 ≠ l
  | [], _, h => by simp at h
  | q :: st, q0, h => by
    rw [List.find?_cons] at h
    by_cases c : q.1 = l
    · rw [decide_eq_true c] at h
      cases h
      exact ⟨0, rfl, c, fun m _ hm => absurd hm (Nat.not_lt_zero _)⟩
    · rw [decide_eq_false c] at h
      obtain ⟨j, h1, h2, h3⟩ := find_idx h
      refine ⟨j + 1, by simpa using h1, h2, fun m q' hm hq => ?_⟩
      cases m with
      | zero => cases hq; exact c
      | succ m => exact h3 m q' (by omega) (by simpa using hq)
def spIs (e : Nat → PyData) (w : World) (K : PySem.W.Frag) (C : Addr) : Sp := fun vs H Q _ => ∃ (o dp sl al : Addr) (st : List Stp) (k n : Nat) (ys : List V), vs = [.ref o, .ref dp, .ref al] ∧ PrIs e w K H C o st k ∧ SqL K H dp [.ref sl, .int (k : Int)] ∧ SqL K H sl ys ∧ R1.Al (StpV e K H) ys st ∧
  In7 (hs st) ∧ st.length ≤ 200 ∧ AtsIs e K H al n ∧ n ≤ 6 ∧ ∀ H', Same H H' → Q (.bl true) H'
theorem ok_is (A : AtOk e) (T : Top K mg a) (B : PrC K a.c_Propagation p) (G_l_alike : FnOk P w K mg base CX0 30 a.f_l_alike a.d_l_alike ["_law_actual", "_law_due"] (spAl (Sm K 30)))
    (G_l_item : FnOk P w K mg base CX0 5 a.f_l_item a.d_l_item ["_law_found", "_law_literal"] (spItem e w K a.c_Propagation)) : FnOk P w K mg base CX0 31 a.f_l_is a.d_l_is ["_law_found", "_law_due", "_law_atoms"] (spIs e w K a.c_Propagation) := by
  have G_len := ok_len (P := P) (w := w) (base := base) (e := e) T B
  have G_iter := ok_iter (P := P) (w := w) (base := base) T B
  have G_cont := ok_cont (P := P) (w := w) (base := base) A T B
  refine T.F_l_is.ok sc_l_is (fun vs H Q E h => ?_) (fun cdv A' outer s H vs Q E hr h => ?_)
  · obtain ⟨_, _, _, _, _, _, _, _, rfl, _⟩ := h
    rfl
  · obtain ⟨o, dp, sl, al, st, k, n, ys, rfl, hP, hdp, hsl, hys, h7, hl, hat, hn6, q⟩ := h
    refine ⟨_, (pss_cons (ps_asg (pv 1) (pg_lst rfl (pgs_cons (pg_name (i := 3) sc_l_is.nd rfl (.inl rfl)) (pgs_cons (pg_name (i := 4) sc_l_is.nd rfl (.inl rfl)) pgs_nil))))
    (pss_cons (ps_setLc (own := [("_law_step", 9)]) (i := 5) rfl sc_l_is.nd rfl rfl (sw_true rfl rfl rfl (by decide +kernel)) (R1.PI.or (pi_list (pv 3)) (pi_tup (pv 3))) (blkOk_by (own := [("_law_step", 9)]) (N := ["_law_found", "_law_due", "_law_atoms", "_law_steps", "_law_clash", "_law_literals", "_law_atom", "_law_literal", "_law_label", "_law_step"]) (sc := defScope s_l_is) (by decide +kernel)) (fun _ _ _ _ _ => (pg_name (i := 9) sc_l_is.nd rfl (.inl rfl))) (fun _ _ _ _ _ => pts_nil) (fun _ _ _ _ _ => (pe_ix (R1.ix_seqK (K := K) rfl) (pv 9) pe_int (fun _ _ => rfl))))
    (pss_cons (ps_if (PW.pt (pw_or (pt_not (pt_val (pe_callB (C8.call_isC B.ins) (by rfl) T.z_isinstance (by decide +kernel) (pa_cons (pv 0) (pa_cons (pe_glob (v := .ref _) (by rfl) T.m_Propagation rfl) pa_nil))))) (pw_or1 (pt_not (pt_val (pe_call G_l_alike (hr.mono (by decide)) (by rfl) T.m_l_alike T.F_l_alike.kp T.b_l_alike .nil pass0 (pa_cons (pe_fld (pv 0) (by rfl)) (pa_cons (pe_callTy call_tuple_of (by rfl) T.z_tuple (by decide +kernel) (pa_cons (pv 3) pa_nil)) pa_nil))))))))
      (pss_one (ps_ret pe_bl))
      pss_nil)
    (pss_cons (ps_if (pt_not (pt_val (pe_call G_l_alike (hr.mono (by decide)) (by rfl) T.m_l_alike T.F_l_alike.kp T.b_l_alike .nil pass0 (pa_cons (pe_lst (pa_cons (pe_fld (pv 0) (by rfl)) (pa_cons (pe_fld (pv 0) (by rfl)) pa_nil))) (pa_cons (pe_lst (pa_cons (pv 4) (pa_cons (pe_callTy call_tuple_of (by rfl) T.z_tuple (by decide +kernel) (pa_cons (pv 5) pa_nil)) pa_nil))) pa_nil)))))
      (pss_one (ps_ret pe_bl))
      pss_nil)
    (pss_cons (ps_if (pt_not (pt_val (pe_call G_l_alike (hr.mono (by decide)) (by rfl) T.m_l_alike T.F_l_alike.kp T.b_l_alike .nil pass0 (pa_cons (pe_lst (pa_cons (pe_callB (R1.call_lenO B.itl.ln B.itl.lnF (fnR0 G_len B.b_L) (hr.mono (by decide)) pass0) (by rfl) T.z_len (by decide +kernel) (pa_cons (pv 0) pa_nil)) (pa_cons (pe_callTy (RI.call_listO rfl B.itl (fnR0 G_iter B.b_T) (fnR0 G_len B.b_L) (hr.mono (by decide))) (by rfl) T.z_list (by decide +kernel) (pa_cons (pv 0) pa_nil)) pa_nil))) (pa_cons (pe_lst (pa_cons (pe_callB (CallR.or call_len_str call_len_seq) (by rfl) T.z_len (by decide +kernel) (pa_cons (pv 3) pa_nil)) (pa_cons (pv 5) pa_nil))) pa_nil)))))
      (pss_one (ps_ret pe_bl))
      pss_nil)
    (pss_cons (ps_for PassesOwn.never rfl (R1.PI.or (pi_list (pe_op (OpR.or op_add (OpR.or op_add_str (OpR.or op_cat op_catT))) (pv 2) (pe_lst (pa_cons (pe_tup (pa_cons pe_str (pa_cons pe_str (pa_cons pe_int pa_nil)))) pa_nil)))) (pi_tup (pe_op (OpR.or op_add (OpR.or op_add_str (OpR.or op_cat op_catT))) (pv 2) (pe_lst (pa_cons (pe_tup (pa_cons pe_str (pa_cons pe_str (pa_cons pe_int pa_nil)))) pa_nil))))) (pg_name (i := 6) sc_l_is.nd rfl (.inl rfl))
      (pss_one (ps_for PassesOwn.never rfl (pi_tup (pe_tup (pa_cons (pe_tup (pa_cons (pv 6) (pa_cons pe_bl pa_nil))) (pa_cons (pe_tup (pa_cons (pv 6) (pa_cons pe_bl pa_nil))) pa_nil)))) (pg_name (i := 7) sc_l_is.nd rfl (.inl rfl))
        (pss_cons (ps_set (i := 8) sc_l_is.nd rfl (.inl rfl) (pe_lst (pa_cons (pv 7) pa_nil)))
        (pss_cons (ps_if (pt_cmpR (op_inDK (u65 hr) rfl) (pv 7) (pv 5) rfl)
          (pss_one (ps_set (i := 8) sc_l_is.nd rfl (.inl rfl) (pe_ix ix_seq (pe_ix ix_seq (pv 3) (pe_bm PySem.F.plainAttrs_list PySem.F.slot_list_index PySem.F.type_list_index (mt_indexDK (u65 hr) rfl) (pv 5) (pa_cons (pv 7) pa_nil)) (fun _ _ => rfl)) pe_int (fun _ _ => rfl))))
          pss_nil)
        (pss_one (ps_if (pt_not (pt_val (pe_call G_l_alike (hr.mono (by decide)) (by rfl) T.m_l_alike T.F_l_alike.kp T.b_l_alike .nil pass0 (pa_cons (pe_lst (pa_cons (pe_cmpR (R1.op_inO B.cs B.cn (fnR0 G_cont B.b_N) (hr.mono (by decide)) pass0) (pv 7) (pv 0) rfl) (pa_cons (pe_call G_l_item (hr.mono (by decide)) (by rfl) T.m_l_item T.F_l_item.kp T.b_l_item .nil pass0 (pa_cons (pv 0) (pa_cons (pv 7) pa_nil))) pa_nil))) (pa_cons (pe_lst (pa_cons (pe_cmpR (op_inDK (u65 hr) rfl) (pv 7) (pv 5) rfl) (pa_cons (pv 8) pa_nil))) pa_nil)))))
          (pss_one (ps_ret pe_bl))
          pss_nil)))))))
    (pss_one (ps_ret pe_bl)))))))), ?_⟩
    refine ⟨.ref dp, rfl, dp, _, rfl, hdp, rfl, _, _, rfl, _, _, rfl, rfl, ?_⟩
    have lys : ys.length = st.length := hys.1
    refine .inl ⟨.ref sl, rfl, sl, rfl, ⟨_, hsl⟩, fun D nD => R1.walk_it (walk_list (xs := ys)) (fun u H1 => Same H H1 ∧ ∃ acc, H1 D = some (.lst acc) ∧ R1.Al (Li e K H1) acc ((hs st).take u)) ⟨same_upd nD, [], upd_same, R1.Al.nil⟩ (fun u H1 _ h => sqL_same h.1 hsl) ?_ ?_⟩
    · rintro u x _ H1 hu ⟨s1, acc, hD, hB⟩ ⟨rfl, hx⟩
      obtain ⟨q1, g1, b, y, rfl, hb, hy⟩ := hys.at hx
      have et : (hs st).take (u + 1) = (hs st).take u ++ [q1.1] := by
        rw [List.take_add_one]
        unfold hs
        rw [List.getElem?_map, g1]
        rfl
      have la : acc.length ≤ 1000 := by
        have := hB.1
        rw [List.length_take] at this
        unfold hs at this
        rw [List.length_map] at this
        omega
      have l7 : q1.1.1 < 7 := hs_mem h7 q1 (List.mem_of_getElem? g1)
      refine ⟨rfl, .ref b, rfl, .inr (.inl ⟨b, _, (0 : Nat), y, rfl, rfl, sqT_tk (Same.tk s1) hb, atI_nat rfl, _, hD, small1000 la, K15.Same.mut s1 nD, _, upd_same, ?_⟩)⟩
      have tD : Tk H1 (upd H1 D (.lst (acc ++ [y]))) := tk_upd hD True.intro
      rw [et]
      exact R1.Al.snoc (al_tk A (fun m hm => h7 m (List.mem_of_mem_take hm)) tD hB) ((hy.tk A l7 (Same.tk s1)).tk A l7 tD)
    · rintro H1 ⟨s1, acc, hD, hB⟩
      have lh : (hs st).length = ys.length := by unfold hs; rw [List.length_map, lys]
      rw [← lh, List.take_length] at hB
      have hP1 := pr_same A h7 s1 hP
      have hys1 : R1.Al (StpV e K H1) ys st := stp_tk A h7 (Same.tk s1) hys
      have hsl1 := sqL_same s1 hsl
      obtain ⟨bd1, bd2⟩ := st_bounds A h7 hl
      have lh2 : (hs st).length ≤ 200 := by rw [lh, lys]; exact hl
      obtain ⟨bl1, bl2⟩ := ls_bounds A h7 lh2
      have hat1 : AtsIs e K H1 al n := ats_same A (by omega) s1 hat
      obtain ⟨dx, t, lt, ld, ho, hst, hlt, hld⟩ := id hP1
      refine ⟨.ref o, rfl, o, dx, _, rfl, ho, true, rfl, iteF ?_⟩
      refine ⟨.ref o, rfl, o, a.c_Propagation, dx, _, _, rfl, ho, B.ins.cl, B.nS, lkS _ _ _ _, .ref sl, rfl, sl, ys, rfl, .inl ⟨hsl1, fun p2 n2 => ?_⟩⟩
      have s2 := same_upd (o := .tup ys) n2
      refine ⟨_, _, rfl, sm_dp _ 30 _ _ (stis_dp (st_kp A ho True.intro (Same.kp s2) h7 hst)) (.tup (.of upd_same) (al_dps ((stp_tk A h7 (Same.tk s2) hys1).mono fun x r h => stpv_dp h))) (by omega) (by omega), true, rfl, iteF ?_⟩
      generalize upd H1 p2 (.tup ys) = H2 at s2 ⊢
      have hP2 := pr_same A h7 s2 hP1
      have ho2 := s2 _ _ ho
      have hD2 := s2 _ _ hD
      have hB2 := al_tk A h7 (Same.tk s2) hB
      have sm2 : ∀ {n : Nat}, n ≤ 4 → n ≤ sizeLine := fun h => Nat.le_of_lt (small1000 (by omega))
      -- clash and literals
      refine ⟨.ref o, rfl, o, a.c_Propagation, dx, _, _, rfl, ho2, B.ins.cl, B.nC, lkC _ _ _ _, .ref o, rfl, o, a.c_Propagation, dx, _, _, rfl, ho2, B.ins.cl, B.nL, lkL _ _ _ _, sm2 (by simp), fun a1 n1 => ?_⟩
      have s3 := s2.trans (same_upd (o := .lst [.int (k : Int), .ref lt]) n1)
      have ha1 : (upd H2 a1 (.lst [.int (k : Int), .ref lt])) a1 = _ := upd_same
      generalize upd H2 a1 (.lst [.int (k : Int), .ref lt]) = H3 at s3 ha1 ⊢
      refine ⟨.int (k : Int), rfl, .ref D, rfl, D, acc, rfl, .inl ⟨.of (s3 _ _ hD), fun p3 n3 => ⟨sm2 (by simp), fun a2 n2 => ?_⟩⟩⟩
      have s4 := same_upd (o := .tup acc) n3
      have s5 := same_upd (o := .lst [.int (k : Int), .ref p3]) n2
      have ha2 : (upd (upd H3 p3 (.tup acc)) a2 (.lst [.int (k : Int), .ref p3])) a2 = _ := upd_same
      have hp3 := s5 _ _ (show (upd H3 p3 (.tup acc)) p3 = _ from upd_same)
      have ha1' := s5 _ _ (s4 _ _ ha1)
      have s6 := s3.trans (s4.trans s5)
      generalize upd (upd H3 p3 (.tup acc)) a2 (.lst [.int (k : Int), .ref p3]) = H4 at s6 ha2 hp3 ha1' ⊢
      obtain ⟨lx, hlx, hlA⟩ := id hlt
      have tk6 := Same.tk s6
      have dl : ∀ {x : V} {H : Hp} {y : V} {u : V}, True := trivial
      refine ⟨_, _, rfl, sm_dp (.list [.int (k : Int), .tuple ((hs st).map (eL e))]) 30 _ _ (.lst (.of ha1') (.cons (.int _) (.cons (.tup (.of (s6 _ _ hlx)) (al_dps (al_tk A h7 tk6 hlA))) .nil))) (.lst (.of ha2) (.cons (.int _) (.cons (.tup (.of hp3) (al_dps (al_tk A h7 tk6 hB))) .nil))) ?_ ?_, true, rfl, iteF ?_⟩
      · show max 0 (max (PyData.depthAll ((hs st).map (eL e)) + 1) 0) + 1 < 30
        omega
      · show 2 + (0 + ((((hs st).map (eL e)).length + wlAll ((hs st).map (eL e))) + 0)) ≤ 1000000
        omega
      -- len and list
      have hP4 := pr_same A h7 s6 hP1
      obtain ⟨_, _, _, _, ho4', _⟩ := id hP4
      have ho4 := s6 _ _ ho
      clear ho4'
      refine ⟨.ref o, rfl, o, dx, _, rfl, ho4, o, st, k, rfl, hP4, st.length, rfl, by omega, .ref o, rfl, o, dx, _, rfl, ho4, fun q5 n5 => ?_⟩
      have s7 : Same H4 (upd H4 q5 (.lst [])) := same_upd n5
      refine ⟨o, dx, t, lt, ld, k, lx, rfl, s7 _ _ ho4, .of (s7 _ _ (s6 _ _ hlx)), fun it nit => ?_⟩
      have s8 : Same (upd H4 q5 (.lst [])) (upd (upd H4 q5 (.lst [])) it (RI.ItTO lt it)) := same_upd nit
      have hq8 := s8 _ _ (show (upd H4 q5 (.lst [])) q5 = _ from upd_same)
      have itne : it ≠ lt := fun z => by rw [z, s7 _ _ (s6 _ _ hlx)] at nit; cases nit
      have itq : it ≠ q5 := fun z => by rw [z, upd_same] at nit; cases nit
      have n4it : H4 it = none := s7.free nit
      have lxl : lx.length = (hs st).length := hlA.1
      refine ⟨it, lt, lx, rfl, upd_same, itne, hq8, s8 _ _ (s7 _ _ ho4), o, st, k, rfl, pr_same A h7 (s7.trans s8) hP4, st.length, rfl, by omega, upd_same, .of (s8 _ _ (s7 _ _ (s6 _ _ hlx))), by omega, hq8, sm2 (by simp), fun a3 n3' => ?_⟩
      have s9 : Same H4 (RI.behind (upd (upd H4 q5 (.lst [])) it (RI.ItTO lt it)) q5 it lx) := fun b ob hb => by
        unfold RI.behind
        rw [upd_ne (ne_of_none hb n4it), upd_ne (ne_of_none hb n5), upd_ne (ne_of_none hb n4it), upd_ne (ne_of_none hb n5)]
        exact hb
      have hq9 : (RI.behind (upd (upd H4 q5 (.lst [])) it (RI.ItTO lt it)) q5 it lx) q5 = some (.lst lx) := by
        unfold RI.behind
        rw [upd_ne (Ne.symm itq), upd_same]
      generalize RI.behind (upd (upd H4 q5 (.lst [])) it (RI.ItTO lt it)) q5 it lx = H5 at s9 hq9 n3' ⊢
      have s10 := same_upd (o := .lst [.int ((st.length : Nat) : Int), .ref q5]) n3'
      have ha3 : (upd H5 a3 (.lst [.int ((st.length : Nat) : Int), .ref q5])) a3 = _ := upd_same
      have hq10 := s10 _ _ hq9
      have s11 := s6.trans (s9.trans s10)
      generalize upd H5 a3 (.lst [.int ((st.length : Nat) : Int), .ref q5]) = H6 at s11 ha3 hq10 ⊢
      refine ⟨.ref sl, rfl, .inr ⟨sl, ys, rfl, .inl (sqL_same s11 hsl1), .ref D, rfl, sm2 (by simp), fun a4 n4 => ?_⟩⟩
      have s12 := same_upd (o := .lst [.int ((ys.length : Nat) : Int), .ref D]) n4
      have ha4 : (upd H6 a4 (.lst [.int ((ys.length : Nat) : Int), .ref D])) a4 = _ := upd_same
      have ha3' := s12 _ _ ha3
      have hq12 := s12 _ _ hq10
      have s13 := s11.trans s12
      generalize upd H6 a4 (.lst [.int ((ys.length : Nat) : Int), .ref D]) = H7 at s13 ha4 ha3' hq12 ⊢
      have tk13 := Same.tk s13
      rw [lys] at ha4
      refine ⟨_, _, rfl, sm_dp (.list [.int ((st.length : Nat) : Int), .list ((hs st).map (eL e))]) 30 _ _ (.lst (.of ha3') (.cons (.int _) (.cons (.lst (.of hq12) (al_dps (al_tk A h7 tk13 hlA))) .nil))) (.lst (.of ha4) (.cons (.int _) (.cons (.lst (.of (s13 _ _ hD)) (al_dps (al_tk A h7 tk13 hB))) .nil))) ?_ ?_, true, rfl, iteF ?_⟩
      · show max 0 (max (PyData.depthAll ((hs st).map (eL e)) + 1) 0) + 1 < 30
        omega
      · show 2 + (0 + ((((hs st).map (eL e)).length + wlAll ((hs st).map (eL e))) + 0)) ≤ 1000000
        omega
      have hP7 := pr_same A h7 s13 hP1
      have hD7 := s13 _ _ hD
      have hB7 := al_tk A h7 tk13 hB
      have hsl7 := sqL_same s13 hsl1
      have hys7 : R1.Al (StpV e K H7) ys st := stp_tk A h7 tk13 hys1
      have hat7 : AtsIs e K H7 al n := ats_same A (by omega) s13 hat1
      have s017 := s1.trans s13
      obtain ⟨av, hav, lav, dav⟩ := hat7
      -- the atoms, and one more
      refine .inl ⟨.ref al, rfl, sm2 (by simp), fun tz ntz => ⟨sm2 (by simp), fun lz nlz => ?_⟩⟩
      have u1 := same_upd (o := .tup [.str "", .str "size", .int 2]) ntz
      have u2 := same_upd (o := .lst [.ref tz]) nlz
      have htz := u2 _ _ (show (upd H7 tz (.tup [.str "", .str "size", .int 2])) tz = _ from upd_same)
      have hlz : (upd (upd H7 tz (.tup [.str "", .str "size", .int 2])) lz (.lst [.ref tz])) lz = _ := upd_same
      have u12 := u1.trans u2
      generalize upd (upd H7 tz (.tup [.str "", .str "size", .int 2])) lz (.lst [.ref tz]) = H8 at u12 htz hlz ⊢
      refine .inr (.inr (.inl ⟨al, lz, av, _, rfl, rfl, u12 _ _ hav, hlz, Nat.le_of_lt (small1000 (by simp; omega)), fun pl npl => ⟨pl, rfl, ⟨_, .of upd_same⟩, ?_⟩⟩))
      have u3 := same_upd (o := .lst (av ++ [.ref tz])) npl
      have hpl : (upd H8 pl (.lst (av ++ [.ref tz]))) pl = _ := upd_same
      have htz3 := u3 _ _ htz
      have u13 := u12.trans u3
      generalize upd H8 pl (.lst (av ++ [.ref tz])) = H9 at u13 hpl htz3 ⊢
      have atom : ∀ (i : Nat) x, (av ++ [V.ref tz])[i]? = some x → ∃ kk, kk < 7 ∧ Dp K H9 x (e kk) := fun i x hx => by
        by_cases lt : i < av.length
        · rw [List.getElem?_append_left lt] at hx
          exact ⟨i, by omega, dp_tk (Same.tk u13) _ _ (dav i x hx) (A.kb i (by omega))⟩
        · rw [List.getElem?_append_right (by omega)] at hx
          cases z : i - av.length with
          | zero =>
            rw [z] at hx
            cases hx
            refine ⟨6, by decide, ?_⟩
            rw [A.six]
            exact .tup (.of htz3) (.cons (.str _) (.cons (.str _) (.cons (.int _) .nil)))
          | succ m => rw [z] at hx; simp at hx
      refine for_it (walk_list (xs := av ++ [.ref tz])) (fun i σ' H' => ∃ y6 y7 y8, σ' = [some (.ref o), some (.ref dp), some (.ref al), some (.ref sl), some (.int (k : Int)), some (.ref D), y6, y7, y8, none] ∧ Same H9 H') ⟨_, _, _, rfl, Same.refl _⟩ (fun i σ' H' _ h => by obtain ⟨_, _, _, _, h⟩ := h; exact .of (h _ _ hpl)) ?_ ?_
      · rintro i x σ' _ H10 hi ⟨y6, y7, y8, rfl, w1⟩ ⟨rfl, hx⟩
        obtain ⟨kk, hk7, dk⟩ := atom i x hx
        have dk10 := dp_tk (Same.tk w1) _ _ dk (A.kb kk hk7)
        refine ⟨x, rfl, sm2 (by simp), fun t1 nt1 => ⟨x, rfl, sm2 (by simp), fun t2 nt2 => ⟨sm2 (by simp), fun t3 nt3 => ⟨t3, rfl, ⟨_, .of upd_same⟩, ?_⟩⟩⟩⟩
        have v1 := same_upd (o := .tup [x, .bl true]) nt1
        have v2 := same_upd (o := .tup [x, .bl false]) nt2
        have v3 := same_upd (o := .tup [.ref t1, .ref t2]) nt3
        have ht1 := v3 _ _ (v2 _ _ (show (upd H10 t1 (.tup [x, .bl true])) t1 = _ from upd_same))
        have ht2 := v3 _ _ (show (upd (upd H10 t1 (.tup [x, .bl true])) t2 (.tup [x, .bl false])) t2 = _ from upd_same)
        have ht3 : (upd (upd (upd H10 t1 (.tup [x, .bl true])) t2 (.tup [x, .bl false])) t3 (.tup [.ref t1, .ref t2])) t3 = _ := upd_same
        have v13 := v1.trans (v2.trans v3)
        generalize upd (upd (upd H10 t1 (.tup [x, .bl true])) t2 (.tup [x, .bl false])) t3 (.tup [.ref t1, .ref t2]) = H11 at v13 ht1 ht2 ht3 ⊢
        have dk11 := dp_tk (Same.tk v13) _ _ dk10 (A.kb kk hk7)
        refine for_it (walk_tup (xs := [.ref t1, .ref t2])) (fun u σ' H' => ∃ y7 y8, σ' = [some (.ref o), some (.ref dp), some (.ref al), some (.ref sl), some (.int (k : Int)), some (.ref D), some x, y7, y8, none] ∧ Same H11 H') ⟨_, _, rfl, Same.refl _⟩ (fun u σ' H' _ h => by obtain ⟨_, _, _, h⟩ := h; exact .of (h _ _ ht3)) ?_ ?_
        · rintro u lv σ' _ H12 hu ⟨y7, y8, rfl, w2⟩ ⟨rfl, hlv⟩
          obtain ⟨b, hL⟩ : ∃ b, Li e K H12 lv (kk, b) := by
            have d12 := dp_tk (Same.tk w2) _ _ dk11 (A.kb kk hk7)
            match u, hlv with
            | 0, hlv => cases hlv; exact ⟨true, li_mk (l := (kk, true)) (.of (w2 _ _ ht1)) d12⟩
            | 1, hlv => cases hlv; exact ⟨false, li_mk (l := (kk, false)) (.of (w2 _ _ ht2)) d12⟩
          obtain ⟨pp, _, rfl, _, _⟩ := li_split hL
          have l7 : (kk, b).1 < 7 := hk7
          generalize (kk, b) = l at hL l7
          have s12 := u13.trans (w1.trans (v13.trans w2))
          refine ⟨.ref pp, rfl, sm2 (by simp), fun lb nlb => ?_⟩
          have x1 := same_upd (o := .lst [.ref pp]) nlb
          have hlb : (upd H12 lb (.lst [.ref pp])) lb = _ := upd_same
          have hL' := hL.tk A l7 (Same.tk x1)
          have s13' := s12.trans x1
          have w3 := w2.trans x1
          generalize upd H12 lb (.lst [.ref pp]) = H13 at hlb hL' s13' w3 ⊢
          have hP13 := pr_same A h7 s13' hP7
          have ho13 := s13' _ _ (s13 _ _ ho)
          have hD13 := s13' _ _ hD7
          have hB13 := al_tk A h7 (Same.tk s13') hB7
          have hin : ∀ (i : Nat) (y8 : Option V), Ans (tTest (tOp (rInD K) (tVar 7) (tVar 5))) [some (.ref o), some (.ref dp), some (.ref al), some (.ref sl), some (.int (k : Int)), some (.ref D), some x, some (.ref pp), y8, none] H13 (decide (l ∈ hs st)) := fun _ _ Q' q' => by
            refine ⟨.ref pp, rfl, .ref D, rfl, eL e l, (hs st).map (eL e), hL', .lst (.of hD13) (al_dps hB13), eL_shaped A l7, list_shaped A h7, _, rfl, ?_⟩
            rw [any_eL A l7 h7]
            exact q'
          have hinH : ∀ Hx, Same H13 Hx → ∀ Q' : VK, Q' (.bl (decide (l ∈ hs st))) Hx → rInD K (.ref pp) (.ref D) Hx Q' := fun Hx sx Q' q' => by
            refine ⟨eL e l, (hs st).map (eL e), hL'.tk A l7 (Same.tk sx), .lst (.of (sx _ _ hD13)) (al_dps (al_tk A h7 (Same.tk sx) hB13)), eL_shaped A l7, list_shaped A h7, ?_⟩
            rw [any_eL A l7 h7]
            exact q'
          have b2 : ∀ {Hx : Hp} {l1 l2 : Addr} {c : Bool} {x y : V} {d : PyData}, Hx l1 = some (.lst [.bl c, x]) → Hx l2 = some (.lst [.bl c, y]) → Dp K Hx x d → Dp K Hx y d → d.depth ≤ 25 → wl d ≤ 900000 → Sm K 30 Hx (.ref l1) (.ref l2) := fun {Hx l1 l2 c x y d} e1 e2 d1 d2 dd dw => by
            refine sm_dp (.list [.bool c, d]) 30 _ _ (.lst (.of e1) (.cons (.bl _) (.cons d1 .nil))) (.lst (.of e2) (.cons (.bl _) (.cons d2 .nil))) ?_ ?_
            · show max 0 (max d.depth 0) + 1 < 30
              omega
            · show 2 + (0 + (wl d + 0)) ≤ 1000000
              omega
          refine if_ans (hin 0 _) (fun z => ?_) (fun z => ?_)
          · have hin' : l ∈ hs st := of_decide_eq_true z
            obtain ⟨q0, f⟩ : ∃ q0, st.find? (fun q => decide (q.1 = l)) = some q0 := by
              have i := find_in l st
              rw [decide_eq_true hin'] at i
              cases f : st.find? (fun q => decide (q.1 = l)) with
              | none => rw [f] at i; cases i
              | some q0 => exact ⟨q0, rfl⟩
            obtain ⟨j, g1, g2, g3⟩ := find_idx f
            have lt := (List.getElem?_eq_some_iff.mp g1).1
            obtain ⟨yv, gy⟩ : ∃ yv, ys[j]? = some yv := ⟨_, List.getElem?_eq_getElem (show j < ys.length by omega)⟩
            obtain ⟨b', y', rfl, hb', hy'⟩ := (stp_tk A h7 (Same.tk s13') hys7).2 j _ q0 gy g1
            refine ⟨.ref sl, rfl, .ref D, rfl, .inl ⟨rfl, _, .of hD13⟩, .ref pp, rfl, D, .ref pp, eL e l, (hs st).map (eL e), j, eL e q0.1, rfl, rfl, .lst (.of hD13) (al_dps hB13), hL', list_shaped A h7, eL_shaped A l7, ?_, ?_, ?_, ?_⟩
            · unfold hs
              rw [List.getElem?_map, List.getElem?_map, g1]; rfl
            · rw [eL_eqv A (hs_mem h7 q0 (List.mem_of_getElem? g1)) l7, decide_eq_true g2]
            · intro m z' hm hz'
              unfold hs at hz'
              rw [List.getElem?_map, List.getElem?_map] at hz'
              cases gm : st[m]? with
              | none => rw [gm] at hz'; cases hz'
              | some qm =>
                rw [gm] at hz'
                cases hz'
                rw [eL_eqv A (hs_mem h7 qm (List.mem_of_getElem? gm)) l7, decide_eq_false (g3 m qm hm gm)]
            refine .inl ⟨sl, ys, (j : Int), _, rfl, rfl, sqL_same s13' hsl7, atI_nat gy, .inr (.inl ⟨b', _, (1 : Nat), _, rfl, rfl, hb', atI_nat rfl, ?_⟩)⟩
            refine ⟨.ref pp, rfl, .ref o, rfl, o, dx, _, rfl, ho13, o, st, k, .ref pp, l, rfl, hP13, h7, l7, hL', _, rfl, ?_⟩
            refine ⟨.ref o, rfl, .ref pp, rfl, o, st, k, .ref pp, l, rfl, hP13, h7, l7, hL', fun q' f' => ?_, fun hn => absurd hin' hn⟩
            rw [f] at f'
            cases f'
            refine ⟨sm2 (by simp), fun a5 n5 => ?_⟩
            have y1 := same_upd (o := .lst [.bl (decide (l ∈ hs st)), .int (q0.2 : Int)]) n5
            have h5 : (upd H13 a5 (.lst [.bl (decide (l ∈ hs st)), .int (q0.2 : Int)])) a5 = _ := upd_same
            refine ⟨.ref pp, rfl, .ref D, rfl, hinH _ y1 _ ⟨.int (q0.2 : Int), rfl, sm2 (by simp), fun a6 n6 => ?_⟩⟩
            have y2 := same_upd (o := .lst [.bl (decide (l ∈ hs st)), .int (q0.2 : Int)]) n6
            exact ⟨_, _, rfl, b2 (y2 _ _ h5) upd_same (.int _) (.int _) (by show (0 : Nat) ≤ 25; decide) (by show (0 : Nat) ≤ 900000; decide), true, rfl, iteF ⟨_, _, rfl, w3.trans (y1.trans y2)⟩⟩
          · have hin' : l ∉ hs st := of_decide_eq_false z
            refine ⟨.ref pp, rfl, .ref o, rfl, o, dx, _, rfl, ho13, o, st, k, .ref pp, l, rfl, hP13, h7, l7, hL', _, rfl, ?_⟩
            refine ⟨.ref o, rfl, .ref pp, rfl, o, st, k, .ref pp, l, rfl, hP13, h7, l7, hL', fun q' f' => ?_, fun hn pz H14 npz y0 hpz => ?_⟩
            · have i := find_in l st
              rw [f', decide_eq_false hin'] at i
              cases i
            refine ⟨sm2 (by simp), fun a5 n5 => ?_⟩
            have y1 := same_upd (o := .lst [.bl (decide (l ∈ hs st)), .ref pz]) n5
            have h5 : (upd H14 a5 (.lst [.bl (decide (l ∈ hs st)), .ref pz])) a5 = _ := upd_same
            refine ⟨.ref pp, rfl, .ref D, rfl, hinH _ (y0.trans y1) _ ⟨.ref lb, rfl, sm2 (by simp), fun a6 n6 => ?_⟩⟩
            have y2 := same_upd (o := .lst [.bl (decide (l ∈ hs st)), .ref lb]) n6
            have y02 := y0.trans (y1.trans y2)
            have hl2 := hL'.tk A l7 (Same.tk y02)
            have hpz2 := (y1.trans y2) _ _ hpz
            have hlb2 := y02 _ _ hlb
            refine ⟨_, _, rfl, b2 (d := .list [eL e l]) (y2 _ _ h5) upd_same (.lst (.of hpz2) (.cons hl2 .nil)) (.lst (.of hlb2) (.cons hl2 .nil)) ?_ ?_, true, rfl, iteF ⟨_, _, rfl, w3.trans y02⟩⟩
            · have := eL_d A l7
              show max (eL e l).depth 0 + 1 ≤ 25
              omega
            · have := eL_wl A l7
              show 1 + (wl (eL e l) + 0) ≤ 900000
              omega
        · rintro σ' H12 ⟨y7, y8, rfl, w2⟩
          exact ⟨_, _, _, rfl, w1.trans (v13.trans w2)⟩
      · rintro σ' H10 ⟨y6, y7, y8, rfl, w1⟩
        exact q H10 (s017.trans (u13.trans w1))
end
end K15

/-! what stands while one start is asked -/
namespace K15
open PySem PySem.Spec PyProof.Rows L2 RN
theorem run_mem {Pr : Lt → Prop} {rows : List Row} (hr : ∀ r ∈ rows, ∀ l ∈ r.2, Pr l) : ∀ (n : Nat) (st : List Stp), (∀ l ∈ hs st, Pr l) → ∀ l ∈ hs (run n rows st).1, Pr l
  | 0, _, h => h
  | n + 1, st, h => by
    unfold run
    cases hc : chosen rows (hs st) with
    | none => exact h
    | some r =>
      cases hl : left r.2 (hs st) with
      | nil => simpa only [hl] using h
      | cons l ls =>
        simp only [hl]
        refine run_mem hr n _ fun x hx => ?_
        rw [hs_snoc] at hx
        rcases List.mem_append.mp hx with hx | hx
        · exact h x hx
        · rw [List.mem_singleton.mp hx]
          refine hr r (chosen_mem hc).1 l ?_
          have : l ∈ left r.2 (hs st) := by rw [hl]; exact List.mem_cons_self
          exact (List.mem_filter.mp this).1
theorem run_len {rows : List Row} : ∀ (n : Nat) (st : List Stp), (run n rows st).1.length ≤ st.length + n
  | 0, _ => Nat.le_refl _
  | n + 1, st => by
    unfold run
    cases hc : chosen rows (hs st) with
    | none => simp
    | some r =>
      cases hl : left r.2 (hs st) with
      | nil => simp only [hl]; omega
      | cons l ls =>
        simp only [hl]
        have := run_len (rows := rows) n (st ++ [(l, r.1)])
        rw [List.length_append] at this
        simp at this
        omega
theorem srtN_same {l m : List Nat} (h : l.Perm m) : srtN l = srtN m := by
  have T : PySem.W.TotalLe (PySem.W.dataLe false fun n : Nat => PyData.int (n : Int)) := PySem.W.sortLe_total (listOrd itemOrd) false fun b : Nat => PySem.W.keyToks (PyData.int (b : Int))
  refine List.Perm.eq_of_pairwise (le := fun a b => PySem.W.dataLe false (fun n : Nat => PyData.int (n : Int)) a b = true) (fun a b ha hb h1 h2 => ?_) (PySem.W.sort_pairwise T l) (PySem.W.sort_pairwise T m) ((srtN_perm l).trans (h.trans (srtN_perm m).symm))
  have g1 : (!lexLt itemOrd (PySem.W.keyToks (PyData.int (b : Int))) (PySem.W.keyToks (PyData.int (a : Int)))) = true := h1
  have g2 : (!lexLt itemOrd (PySem.W.keyToks (PyData.int (a : Int))) (PySem.W.keyToks (PyData.int (b : Int)))) = true := h2
  have q := toks_eq (show PySem.W.alike (PyData.int (a : Int)) (PyData.int (b : Int)) = true by simp [PySem.W.alike]) (lex_total _ _ (by simpa using g2) (by simpa using g1))
  have q2 : ((a : Int) == (b : Int)) = true := q
  have := beq_iff_eq.mp q2
  omega
theorem rows_sub {rows l : List Row} (nd : (rows.map (·.1)).Nodup) (h : ∀ r ∈ l, r ∈ rows) : rowsOf (Rof rows) (l.map (·.1)) = l := by
  unfold rowsOf
  rw [List.map_map]
  induction l with
  | nil => rfl
  | cons r l ih =>
    rw [List.map_cons, ih fun x hx => h x (List.mem_cons_of_mem _ hx)]
    congr 1
    exact Prod.ext rfl (Rof_mem nd r (h r List.mem_cons_self))
section
variable {P : Program} {w : World} {K : PySem.W.Frag} {mg : Str → Option Value} {base : Heap} {a : Ad} {e : Nat → PyData} {p : Pd}
theorem ck_of {H : Hp} {kvs : List (Key × V)} {rows : List Row} (h : KvIs e K H kvs rows) (nd : (rows.map (·.1)).Nodup) : CkIs e K H kvs (Rof rows) (rows.map (·.1)) := fun n hn => by
  obtain ⟨r, hr, rfl⟩ := List.mem_map.mp hn
  obtain ⟨c0, h1, h2⟩ := kv_find h nd r hr
  exact ⟨c0, h1, by rw [Rof_mem nd r hr]; exact h2⟩
theorem rof_ok {rows : List Row} (h : Rows6 rows) : ∀ n ∈ rows.map (·.1), (Rof rows n).length ≤ 3 ∧ In7 (Rof rows n) := fun n hn => by
  obtain ⟨r, hr, rfl⟩ := List.mem_map.mp hn
  rw [Rof_mem h.2.1 r hr]
  exact ⟨(h.2.2 r hr).2.2.1, (h.2.2 r hr).2.2.2.to7⟩
/-- the start, a list -/
def S0Is (e : Nat → PyData) (K : PySem.W.Frag) (H : Hp) (s0 : Addr) (ls : List Lt) : Prop := ∃ xs, H s0 = some (.lst xs) ∧ R1.Al (Li e K H) xs ls
/-- the due steps -/
def DueIs (e : Nat → PyData) (K : PySem.W.Frag) (H : Hp) (dp : Addr) (r : List Stp × Nat) : Prop := ∃ sl ys, H dp = some (.lst [.ref sl, .int (r.2 : Int)]) ∧ H sl = some (.lst ys) ∧ R1.Al (StpV e K H) ys r.1
def DiIs (e : Nat → PyData) (K : PySem.W.Frag) (H : Hp) (d : Addr) (rows : List Row) : Prop := ∃ kvs, H d = some (.dK kvs) ∧ KvIs e K H kvs rows
theorem S0Is.same (A : AtOk e) {H H' : Hp} {s0 : Addr} {ls : List Lt} (h7 : In7 ls) (s : Same H H') (h : S0Is e K H s0 ls) : S0Is e K H' s0 ls := let ⟨xs, h1, h2⟩ := h; ⟨xs, s _ _ h1, al_tk A h7 (Same.tk s) h2⟩
theorem DueIs.same (A : AtOk e) {H H' : Hp} {dp : Addr} {r : List Stp × Nat} (h7 : In7 (hs r.1)) (s : Same H H') (h : DueIs e K H dp r) : DueIs e K H' dp r := let ⟨sl, ys, h1, h2, h3⟩ := h; ⟨sl, ys, s _ _ h1, s _ _ h2, stp_tk A h7 (Same.tk s) h3⟩
theorem DiIs.same (A : AtOk e) {H H' : Hp} {d : Addr} {rows : List Row} (ok : RsOk rows) (s : Same H H') (h : DiIs e K H d rows) : DiIs e K H' d rows := let ⟨kvs, h1, h2⟩ := h; ⟨kvs, s _ _ h1, h2.tk A ok (Same.tk s)⟩
theorem li_ref {H : Hp} {x : V} {l : Lt} (h : Li e K H x l) : ∃ q, x = .ref q := let ⟨q, _, h, _⟩ := li_split h; ⟨q, h⟩
theorem S0Is.kp (A : AtOk e) {H H' : Hp} {sc st s0 : Addr} {ls : List Lt} (h7 : In7 ls) (S : Sta sc H st) (k : Kp st H H') (h : S0Is e K H s0 ls) : S0Is e K H' s0 ls := by
  obtain ⟨xs, h1, h2⟩ := h
  refine ⟨xs, k _ _ (fun z => ?_) h1, al_tk A h7 (sta_tk S k) h2⟩
  obtain ⟨ns, i, b, s, l, hne, hst, _⟩ := S.ex
  rw [z, hst] at h1
  cases h1
  obtain ⟨_, _, m⟩ := h2.at (i := 1) (x := .int i) rfl
  obtain ⟨q, e1⟩ := li_ref m
  cases e1
theorem DueIs.kp (A : AtOk e) {H H' : Hp} {sc st dp : Addr} {r : List Stp × Nat} (h7 : In7 (hs r.1)) (S : Sta sc H st) (k : Kp st H H') (h : DueIs e K H dp r) : DueIs e K H' dp r := by
  obtain ⟨sl, ys, h1, h2, h3⟩ := h
  obtain ⟨ns, i, b, s, l, hne, hst, _⟩ := S.ex
  refine ⟨sl, ys, k _ _ (fun z => ?_) h1, k _ _ (fun z => ?_) h2, stp_tk A h7 (sta_tk S k) h3⟩
  · rw [z, hst] at h1
    cases h1
  · rw [z, hst] at h2
    cases h2
    obtain ⟨_, _, b1, y1, e1, _⟩ := h3.at (i := 1) (x := .int i) rfl
    cases e1
theorem DiIs.kp (A : AtOk e) {H H' : Hp} {sc st d : Addr} {rows : List Row} (ok : RsOk rows) (S : Sta sc H st) (k : Kp st H H') (h : DiIs e K H d rows) : DiIs e K H' d rows := by
  obtain ⟨kvs, h1, h2⟩ := h
  refine ⟨kvs, k _ _ (fun z => ?_) h1, h2.tk A ok (sta_tk S k)⟩
  obtain ⟨ns, i, b, s, l, hne, hst, _⟩ := S.ex
  rw [z, hst] at h1
  cases h1
/-- the object stays while another list or dict changes -/
theorem pr_but (A : AtOk e) {H H' : Hp} {C o q : Addr} {ob : HO} {st : List Stp} {k : Nat} (h7 : In7 (hs st)) (hq : H q = some ob) (hn : NoTup ob) (h1 : ∀ dx fs, ob ≠ .ins C dx fs) (h2 : ∀ xs, ob ≠ .tup xs) (h3 : ∀ es, ob ≠ dN w q es) (kp : Kp q H H') (h : PrIs e w K H C o st k) : PrIs e w K H' C o st k := by
  obtain ⟨dx, t, lt, ld, g1, g2, ⟨xs, g3, g3'⟩, es, g4, g5⟩ := h
  have tk := kp_tk hq hn kp
  refine ⟨dx, t, lt, ld, kp _ _ (fun z => ?_) g1, st_kp A hq hn kp h7 g2, ⟨xs, kp _ _ (fun z => ?_) g3, al_tk A h7 tk g3'⟩, es, kp _ _ (fun z => ?_) g4, es_tk A tk h7 g5⟩
  · rw [z, hq] at g1; exact h1 _ _ (Option.some.inj g1)
  · rw [z, hq] at g3; exact h2 _ (Option.some.inj g3)
  · rw [z, hq] at g4; exact h3 _ (Option.some.inj g4)
end
end K15


/-! one start is asked -/
namespace K15
open PySem PySem.Spec PyProof.Rows L2 RN
section
variable {P : Program} {w : World} {K : PySem.W.Frag} {mg : Str → Option Value} {base : Heap} {a : Ad} {e : Nat → PyData} {p : Pd}
theorem al_app {R : V → Row → Prop} {xs ys : List V} {rs ss : List Row} (h1 : R1.Al R xs rs) (h2 : R1.Al R ys ss) : R1.Al R (xs ++ ys) (rs ++ ss) := by
  refine ⟨by rw [List.length_append, List.length_append, h1.1, h2.1], fun i x r hx hr => ?_⟩
  by_cases lt : i < xs.length
  · rw [List.getElem?_append_left lt] at hx
    rw [List.getElem?_append_left (by rw [← h1.1]; exact lt)] at hr
    exact h1.2 i x r hx hr
  · rw [List.getElem?_append_right (by omega)] at hx
    rw [List.getElem?_append_right (by rw [← h1.1]; omega), ← h1.1] at hr
    exact h2.2 _ x r hx hr
theorem al_drop {R : V → Row → Prop} {xs : List V} {rs : List Row} (k : Nat) (h : R1.Al R xs rs) : R1.Al R (xs.drop k) (rs.drop k) := by
  refine ⟨by rw [List.length_drop, List.length_drop, h.1], fun i x r hx hr => ?_⟩
  rw [List.getElem?_drop] at hx hr
  exact h.2 _ x r hx hr
theorem al_take {R : V → Row → Prop} {xs : List V} {rs : List Row} (k : Nat) (h : R1.Al R xs rs) : R1.Al R (xs.take k) (rs.take k) := by
  refine ⟨by rw [List.length_take, List.length_take, h.1], fun i x r hx hr => ?_⟩
  have lt : i < k := by
    have := (List.getElem?_eq_some_iff.mp hx).1
    rw [List.length_take] at this
    omega
  rw [List.getElem?_take_of_lt lt] at hx hr
  exact h.2 i x r hx hr
theorem al_rev {R : V → Row → Prop} {xs : List V} {rs : List Row} (h : R1.Al R xs rs) : R1.Al R xs.reverse rs.reverse := by
  refine ⟨by rw [List.length_reverse, List.length_reverse, h.1], fun i x r hx hr => ?_⟩
  have lt : i < xs.length := by
    have := (List.getElem?_eq_some_iff.mp hx).1
    rw [List.length_reverse] at this
    exact this
  rw [List.getElem?_reverse lt] at hx
  rw [List.getElem?_reverse (by rw [← h.1]; exact lt), ← h.1] at hr
  exact h.2 _ x r hx hr
theorem cut_drop {xs : List V} {k : Nat} (h : k ≤ xs.length) : cutV xs (some (k : Int)) none = xs.drop k := by
  unfold cutV
  rw [HT.sIx_nat, HT.sIx_none, Nat.min_eq_left h, List.take_of_length_le (by rw [List.length_drop]; omega)]
theorem cut_take {xs : List V} {k : Nat} (h : k ≤ xs.length) : cutV xs none (some (k : Int)) = xs.take k := by
  unfold cutV
  rw [HT.sIx_nat, HT.sIx_none, Nat.min_eq_left h, List.drop_zero, Nat.sub_zero]
def spAsk (e : Nat → PyData) (K : PySem.W.Frag) : Sp := fun vs H Q _ => ∃ (sc st rl al s0 : Addr) (n : Nat) (rows : List Row) (ls : List Lt), vs = [.ref st, .ref rl, .ref al, .ref s0] ∧ Sta sc H st ∧ RwsIs e K H rl rows ∧ Rows6 rows ∧ AtsIs e K H al n ∧ n ≤ 6 ∧
  S0Is e K H s0 ls ∧ In6 ls ∧ ls.length ≤ 4 ∧ ∀ H', Kp st H H' → Sta sc H' st → Q (.bl true) H'
theorem ok_asked (A : AtOk e) (T : Top K mg a) (G_l_draw : FnOk P w K mg base CX0 1 a.f_l_draw a.d_l_draw ["_law_state_here", "_law_many"] spDraw)
    (G_l_dict : FnOk P w K mg base CX0 1 a.f_l_dict a.d_l_dict ["_law_rows"] (spDict e K)) (G_l_by_label : FnOk P w K mg base CX0 2 a.f_l_by_label a.d_l_by_label ["_law_rows"] (spBy e K))
    (G_l_propagated : FnOk P w K mg base CX0 3 a.f_l_propagated a.d_l_propagated ["_law_rows", "_law_start_here"] (spPg e K))
    (G_propagate : FnOk P w K mg base (CX P w) 5 a.f_propagate a.d_propagate prPs (spProp e w K a.c_Propagation a.c_BadOrder))
    (G_l_is : FnOk P w K mg base CX0 31 a.f_l_is a.d_l_is ["_law_found", "_law_due", "_law_atoms"] (spIs e w K a.c_Propagation)) : FnOk P w K mg base CX0 32 a.f_l_asked a.d_l_asked ["_law_state_here", "_law_rows", "_law_atoms", "_law_start_here"] (spAsk e K) := by
  obtain ⟨_, _, KB2⟩ := kbp2 T
  obtain ⟨_, _, KB2k⟩ := kbp2k T
  refine T.F_l_asked.ok sc_l_asked (fun vs H Q E h => ?_) (fun cdv A' outer s H vs Q E hr h => ?_)
  · obtain ⟨_, _, _, _, _, _, _, _, rfl, _⟩ := h
    rfl
  · obtain ⟨sc, st, rl, al, s0, n, rows, ls, rfl, S0, hrw, r6, hat, hn6, hs0, h6, hl4, q⟩ := h
    have rok := r6.ok
    have nd := r6.2.1
    have h7 := h6.to7
    refine ⟨_, (pss_cons (ps_set (i := 4) sc_l_asked.nd rfl (.inl rfl) (pe_call G_l_dict (hr.mono (by decide)) (by rfl) T.m_l_dict T.F_l_dict.kp T.b_l_dict .nil pass0 (pa_cons (pv 1) pa_nil)))
    (pss_cons (ps_set (i := 5) sc_l_asked.nd rfl (.inl rfl) (pe_call G_l_propagated (hr.mono (by decide)) (by rfl) T.m_l_propagated T.F_l_propagated.kp T.b_l_propagated .nil pass0 (pa_cons (pe_call G_l_by_label (hr.mono (by decide)) (by rfl) T.m_l_by_label T.F_l_by_label.kp T.b_l_by_label .nil pass0 (pa_cons (pv 1) pa_nil)) (pa_cons (pv 3) pa_nil))))
    (pss_cons (ps_set (i := 6) sc_l_asked.nd rfl (.inl rfl) (pe_lst (pa_cons (pe_callTy R1.call_dict_of (by rfl) T.z_dict (by decide +kernel) (pa_cons (pv 4) pa_nil)) (pa_cons (pe_callTy call_list_of (by rfl) T.z_list (by decide +kernel) (pa_cons (pv 3) pa_nil)) pa_nil))))
    (pss_cons (ps_set (i := 7) sc_l_asked.nd rfl (.inl rfl) (pe_callN (ks := []) G_propagate (hr.mono (by decide)) (by rfl) T.m_propagate T.F_propagate.kp KB2 (passes_call takes0 (fun _ _ _ _ h => h)) (pa_cons (pe_ix ix_seq (pv 6) pe_int (fun _ _ => rfl)) (pa_cons (pe_ix ix_seq (pv 6) pe_int (fun _ _ => rfl)) pa_nil)) pk_nil))
    (pss_cons (ps_if (pt_cmpR (RN.op_neDL (u80 hr)) (pv 6) (pe_lst (pa_cons (pv 4) (pa_cons (pv 3) pa_nil))) (nomark _))
      (pss_one (ps_ret pe_bl))
      pss_nil)
    (pss_cons (ps_expr (pe_dclear (pe_ix ix_seq (pv 6) pe_int (fun _ _ => rfl))))
    (pss_cons (ps_expr (pe_bm0 PySem.F.plainAttrs_list PySem.F.slot_list_clear PySem.F.type_list_clear mt_clear (pe_ix ix_seq (pv 6) pe_int (fun _ _ => rfl)) ))
    (pss_cons (ps_if (pt_not (pt_val (pe_call G_l_is (hr.mono (by decide)) (by rfl) T.m_l_is T.F_l_is.kp T.b_l_is .nil pass0 (pa_cons (pv 7) (pa_cons (pv 5) (pa_cons (pv 2) pa_nil))))))
      (pss_one (ps_ret pe_bl))
      pss_nil)
    (pss_cons (ps_set (i := 8) sc_l_asked.nd rfl (.inl rfl) (pe_call G_l_draw (hr.mono (by decide)) (by rfl) T.m_l_draw T.F_l_draw.kp T.b_l_draw .nil pass0 (pa_cons (pv 0) (pa_cons (pe_op (OpR.or op_add (OpR.or op_add_str (OpR.or op_cat op_catT))) (pe_callB (CallR.or call_len_str call_len_seq) (by rfl) T.z_len (by decide +kernel) (pa_cons (pv 1) pa_nil)) pe_int) pa_nil))))
    (pss_cons (ps_set (i := 9) sc_l_asked.nd rfl (.inl rfl) (pe_op (OpR.or op_add (OpR.or op_add_str (OpR.or op_cat op_catT))) (pe_slice (SlR.or sl_str (SlR.or sl_list sl_tup)) (pv 1) (po_some (pv 8)) po_none) (pe_slice (SlR.or sl_str (SlR.or sl_list sl_tup)) (pv 1) po_none (po_some (pv 8)))))
    (C8.pss_cut (ps_if (pt_cmpR (OpR.or op_eq (op_eqD hr.units)) (pe_call G_l_draw (hr.mono (by decide)) (by rfl) T.m_l_draw T.F_l_draw.kp T.b_l_draw .nil pass0 (pa_cons (pv 0) (pa_cons pe_int pa_nil))) pe_int (nomark _))
      (pss_one (ps_set (i := 9) sc_l_asked.nd rfl (.inl rfl) (pe_revL (pv 9))))
      pss_nil)
    (pss_cons (ps_setLc (own := [("_law_row", 13)]) (i := 10) rfl sc_l_asked.nd rfl rfl (sw_true rfl rfl rfl (by decide +kernel)) (R1.PI.or (pi_list (pv 9)) (pi_tup (pv 9))) (blkOk_by (own := [("_law_row", 13)]) (N := ["_law_state_here", "_law_rows", "_law_atoms", "_law_start_here", "_law_clauses_here", "_law_due", "_law_handed", "_law_found", "_law_at", "_law_turned", "_law_labels", "_law_other", "_law_literals", "_law_row", "_law_step"]) (sc := defScope s_l_asked) (by decide +kernel)) (fun _ _ _ _ _ => (pg_name (i := 13) sc_l_asked.nd rfl (.inl rfl))) (fun _ _ _ _ _ => pts_nil) (fun _ _ _ _ _ => (pe_ix (R1.ix_seqK (K := K) rfl) (pv 13) pe_int (fun _ _ => rfl))))
    (pss_cons (ps_set (i := 11) sc_l_asked.nd rfl (.inl rfl) (pe_call G_l_propagated (hr.mono (by decide)) (by rfl) T.m_l_propagated T.F_l_propagated.kp T.b_l_propagated .nil pass0 (pa_cons (pv 9) (pa_cons (pv 3) pa_nil))))
    (pss_cons (ps_if (pt_not (pt_val (pe_call G_l_is (hr.mono (by decide)) (by rfl) T.m_l_is T.F_l_is.kp T.b_l_is .nil pass0 (pa_cons (pe_callN (ks := ["order"]) G_propagate (hr.mono (by decide)) (by rfl) T.m_propagate T.F_propagate.kp KB2k (passes_call takes0 (fun _ _ _ _ h => h)) (pa_cons (pv 4) (pa_cons (pe_callTy call_tuple_of (by rfl) T.z_tuple (by decide +kernel) (pa_cons (pv 3) pa_nil)) pa_nil)) (pk_cons (pe_callTy call_list_of (by rfl) T.z_list (by decide +kernel) (pa_cons (pv 10) pa_nil)) pk_nil)) (pa_cons (pv 11) (pa_cons (pv 2) pa_nil))))))
      (pss_one (ps_ret pe_bl))
      pss_nil)
    (pss_cons (ps_if (pt_not (pt_val (pe_call G_l_is (hr.mono (by decide)) (by rfl) T.m_l_is T.F_l_is.kp T.b_l_is .nil pass0 (pa_cons (pe_callN (ks := ["order"]) G_propagate (hr.mono (by decide)) (by rfl) T.m_propagate T.F_propagate.kp KB2k (passes_call takes0 (fun _ _ _ _ h => h)) (pa_cons (pv 4) (pa_cons (pv 3) pa_nil)) (pk_cons (pe_callTy call_tuple_of (by rfl) T.z_tuple (by decide +kernel) (pa_cons (pv 10) pa_nil)) pk_nil)) (pa_cons (pv 11) (pa_cons (pv 2) pa_nil))))))
      (pss_one (ps_ret pe_bl))
      pss_nil)
    (pss_cons (ps_if (pt_cmpR (OpR.or op_ne (op_neD hr.units)) (pe_cmpR (OpR.or op_eq (op_eqD hr.units)) (pe_ix ix_seq (pv 5) pe_int (fun _ _ => rfl)) pe_int (nomark _)) (pe_cmpR (OpR.or op_eq (op_eqD hr.units)) (pe_ix ix_seq (pv 11) pe_int (fun _ _ => rfl)) pe_int (nomark _)) (nomark _))
      (pss_one (ps_ret pe_bl))
      pss_nil)
    (pss_cons (ps_set (i := 12) sc_l_asked.nd rfl (.inl rfl) (pe_callB (R0.cr_sortD hr.units) (by rfl) T.z_sorted (by decide +kernel) (pa_cons (pe_lc (own := [("_law_step", 14)]) rfl sc_l_asked.nd (R1.PI.or (pi_list (pe_ix ix_seq (pv 5) pe_int (fun _ _ => rfl))) (pi_tup (pe_ix ix_seq (pv 5) pe_int (fun _ _ => rfl)))) (blkOk_by (own := [("_law_step", 14)]) (N := ["_law_state_here", "_law_rows", "_law_atoms", "_law_start_here", "_law_clauses_here", "_law_due", "_law_handed", "_law_found", "_law_at", "_law_turned", "_law_labels", "_law_other", "_law_literals", "_law_row", "_law_step"]) (sc := defScope s_l_asked) (by decide +kernel)) (fun _ _ _ _ _ => (pg_name (i := 14) sc_l_asked.nd rfl (.inl rfl))) (fun _ _ _ _ _ => pts_nil) (fun _ _ _ _ _ => (pe_ix (R1.ix_seqK (K := K) rfl) (pv 14) pe_int (fun _ _ => rfl)))) pa_nil)))
    (pss_one (ps_ret (pe_or (pe_cmpR (OpR.or op_gt op_gt_str) (pe_ix ix_seq (pv 5) pe_int (fun _ _ => rfl)) pe_int (nomark _)) (pe_one (pe_cmpR (OpR.or op_eq (op_eqD hr.units)) (pv 12) (pe_callB (R0.cr_sortD hr.units) (by rfl) T.z_sorted (by decide +kernel) (pa_cons (pe_lc (own := [("_law_step", 14)]) rfl sc_l_asked.nd (R1.PI.or (pi_list (pe_ix ix_seq (pv 11) pe_int (fun _ _ => rfl))) (pi_tup (pe_ix ix_seq (pv 11) pe_int (fun _ _ => rfl)))) (blkOk_by (own := [("_law_step", 14)]) (N := ["_law_state_here", "_law_rows", "_law_atoms", "_law_start_here", "_law_clauses_here", "_law_due", "_law_handed", "_law_found", "_law_at", "_law_turned", "_law_labels", "_law_other", "_law_literals", "_law_row", "_law_step"]) (sc := defScope s_l_asked) (by decide +kernel)) (fun _ _ _ _ _ => (pg_name (i := 14) sc_l_asked.nd rfl (.inl rfl))) (fun _ _ _ _ _ => pts_nil) (fun _ _ _ _ _ => (pe_ix (R1.ix_seqK (K := K) rfl) (pv 14) pe_int (fun _ _ => rfl)))) pa_nil)) (nomark _))))))))))))))))))))))), ?_⟩
    -- the dict, the due
    refine ⟨.ref rl, rfl, rl, rows, rfl, hrw, rok, nd, fun d kvs H1 s1 nd1 hd1 hK1 => ?_⟩
    refine ⟨.ref rl, rfl, rl, rows, rfl, rws_same A rok s1 hrw, rok, nd, fun bp H2 s2 nbp hbp => ?_⟩
    obtain ⟨ks, hks⟩ : ∃ ks, ks = rows.map (·.1) := ⟨_, rfl⟩
    have hR := rof_ok r6
    rw [← hks] at hR hbp
    have kl : ks.length ≤ 6 := by rw [hks, List.length_map]; exact r6.1
    have rokS : RsOk (rowsOf (Rof rows) (srtN ks)) := rows_ok hR kl (srtN_perm ks)
    have s12 := s1.trans s2
    obtain ⟨xs2, hs2, hA2⟩ := hs0.same A h7 s12
    refine ⟨.ref s0, rfl, bp, s0, _, xs2, ls, rfl, hbp, rokS, .inl (.of hs2), hA2, h7, by omega, fun dp sl ys H3 s3 ndp hdp hsl hys => ?_⟩
    obtain ⟨due, hdue⟩ : ∃ due, due = run 100 (rowsOf (Rof rows) (srtN ks)) (st0 ls) := ⟨_, rfl⟩
    rw [← hdue] at hdp hys
    have m6 : ∀ r ∈ rowsOf (Rof rows) (srtN ks), ∀ l ∈ r.2, l.1 < 6 := fun r hr l hl => by
      obtain ⟨n1, hn1, rfl⟩ := List.mem_map.mp hr
      have hn2 := (srtN_perm ks).mem_iff.mp hn1
      rw [hks] at hn2
      obtain ⟨r1, hr1, rfl⟩ := List.mem_map.mp hn2
      have hl' : l ∈ Rof rows r1.1 := hl
      rw [Rof_mem nd r1 hr1] at hl'
      exact (r6.2.2 r1 hr1).2.2.2 l hl'
    have i6 : ∀ l ∈ hs (st0 ls), l.1 < 6 := fun l hl => by rw [hs_st0] at hl; exact h6 l (dd_sub hl)
    have d6 : In6 (hs due.1) := by rw [hdue]; exact run_mem m6 100 _ i6
    have d7 := d6.to7
    have st0l : (st0 ls).length ≤ 4 := by unfold st0; rw [List.length_map]; exact Nat.le_trans (dd_len ls) hl4
    have dlen : due.1.length ≤ 200 := by
      have := run_len (rows := rowsOf (Rof rows) (srtN ks)) 100 (st0 ls)
      rw [← hdue] at this
      omega
    have sm2 : ∀ {n : Nat}, n ≤ 4 → n ≤ sizeLine := fun h => Nat.le_of_lt (small1000 (by omega))
    have s03 := s12.trans s3
    have DD : DiIs e K H3 d rows := ⟨kvs, s3 _ _ (s2 _ _ hd1), hK1.tk A rok (Same.tk (s2.trans s3))⟩
    have SS : S0Is e K H3 s0 ls := hs0.same A h7 s03
    have UU : DueIs e K H3 dp due := ⟨sl, ys, hdp, hsl, hys⟩
    have RR : RwsIs e K H3 rl rows := rws_same A rok s03 hrw
    have AA : AtsIs e K H3 al n := ats_same A (by omega) s03 hat
    have S3 := S0.same s03
    have KS : KsIs kvs ks := by rw [hks]; exact kv_keys hK1
    have KM := kv_mem hK1
    have hd3 : H3 d = some (.dK kvs) := s3 _ _ (s2 _ _ hd1)
    have hK3 : KvIs e K H3 kvs rows := hK1.tk A rok (Same.tk (s2.trans s3))
    obtain ⟨xs, hs3, hA3⟩ := id SS
    clear hdp hsl hys hbp hd1 hK1 hs2 hA2
    -- what is handed
    refine ⟨.ref d, rfl, d, kvs, rfl, hd3, fun d' nd' => ?_⟩
    have t1 := same_upd (o := .dK kvs) nd'
    refine ⟨.ref s0, rfl, s0, xs, rfl, .inl (.of (t1 _ _ hs3)), fun l' nl' => ⟨sm2 (by simp), fun hh nhh => ?_⟩⟩
    have t2 := same_upd (o := .lst xs) nl'
    have t3 := same_upd (o := .lst [.ref d', .ref l']) nhh
    have hd' := t3 _ _ (t2 _ _ (show (upd H3 d' (.dK kvs)) d' = _ from upd_same))
    have hl' := t3 _ _ (show (upd (upd H3 d' (.dK kvs)) l' (.lst xs)) l' = _ from upd_same)
    have hhh : (upd (upd (upd H3 d' (.dK kvs)) l' (.lst xs)) hh (.lst [.ref d', .ref l'])) hh = _ := upd_same
    have t13 := t1.trans (t2.trans t3)
    have nl3 : H3 l' = none := t1.free nl'
    have dl : d' ≠ l' := fun z => by rw [← z, upd_same] at nl'; cases nl'
    have dh : d' ≠ hh := fun z => by
      have z2 := t2 _ _ (show (upd H3 d' (.dK kvs)) d' = _ from upd_same)
      rw [← z, z2] at nhh
      cases nhh
    have lh : l' ≠ hh := fun z => by rw [← z] at nhh; rw [upd_same] at nhh; cases nhh
    generalize upd (upd (upd H3 d' (.dK kvs)) l' (.lst xs)) hh (.lst [.ref d', .ref l']) = H4 at t13 hd' hl' hhh ⊢
    have hA4 := al_tk A h7 (Same.tk t13) hA3
    have hK4 := hK3.tk A rok (Same.tk t13)
    have ck4 := ck_of hK4 nd
    rw [← hks] at ck4
    refine ixv 0 rfl (.of hhh) rfl (ixv 1 rfl (.of hhh) rfl ⟨rfl, rfl, d', l', .non, kvs, ks, Rof rows, xs, ls, rfl, hd', KS, kl, hR, ck4, .inl (.of hl'), hA4, h7, by omega, .inl ⟨rfl, fun o H5 s5 no hP => ?_⟩⟩)
    rw [← hdue] at hP
    have t35 := t13.trans s5
    have hd5 := s5 _ _ hd'
    have hl5 := s5 _ _ hl'
    have hh5 := s5 _ _ hhh
    have hA5 := al_tk A h7 (Same.tk s5) hA4
    -- they are as they were
    refine ⟨.ref hh, rfl, .ref d, rfl, .ref s0, rfl, sm2 (by simp), fun pr npr => ?_⟩
    have t6 := same_upd (o := .lst [.ref d, .ref s0]) npr
    have sh := list_shaped A h7
    have eqs : PyData.eqv (.list (ls.map (eL e))) (.list (ls.map (eL e))) = true := by
      rw [PyData.eqv, list_eqv A h7 h7, decide_eq_true rfl]
    refine ⟨hh, pr, d', d, l', s0, kvs, .list (ls.map (eL e)), rfl, rfl, .of (t6 _ _ hh5), .of upd_same, t6 _ _ hd5, t6 _ _ (t35 _ _ hd3), KM, ?_, ?_, sh, eqs, _, rfl, ?_⟩
    · exact .lst (.of (t6 _ _ hl5)) (al_dps (al_tk A h7 (Same.tk t6) hA5))
    · exact .lst (.of (t6 _ _ (t35 _ _ hs3))) (al_dps (al_tk A h7 (Same.tk (t35.trans t6)) hA3))
    refine iteF ?_
    have t36 := t35.trans t6
    have hd6 := t6 _ _ hd5
    have hl6 := t6 _ _ hl5
    have hh6 := t6 _ _ hh5
    have hP6 := pr_same A d7 t6 hP
    have no3 : H3 o = none := t13.free no
    generalize upd H5 pr (.lst [.ref d, .ref s0]) = H6 at t36 hd6 hl6 hh6 hP6 ⊢
    refine ixv 0 rfl (.of hh6) rfl ⟨.inr (.inr (.inl ⟨rfl, .inl ⟨_, hd6⟩⟩)), d', kvs, rfl, rfl, hd6, ?_⟩
    have k67 : Kp d' H6 (upd H6 d' (.dK [])) := (Kp.refl _ _).put
    have hP7 := pr_but A d7 hd6 True.intro (fun _ _ z => nomatch z) (fun _ z => nomatch z) (fun _ z => nomatch z) k67 hP6
    have hl7 := k67 _ _ (Ne.symm dl) hl6
    have hh7 := k67 _ _ (Ne.symm dh) hh6
    have t37 : Same H3 (upd H6 d' (.dK [])) := K15.Same.mut t36 nd'
    generalize upd H6 d' (.dK []) = H7 at k67 hP7 hl7 hh7 t37 ⊢
    refine ixv 1 rfl (.of hh7) rfl ⟨.inl ⟨rfl, _, .of hl7⟩, l', xs, rfl, rfl, hl7, ?_⟩
    have k78 : Kp l' H7 (upd H7 l' (.lst [])) := (Kp.refl _ _).put
    have hP8 := pr_but A d7 hl7 True.intro (fun _ _ z => nomatch z) (fun _ z => nomatch z) (fun _ z => nomatch z) k78 hP7
    have t38 : Same H3 (upd H7 l' (.lst [])) := K15.Same.mut t37 nl3
    generalize upd H7 l' (.lst []) = H8 at k78 hP8 t38 ⊢
    obtain ⟨sl8, ys8, u1, u2, u3⟩ := UU.same A d7 t38
    refine ⟨.ref o, rfl, .ref dp, rfl, .ref al, rfl, o, dp, sl8, al, due.1, due.2, n, ys8, rfl, hP8, .of u1, .of u2, u3, d7, dlen, ats_same A (by omega) t38 AA, hn6, fun H9 t9 => ⟨true, rfl, iteF ?_⟩⟩
    have t39 := t38.trans t9
    have S9 := S3.same t39
    have hrw9 := rws_same A rok t39 RR
    obtain ⟨rv, hrv, hAr⟩ := id hrw9
    have lr : rv.length = rows.length := hAr.1
    have rl6 := r6.1
    -- an order
    refine ⟨.ref st, rfl, .ref rl, rfl, .inr ⟨rl, rv, rfl, .inl hrv, .inl ⟨_, 1, rfl, rfl, sc, st, _, rfl, S9, by omega, by omega, fun H10 v k10 S10 v0 v1 => ?_⟩⟩⟩
    obtain ⟨at0, rfl⟩ : ∃ v' : Nat, v = v' := ⟨v.toNat, by omega⟩
    have hv : at0 ≤ rv.length := by omega
    have hrw10 := rws_kp A rok S9 k10 hrw9
    have hrv10 : SqL K H10 rl rv := sqL_kp S9 k10 (fun i z => by
      obtain ⟨r, _, b1, c1, e1, _⟩ := hAr.at z
      cases e1) hrv
    have hAr10 := rwal_kp A rok S9 k10 hAr
    refine ⟨.ref rl, rfl, .int (at0 : Int), rfl, _, rfl, .inr (.inl ⟨rl, rv, rfl, hrv10, fun p1 np1 => ?_⟩)⟩
    rw [cut_drop hv]
    have q1 := same_upd (o := .lst (rv.drop at0)) np1
    refine ⟨.ref rl, rfl, .int (at0 : Int), rfl, _, rfl, .inr (.inl ⟨rl, rv, rfl, sqL_same q1 hrv10, fun p2 np2 => ?_⟩)⟩
    rw [cut_take hv]
    have q2 := same_upd (o := .lst (rv.take at0)) np2
    have hp1 := q2 _ _ (show (upd H10 p1 (.lst (rv.drop at0))) p1 = _ from upd_same)
    have hp2 : (upd (upd H10 p1 (.lst (rv.drop at0))) p2 (.lst (rv.take at0))) p2 = _ := upd_same
    refine .inr (.inr (.inl ⟨p1, p2, _, _, rfl, rfl, hp1, hp2, Nat.le_of_lt (small1000 (by rw [List.length_drop, List.length_take]; omega)), fun tp ntp => ?_⟩))
    have q3 := same_upd (o := .lst (rv.drop at0 ++ rv.take at0)) ntp
    have htp : (upd (upd (upd H10 p1 (.lst (rv.drop at0))) p2 (.lst (rv.take at0))) tp (.lst (rv.drop at0 ++ rv.take at0))) tp = _ := upd_same
    have q13 := q1.trans (q2.trans q3)
    have hT11 : R1.Al (RwIs e K (upd (upd (upd H10 p1 (.lst (rv.drop at0))) p2 (.lst (rv.take at0))) tp (.lst (rv.drop at0 ++ rv.take at0)))) (rv.drop at0 ++ rv.take at0) (rows.drop at0 ++ rows.take at0) :=
      al_app (al_drop at0 ⟨hAr10.1, fun i x r a b => (hAr10.2 i x r a b).same A (rok.2 r (List.mem_of_getElem? b)).2 q13⟩) (al_take at0 ⟨hAr10.1, fun i x r a b => (hAr10.2 i x r a b).same A (rok.2 r (List.mem_of_getElem? b)).2 q13⟩)
    have pm : (rows.drop at0 ++ rows.take at0).Perm rows := by
      refine List.perm_append_comm.trans ?_
      rw [List.take_append_drop]
    have lt0 : (rv.drop at0 ++ rv.take at0).length ≤ 12 := by rw [List.length_append, List.length_drop, List.length_take]; omega
    generalize upd (upd (upd H10 p1 (.lst (rv.drop at0))) p2 (.lst (rv.take at0))) tp (.lst (rv.drop at0 ++ rv.take at0)) = H11 at q13 htp hT11 ⊢
    have k911 := k10.same q13
    have S11 := S10.same q13
    have k3a : Kp st H3 H11 := (Same.kp t39).trans k911
    generalize rv.drop at0 ++ rv.take at0 = tv at htp hT11 lt0
    generalize rows.drop at0 ++ rows.take at0 = rows1 at hT11 pm
    refine ⟨fun σ' H' => ∃ tp tv rows', σ' = [some (.ref st), some (.ref rl), some (.ref al), some (.ref s0), some (.ref d), some (.ref dp), some (.ref hh), some (.ref o), some (.int (at0 : Int)), some (.ref tp), none, none, none, none, none] ∧ Kp st H3 H' ∧ Sta sc H' st ∧ H' tp = some (.lst tv) ∧ R1.Al (RwIs e K H') tv rows' ∧ rows'.Perm rows, ?_, ?_⟩
    · refine ⟨.ref st, rfl, sc, st, 2, rfl, S11, by decide, by decide, fun H12 v k12 S12 v0 v1 => ?_⟩
      have rok1 : RsOk rows1 := ⟨by rw [pm.length_eq]; omega, fun r hr => rok.2 r (pm.mem_iff.mp hr)⟩
      have tst : tp ≠ st := fun z => by
        obtain ⟨ns, i, b, s, l, hne, hst, _⟩ := S11.ex
        rw [z, hst] at htp
        cases htp
        obtain ⟨r, _, b1, c1, e1, _⟩ := hT11.at (i := 1) (x := .int i) rfl
        cases e1
      have htp12 := k12 _ _ tst htp
      have hT12 := rwal_kp A rok1 S11 k12 hT11
      have k3b := k3a.trans k12
      refine eqi (ite2 (fun _ => ?_) (fun _ => ?_))
      · refine ⟨.ref tp, rfl, tp, tv, rfl, .of htp12, fun tq ntq => ?_⟩
        have x1 := same_upd (o := .lst tv.reverse) ntq
        exact ⟨tq, tv.reverse, rows1.reverse, rfl, k3b.same x1, S12.same x1, upd_same, al_rev ⟨hT12.1, fun i x r a b => (hT12.2 i x r a b).same A (rok1.2 r (List.mem_of_getElem? b)).2 x1⟩, (List.reverse_perm rows1).trans pm⟩
      · exact ⟨tp, tv, rows1, rfl, k3b, S12, htp12, hT12, pm⟩
    · rintro σ' H12 ⟨tp, tv, rows', rfl, k12, S12, htp, hT, pm⟩
      have rok' : RsOk rows' := ⟨by rw [pm.length_eq]; exact rok.1, fun r hr => rok.2 r (pm.mem_iff.mp hr)⟩
      have lt' : tv.length ≤ 6 := by rw [hT.1, pm.length_eq]; exact r6.1
      obtain ⟨ns, hns⟩ : ∃ ns, ns = rows'.map (·.1) := ⟨_, rfl⟩
      have nsl : ns.length ≤ 6 := by rw [hns, List.length_map, pm.length_eq]; exact r6.1
      have nspm : ns.Perm ks := by rw [hns, hks]; exact pm.map _
      have nsS : srtN ns = srtN ks := srtN_same nspm
      have rns : rowsOf (Rof rows) ns = rows' := by rw [hns]; exact rows_sub nd fun r hr => pm.mem_iff.mp hr
      have DD12 := DD.kp A rok S3 k12
      have SS12 := SS.kp A h7 S3 k12
      have UU12 := UU.kp A d7 S3 k12
      have AA12 : AtsIs e K H12 al n := ats_kp A (by omega) S3 k12 AA
      obtain ⟨kvs', hd12, hK12⟩ := id DD12
      obtain rfl : kvs' = kvs := by
        have := k12 _ _ (fun z => by
          obtain ⟨ns, i, b, s, l, hne, hst, _⟩ := S3.ex
          rw [z, hst] at hd3
          cases hd3) hd3
        rw [hd12] at this
        cases this
        rfl
      -- the labels
      refine .inl ⟨.ref tp, rfl, tp, rfl, ⟨_, .of htp⟩, fun D nD => R1.walk_it (walk_list (xs := tv)) (fun u H' => Same H12 H' ∧ H' D = some (.lst (ivN (ns.take u)))) ⟨same_upd nD, upd_same⟩ (fun u H2 _ h => .of (h.1 _ _ htp)) ?_ ?_⟩
      · rintro u x _ H13 hu ⟨s2, hD⟩ ⟨rfl, hx⟩
        obtain ⟨r, hr2, b, c0, rfl, hb, _⟩ := hT.at hx
        have et : ns.take (u + 1) = ns.take u ++ [r.1] := by rw [List.take_add_one, hns, List.getElem?_map, hr2]; rfl
        refine ⟨rfl, .ref b, rfl, .inl ⟨b, _, (0 : Nat), .int (r.1 : Int), rfl, rfl, .of (s2 _ _ hb), atI_nat rfl, _, hD, ?_, K15.Same.mut s2 nD, ?_⟩⟩
        · unfold ivN
          rw [List.length_map, List.length_take]
          exact small1000 (by omega)
        · rw [upd_same, et]
          unfold ivN
          rw [List.map_append]; rfl
      rintro H13 ⟨s13, hD⟩
      have e1 : ns.take tv.length = ns := by
        have : tv.length = ns.length := by rw [hns, List.length_map, hT.1]
        rw [this, List.take_length]
      rw [e1] at hD
      -- what is due in this order
      obtain ⟨xs13, hs13, hA13⟩ := SS12.same A h7 s13
      refine ⟨.ref tp, rfl, .ref s0, rfl, tp, s0, rows', xs13, ls, rfl, rws_same A rok' s13 ⟨tv, .of htp, hT⟩, rok', .inl (.of hs13), hA13, h7, by omega, fun dp2 sl2 ys2 H14 s14 ndp2 hdp2 hsl2 hys2 => ?_⟩
      obtain ⟨oth, hoth⟩ : ∃ oth, oth = run 100 rows' (st0 ls) := ⟨_, rfl⟩
      rw [← hoth] at hdp2 hys2
      have m6' : ∀ r ∈ rows', ∀ l ∈ r.2, l.1 < 6 := fun r hr => (r6.2.2 r (pm.mem_iff.mp hr)).2.2.2
      have o6 : In6 (hs oth.1) := by rw [hoth]; exact run_mem m6' 100 _ i6
      have o7 := o6.to7
      have olen : oth.1.length ≤ 200 := by
        have := run_len (rows := rows') 100 (st0 ls)
        rw [← hoth] at this
        omega
      have s124 := s13.trans s14
      have OO : DueIs e K H14 dp2 oth := ⟨sl2, ys2, hdp2, hsl2, hys2⟩
      have SS14 := SS12.same A h7 s124
      have hd14 := s124 _ _ hd12
      have hK14 := hK12.tk A rok (Same.tk s124)
      have hD14 := s14 _ _ hD
      have UU14 := UU12.same A d7 s124
      have AA14 : AtsIs e K H14 al n := ats_same A (by omega) s124 AA12
      have S14 := S12.same s124
      have k14 := k12.same s124
      clear hdp2 hsl2 hys2 hs13 hA13
      -- asked with a tuple and a list
      have askP : ∀ (H15 : Hp), Same H14 H15 → ∀ (tt lq : Addr), SqI K H15 tt (SS14.choose) → SqI K H15 lq (ivN ns) → ∀ (Q5 : VK) (E5 : XK), (∀ o' H16, Same H15 H16 → PrIs e w K H16 a.c_Propagation o' oth.1 oth.2 → Q5 (.ref o') H16) → spProp e w K a.c_Propagation a.c_BadOrder [.ref d, .ref tt, .ref lq] H15 Q5 E5 := by
        intro H15 s15 tt lq htt hlq Q5 E5 cont
        have cx := SS14.choose_spec.2
        refine ⟨d, tt, .ref lq, _, ks, Rof rows, SS14.choose, ls, rfl, s15 _ _ hd14, KS, kl, hR, ?_, htt, al_tk A h7 (Same.tk s15) cx, h7, by omega, .inr ⟨lq, ns, rfl, hlq, by omega, fun _ o' H' s no hP => ?_, fun ne => absurd nsS ne⟩⟩
        · have := ck_of (hK14.tk A rok (Same.tk s15)) nd
          rw [← hks] at this
          exact this
        · rw [rns, ← hoth] at hP
          exact cont o' H' s hP
      have askI : ∀ (H15 : Hp) (o' : Addr) (Q5 : VK) (E5 : XK), Same H14 H15 → PrIs e w K H15 a.c_Propagation o' oth.1 oth.2 → (∀ H', Same H15 H' → Q5 (.bl true) H') → spIs e w K a.c_Propagation [.ref o', .ref dp2, .ref al] H15 Q5 E5 := by
        intro H15 o' Q5 E5 s15 hP cont
        obtain ⟨sl3, ys3, u1, u2, u3⟩ := OO.same A o7 s15
        exact ⟨o', dp2, sl3, al, oth.1, oth.2, n, ys3, rfl, hP, .of u1, .of u2, u3, o7, olen, ats_same A (by omega) s15 AA14, hn6, cont⟩
      have hxs14 := SS14.choose_spec.1
      refine ⟨.ref d, rfl, .ref s0, rfl, s0, _, rfl, .inl ⟨.of hxs14, fun tt ntt => ⟨.ref D, rfl, D, _, rfl, .inl (.of ((same_upd ntt) _ _ hD14)), fun lq nlq => ⟨rfl, rfl, ?_⟩⟩⟩⟩
      have z1 := same_upd (o := .tup SS14.choose) ntt
      have z2 := same_upd (o := .lst (ivN ns)) nlq
      refine askP _ (z1.trans z2) tt lq (.inr (.of (z2 _ _ upd_same))) (.inl (.of upd_same)) _ _ fun o' H16 z3 hP16 => ?_
      have z13 := z1.trans (z2.trans z3)
      refine ⟨.ref dp2, rfl, .ref al, rfl, ?_⟩
      dsimp only [tNil, List.cons_append, List.nil_append]
      refine askI _ _ _ _ z13 hP16 fun H17 z4 => ⟨true, rfl, iteF ?_⟩
      have z14 := z13.trans z4
      refine ⟨.ref d, rfl, .ref s0, rfl, .ref D, rfl, D, _, rfl, .inl ⟨.of (z14 _ _ hD14), fun tq ntq => ⟨rfl, rfl, ?_⟩⟩⟩
      have z5 := z14.trans (same_upd (o := .tup (ivN ns)) ntq)
      refine askP _ z5 s0 tq (.inl (.of (z5 _ _ hxs14))) (.inr (.of upd_same)) _ _ fun o2 H18 z6 hP18 => ?_
      have z16 := z5.trans z6
      refine ⟨.ref dp2, rfl, .ref al, rfl, ?_⟩
      dsimp only [tNil, List.cons_append, List.nil_append]
      refine askI _ _ _ _ z16 hP18 fun H19 z7 => ⟨true, rfl, iteF ?_⟩
      have z17 := z16.trans z7
      have UU19 := UU14.same A d7 z17
      have OO19 := OO.same A o7 z17
      have S19 := S14.same z17
      have k19 := k14.same z17
      obtain ⟨slD, ysD, e1, e2, e3⟩ := UU19
      obtain ⟨slO, ysO, f1, f2, f3⟩ := OO19
      have hm : ∀ r, r ∈ rowsOf (Rof rows) (srtN ks) ↔ r ∈ rows' := fun r => by
        rw [← rns]
        exact (((srtN_perm ks).trans nspm.symm).map _).mem_iff
      have hp' : ∀ r ∈ rows', 0 < r.1 := fun r hr => by have := (r6.2.2 r (pm.mem_iff.mp hr)).1; omega
      have hp : ∀ r ∈ rowsOf (Rof rows) (srtN ks), 0 < r.1 := fun r hr => hp' r ((hm r).mp hr)
      have pA : pot (rowsOf (Rof rows) (srtN ks)) (st0 ls) < 100 := by have := pot_le hR kl (srtN_perm ks) (st0 ls); omega
      have pB : pot rows' (st0 ls) < 100 := by have := pot_le hR kl nspm (st0 ls); rw [rns] at this; omega
      have eA1 := same_end hm hp pA pB
      have eB1 := same_end (fun r => (hm r).symm) hp' pB pA
      rw [← hdue, ← hoth] at eA1 eB1
      have hz : decide (V.int (due.2 : Int) = V.int 0) = decide (V.int (oth.2 : Int) = V.int 0) := by
        rw [Bool.eq_iff_iff, decide_eq_true_eq, decide_eq_true_eq]
        refine ⟨fun z => ?_, fun z => ?_⟩
        · have z1 : (due.2 : Int) = 0 := V.int.inj z
          rw [(eA1 (by omega)).1]; rfl
        · have z1 : (oth.2 : Int) = 0 := V.int.inj z
          rw [(eB1 (by omega)).1]; rfl
      have nd0 : (hs (st0 ls)).Nodup := by rw [hs_st0]; exact dd_nodup ls
      have ndD : (hs due.1).Nodup := by rw [hdue]; exact hs_nodup 100 _ nd0
      have ndO : (hs oth.1).Nodup := by rw [hoth]; exact hs_nodup 100 _ nd0
      refine ixv 1 rfl (.of e1) rfl (.inl ⟨rfl, ixv 1 rfl (.of f1) rfl (.inl ⟨rfl, .inl ⟨rfl, _, rfl, ?_⟩⟩)⟩)
      rw [hz]
      refine ite2 (fun z => absurd z (by simp)) (fun _ => ?_)
      -- the held literals
      refine .inl (ixv 0 rfl (.of e1) rfl ⟨slD, rfl, ⟨_, .of e2⟩, fun D2 nD2 => R1.walk_it (walk_list (xs := ysD)) (fun u H1 => Same H19 H1 ∧ ∃ acc, H1 D2 = some (.lst acc) ∧ R1.Al (Li e K H1) acc ((hs due.1).take u)) ⟨same_upd nD2, [], upd_same, R1.Al.nil⟩ (fun u H1 _ h => .of (h.1 _ _ e2)) ?_ ?_⟩)
      · rintro u x _ H1 hu ⟨s1, acc, hD, hB⟩ ⟨rfl, hx⟩
        obtain ⟨q1, g1, b, y, rfl, hb, hy⟩ := e3.at hx
        have et : (hs due.1).take (u + 1) = (hs due.1).take u ++ [q1.1] := by
          rw [List.take_add_one]
          unfold hs
          rw [List.getElem?_map, g1]
          rfl
        have la : acc.length ≤ 1000 := by
          have := hB.1
          rw [List.length_take] at this
          unfold hs at this
          rw [List.length_map] at this
          omega
        have l7 : q1.1.1 < 7 := hs_mem d7 q1 (List.mem_of_getElem? g1)
        refine ⟨rfl, .ref b, rfl, .inr (.inl ⟨b, _, (0 : Nat), y, rfl, rfl, sqT_tk (Same.tk s1) hb, atI_nat rfl, _, hD, small1000 la, K15.Same.mut s1 nD2, _, upd_same, ?_⟩)⟩
        have tD : Tk H1 (upd H1 D2 (.lst (acc ++ [y]))) := tk_upd hD True.intro
        rw [et]
        exact R1.Al.snoc (al_tk A (fun m hm => d7 m (List.mem_of_mem_take hm)) tD hB) ((hy.tk A l7 (Same.tk s1)).tk A l7 tD)
      rintro H20 ⟨s20, acc, hD20, hB20⟩
      have lh : ysD.length = (hs due.1).length := by unfold hs; rw [List.length_map, e3.1]
      rw [lh, List.take_length] at hB20
      obtain ⟨g1, g2, g3⟩ := sort_ok A d6
      dsimp only [tNil]
      refine ⟨D2, acc, (hs due.1).map (eL e), rfl, .of hD20, al_dps hB20, g1, g2, g3, fun lq nlq => ?_⟩
      have hs20 : R1.Al (Li e K H20) (R0.sortV acc ((hs due.1).map (eL e))) (srt e (hs due.1)) := R1.sort_al (eL e) hB20
      have i7 : In7 (srt e (hs due.1)) := fun l hl => d7 l ((srt_perm _).mem_iff.mp hl)
      have s21 := s20.trans (same_upd (o := .lst (R0.sortV acc ((hs due.1).map (eL e)))) nlq)
      have hq21 : (upd H20 lq (.lst (R0.sortV acc ((hs due.1).map (eL e))))) lq = _ := upd_same
      have hs21 := al_tk A i7 (Same.tk (same_upd (o := .lst (R0.sortV acc ((hs due.1).map (eL e)))) nlq)) hs20
      generalize upd H20 lq (.lst (R0.sortV acc ((hs due.1).map (eL e)))) = H21 at s21 hq21 hs21 ⊢
      refine ixv 1 rfl (.of (s21 _ _ e1)) rfl (.inl ⟨_, 0, rfl, rfl, _, rfl, ite2 (fun z => ?_) (fun z => ?_)⟩)
      · exact q H21 ((Same.kp s03).trans (k19.same s21)) (S19.same s21)
      have dz : due.2 = 0 := by
        have : ¬ (0 : Int) < (due.2 : Int) := of_decide_eq_false (Bool.eq_false_iff.mpr z)
        omega
      have sameL : srt e (hs due.1) = srt e (hs oth.1) := srt_same A d6 ((List.perm_ext_iff_of_nodup ndD ndO).mpr (eA1 dz).2)
      have f3' := stp_tk A o7 (Same.tk s21) f3
      refine ⟨.ref lq, rfl, .inl (ixv 0 rfl (.of (s21 _ _ f1)) rfl ⟨slO, rfl, ⟨_, .of (s21 _ _ f2)⟩, fun D3 nD3 => R1.walk_it (walk_list (xs := ysO)) (fun u H1 => Same H21 H1 ∧ ∃ acc, H1 D3 = some (.lst acc) ∧ R1.Al (Li e K H1) acc ((hs oth.1).take u)) ⟨same_upd nD3, [], upd_same, R1.Al.nil⟩ (fun u H1 _ h => .of (h.1 _ _ (s21 _ _ f2))) ?_ ?_⟩)⟩
      · rintro u x _ H1 hu ⟨s1, acc, hD, hB⟩ ⟨rfl, hx⟩
        obtain ⟨q1, g1, b, y, rfl, hb, hy⟩ := f3'.at hx
        have et : (hs oth.1).take (u + 1) = (hs oth.1).take u ++ [q1.1] := by
          rw [List.take_add_one]
          unfold hs
          rw [List.getElem?_map, g1]
          rfl
        have la : acc.length ≤ 1000 := by
          have := hB.1
          rw [List.length_take] at this
          unfold hs at this
          rw [List.length_map] at this
          omega
        have l7 : q1.1.1 < 7 := hs_mem o7 q1 (List.mem_of_getElem? g1)
        refine ⟨rfl, .ref b, rfl, .inr (.inl ⟨b, _, (0 : Nat), y, rfl, rfl, sqT_tk (Same.tk s1) hb, atI_nat rfl, _, hD, small1000 la, K15.Same.mut s1 nD3, _, upd_same, ?_⟩)⟩
        have tD : Tk H1 (upd H1 D3 (.lst (acc ++ [y]))) := tk_upd hD True.intro
        rw [et]
        exact R1.Al.snoc (al_tk A (fun m hm => o7 m (List.mem_of_mem_take hm)) tD hB) ((hy.tk A l7 (Same.tk s1)).tk A l7 tD)
      rintro H22 ⟨s22, acc2, hD22, hB22⟩
      have lh2 : ysO.length = (hs oth.1).length := by unfold hs; rw [List.length_map, f3'.1]
      rw [lh2, List.take_length] at hB22
      obtain ⟨g1, g2, g3⟩ := sort_ok A o6
      dsimp only [tNil]
      refine ⟨D3, acc2, (hs oth.1).map (eL e), rfl, .of hD22, al_dps hB22, g1, g2, g3, fun lr nlr => ?_⟩
      have hs22 : R1.Al (Li e K H22) (R0.sortV acc2 ((hs oth.1).map (eL e))) (srt e (hs oth.1)) := R1.sort_al (eL e) hB22
      have i7o : In7 (srt e (hs oth.1)) := fun l hl => o7 l ((srt_perm _).mem_iff.mp hl)
      have s23 := s22.trans (same_upd (o := .lst (R0.sortV acc2 ((hs oth.1).map (eL e)))) nlr)
      have hq23 : (upd H22 lr (.lst (R0.sortV acc2 ((hs oth.1).map (eL e))))) lr = _ := upd_same
      have hs23 := al_tk A i7o (Same.tk (same_upd (o := .lst (R0.sortV acc2 ((hs oth.1).map (eL e)))) nlr)) hs22
      generalize upd H22 lr (.lst (R0.sortV acc2 ((hs oth.1).map (eL e)))) = H23 at s23 hq23 hs23 ⊢
      refine .inr ⟨.list ((srt e (hs due.1)).map (eL e)), .list ((srt e (hs oth.1)).map (eL e)), .lst (.of (s23 _ _ hq21)) (al_dps (al_tk A i7 (Same.tk s23) hs21)), .lst (.of hq23) (al_dps hs23), list_shaped A i7, list_shaped A i7o, ?_⟩
      rw [PyData.eqv, list_eqv A i7 i7o, decide_eq_true sameL]
      exact q H23 ((Same.kp s03).trans (k19.same (s21.trans s23))) (S19.same (s21.trans s23))
end
end K15


/-! the law -/
namespace K15
open PySem PySem.Spec PyProof.Rows L2 RN
section
variable {P : Program} {w : World} {K : PySem.W.Frag} {mg : Str → Option Value} {base : Heap} {a : Ad} {p : Pd} {fI fJ : Addr} {dI dJ : FuncData}
theorem cut_take1 (xs : List V) : cutV xs none (some (1 : Int)) = xs.take 1 := by
  cases xs with
  | nil => rfl
  | cons x xs =>
    have h := cut_take (xs := x :: xs) (k := 1) (by simp)
    exact h
theorem cut_drop1 (xs : List V) : cutV xs (some (1 : Int)) none = xs.drop 1 := by
  cases xs with
  | nil => rfl
  | cons x xs =>
    have h := cut_drop (xs := x :: xs) (k := 1) (by simp)
    exact h
theorem iv_app (a b : List Nat) : ivN a ++ ivN b = ivN (a ++ b) := by unfold ivN; rw [List.map_append]
theorem iv_take (k : Nat) (a : List Nat) : (ivN a).take k = ivN (a.take k) := by unfold ivN; rw [List.map_take]
theorem iv_drop (k : Nat) (a : List Nat) : (ivN a).drop k = ivN (a.drop k) := by unfold ivN; rw [List.map_drop]
theorem iv_len (a : List Nat) : (ivN a).length = a.length := by unfold ivN; rw [List.length_map]
def spLaw (K : PySem.W.Frag) : Sp := fun vs H Q _ => ∃ (p : Addr) (ns : List Int), vs = [.ref p] ∧ SqL K H p (ns.map V.int) ∧ ∀ H', Q (.bl true) H'
theorem ok_law (T : Top K mg a) (B : PrC K a.c_Propagation p) (EL : ErX K a.c_BadLiteral a.c_LookerError a.c_BadOrder fI dI "BadLiteral.__init__" initL) (EO : ErX K a.c_BadOrder a.c_LookerError a.c_BadLiteral fJ dJ "BadOrder.__init__" initO) : FnOk P w K mg base CX0 33 a.f_law a.d_law ["_law_script"] (spLaw K) := by
  obtain ⟨_, _, KB1⟩ := kbp1 T
  have G_is_int := ok_is_int (P := P) (w := w) (base := base) T
  have G_l_state := ok_state (P := P) (w := w) (base := base) T
  have G_l_draw := ok_draw (P := P) (w := w) (base := base) T
  have G_l_alike := ok_alike (P := P) (w := w) (base := base) T 30
  have G_l_atom_row := ok_atoms (P := P) (w := w) (base := base) T G_l_draw
  have g_clauses := fun e (A : AtOk e) => ok_clauses (P := P) (w := w) (base := base) A T G_l_draw (ok_clause A T G_l_draw)
  have g_start := fun e (A : AtOk e) => ok_start (P := P) (w := w) (base := base) A T G_l_draw
  have g_dict := fun e (A : AtOk e) => ok_dict (P := P) (w := w) (base := base) A T
  have g_by := fun e (A : AtOk e) => ok_by (P := P) (w := w) (base := base) A T (g_dict e A)
  have g_pg := fun e (A : AtOk e) => ok_pg (P := P) (w := w) (base := base) A T (ok_left A T (ok_not A T))
  have g_prop := fun e (A : AtOk e) => ok_prop (P := P) (w := w) (base := base) A T B EO G_is_int (ok_next A T (ok_und A T (ok_neg A T)))
  have g_is := fun e (A : AtOk e) => ok_is (P := P) (w := w) (base := base) A T B G_l_alike (ok_item A T B EL)
  have g_asked := fun e (A : AtOk e) => ok_asked (P := P) (w := w) (base := base) A T G_l_draw (g_dict e A) (g_by e A) (g_pg e A) (g_prop e A) (g_is e A)
  have g_ref := fun e (A : AtOk e) => ok_refused (P := P) (w := w) (base := base) T EO (g_prop e A)
  have G_l_clauses := FnOk.ex (G := AtOk) g_clauses
  have G_l_start := FnOk.ex (G := AtOk) g_start
  have G_l_dict := FnOk.ex (G := AtOk) g_dict
  have G_l_by_label := FnOk.ex (G := AtOk) g_by
  have G_l_propagated := FnOk.ex (G := AtOk) g_pg
  have G_propagate := FnOk.ex (G := AtOk) g_prop
  have G_l_is := FnOk.ex (G := AtOk) g_is
  have G_l_asked := FnOk.ex (G := AtOk) g_asked
  have G_l_refused := FnOk.ex (G := AtOk) g_ref
  refine T.F_law.ok sc_law (fun vs H Q E h => ?_) (fun cdv A' outer s H vs Q E hr h => ?_)
  · obtain ⟨_, _, rfl, _⟩ := h
    rfl
  · obtain ⟨p0, ns0, rfl, hS, q⟩ := h
    refine ⟨_, (pss_cons (ps_set (i := 1) sc_law.nd rfl (.inl rfl) (pe_call G_l_state (hr.mono (by decide)) (by rfl) T.m_l_state T.F_l_state.kp T.b_l_state .nil pass0 (pa_cons (pv 0) pa_nil)))
    (pss_cons (ps_set (i := 2) sc_law.nd rfl (.inl rfl) (pe_call G_l_atom_row (hr.mono (by decide)) (by rfl) T.m_l_atom_row T.F_l_atom_row.kp T.b_l_atom_row .nil pass0 (pa_cons (pv 1) (pa_cons (pe_op (OpR.or op_add (OpR.or op_add_str (OpR.or op_cat op_catT))) pe_int (pe_call G_l_draw (hr.mono (by decide)) (by rfl) T.m_l_draw T.F_l_draw.kp T.b_l_draw .nil pass0 (pa_cons (pv 1) (pa_cons pe_int pa_nil)))) pa_nil))))
    (pss_cons (ps_set (i := 3) sc_law.nd rfl (.inl rfl) (pe_call G_l_clauses (hr.mono (by decide)) (by rfl) T.m_l_clauses T.F_l_clauses.kp T.b_l_clauses .nil pass0 (pa_cons (pv 1) (pa_cons (pv 2) (pa_cons pe_int (pa_cons pe_int pa_nil))))))
    (pss_cons (ps_set (i := 4) sc_law.nd rfl (.inl rfl) (pe_call G_l_start (hr.mono (by decide)) (by rfl) T.m_l_start T.F_l_start.kp T.b_l_start .nil pass0 (pa_cons (pv 1) (pa_cons (pv 2) pa_nil))))
    (pss_cons (ps_set (i := 5) sc_law.nd rfl (.inl rfl) (pe_call G_l_start (hr.mono (by decide)) (by rfl) T.m_l_start T.F_l_start.kp T.b_l_start .nil pass0 (pa_cons (pv 1) (pa_cons (pv 2) pa_nil))))
    (pss_cons (ps_for PassesOwn.never rfl (pi_tup (pe_tup (pa_cons (pv 4) (pa_cons (pv 5) (pa_cons (pe_lst pa_nil) (pa_cons (pv 4) pa_nil)))))) (pg_name (i := 6) sc_law.nd rfl (.inl rfl))
      (pss_one (ps_if (pt_not (pt_val (pe_call G_l_asked (hr.mono (by decide)) (by rfl) T.m_l_asked T.F_l_asked.kp T.b_l_asked .nil pass0 (pa_cons (pv 1) (pa_cons (pv 3) (pa_cons (pv 2) (pa_cons (pv 6) pa_nil)))))))
        (pss_one (ps_ret pe_bl))
        pss_nil)))
    (pss_cons (ps_set (i := 7) sc_law.nd rfl (.inl rfl) (pe_call G_l_dict (hr.mono (by decide)) (by rfl) T.m_l_dict T.F_l_dict.kp T.b_l_dict .nil pass0 (pa_cons (pv 3) pa_nil)))
    (pss_cons (ps_if (pt_not (pt_val (pe_call G_l_is (hr.mono (by decide)) (by rfl) T.m_l_is T.F_l_is.kp T.b_l_is .nil pass0 (pa_cons (pe_callN (ks := []) G_propagate (hr.mono (by decide)) (by rfl) T.m_propagate T.F_propagate.kp KB1 (passes_call takes0 (fun _ _ _ _ h => h)) (pa_cons (pv 7) pa_nil) pk_nil) (pa_cons (pe_call G_l_propagated (hr.mono (by decide)) (by rfl) T.m_l_propagated T.F_l_propagated.kp T.b_l_propagated .nil pass0 (pa_cons (pe_call G_l_by_label (hr.mono (by decide)) (by rfl) T.m_l_by_label T.F_l_by_label.kp T.b_l_by_label .nil pass0 (pa_cons (pv 3) pa_nil)) (pa_cons (pe_lst pa_nil) pa_nil))) (pa_cons (pv 2) pa_nil))))))
      (pss_one (ps_ret pe_bl))
      pss_nil)
    (pss_cons (ps_setLc (own := [("_law_row", 11)]) (i := 8) rfl sc_law.nd rfl rfl (sw_true rfl rfl rfl (by decide +kernel)) (R1.PI.or (pi_list (pv 3)) (pi_tup (pv 3))) (blkOk_by (own := [("_law_row", 11)]) (N := ["_law_script", "_law_state_here", "_law_atoms", "_law_rows", "_law_first", "_law_second", "_law_start_here", "_law_clauses_here", "_law_labels", "_law_bads", "_law_bad", "_law_row"]) (sc := defScope s_law) (by decide +kernel)) (fun _ _ _ _ _ => (pg_name (i := 11) sc_law.nd rfl (.inl rfl))) (fun _ _ _ _ _ => pts_nil) (fun _ _ _ _ _ => (pe_ix (R1.ix_seqK (K := K) rfl) (pv 11) pe_int (fun _ _ => rfl))))
    (pss_cons (ps_set (i := 9) sc_law.nd rfl (.inl rfl) (pe_lst (pa_cons (pe_op (OpR.or op_add (OpR.or op_add_str (OpR.or op_cat op_catT))) (pv 8) (pe_lst (pa_cons pe_int pa_nil))) (pa_cons (pe_op (OpR.or op_add (OpR.or op_add_str (OpR.or op_cat op_catT))) (pv 8) (pe_slice (SlR.or sl_str (SlR.or sl_list sl_tup)) (pv 8) po_none (po_some pe_int))) pa_nil))))
    (pss_cons (ps_for PassesOwn.never rfl (R1.PI.or (pi_list (pe_op (OpR.or op_add (OpR.or op_add_str (OpR.or op_cat op_catT))) (pv 9) (pe_lst (pa_cons (pe_callTy call_tuple_of (by rfl) T.z_tuple (by decide +kernel) (pa_cons (pe_slice (SlR.or sl_str (SlR.or sl_list sl_tup)) (pv 8) (po_some pe_int) po_none) pa_nil)) (pa_cons (pe_op (OpR.or op_add (OpR.or op_add_str (OpR.or op_cat op_catT))) (pe_lst (pa_cons pe_int pa_nil)) (pe_slice (SlR.or sl_str (SlR.or sl_list sl_tup)) (pv 8) (po_some pe_int) po_none)) pa_nil))))) (pi_tup (pe_op (OpR.or op_add (OpR.or op_add_str (OpR.or op_cat op_catT))) (pv 9) (pe_lst (pa_cons (pe_callTy call_tuple_of (by rfl) T.z_tuple (by decide +kernel) (pa_cons (pe_slice (SlR.or sl_str (SlR.or sl_list sl_tup)) (pv 8) (po_some pe_int) po_none) pa_nil)) (pa_cons (pe_op (OpR.or op_add (OpR.or op_add_str (OpR.or op_cat op_catT))) (pe_lst (pa_cons pe_int pa_nil)) (pe_slice (SlR.or sl_str (SlR.or sl_list sl_tup)) (pv 8) (po_some pe_int) po_none)) pa_nil)))))) (pg_name (i := 10) sc_law.nd rfl (.inl rfl))
      (pss_one (ps_if (pt_cmpR (OpR.or op_ne (op_neD hr.units)) (pe_callB (R0.cr_sortD hr.units) (by rfl) T.z_sorted (by decide +kernel) (pa_cons (pe_callTy call_list_of (by rfl) T.z_list (by decide +kernel) (pa_cons (pv 10) pa_nil)) pa_nil)) (pe_callB (R0.cr_sortD hr.units) (by rfl) T.z_sorted (by decide +kernel) (pa_cons (pv 8) pa_nil)) (nomark _))
        (pss_one (ps_if (pt_not (pt_val (pe_call G_l_alike (hr.mono (by decide)) (by rfl) T.m_l_alike T.F_l_alike.kp T.b_l_alike .nil pass0 (pa_cons (pe_call G_l_refused (hr.mono (by decide)) (by rfl) T.m_l_refused T.F_l_refused.kp T.b_l_refused .nil pass0 (pa_cons (pv 7) (pa_cons (pv 4) (pa_cons (pv 10) pa_nil)))) (pa_cons (pe_lst (pa_cons (pv 10) pa_nil)) pa_nil)))))
          (pss_one (ps_ret pe_bl))
          pss_nil))
        pss_nil)))
    (pss_one (ps_ret (pe_cmpR (OpR.or op_eq (op_eqD hr.units)) (pe_call G_l_refused (hr.mono (by decide)) (by rfl) T.m_l_refused T.F_l_refused.kp T.b_l_refused .nil pass0 (pa_cons (pv 7) (pa_cons (pv 4) (pa_cons (pv 8) pa_nil)))) (pe_lst pa_nil) (nomark _))))))))))))))), ?_⟩
    refine ⟨_, rfl, p0, ns0, rfl, hS, fun H1 st sc nst s1 S1 => ?_⟩
    refine ⟨.ref st, rfl, .ref st, rfl, sc, st, 4, rfl, S1, by decide, by decide, fun H2 v k2 S2 v0 v1 => ?_⟩
    obtain ⟨m, rfl⟩ : ∃ v' : Nat, v = v' := ⟨v.toNat, by omega⟩
    refine .inl ⟨3, _, rfl, rfl, sc, st, 3 + m, rfl, S2, by omega, fun al sy sh H3 hsy hsh k3 S3 nal hat3 => ?_⟩
    have A := at_ok hsy hsh
    obtain ⟨n, hn⟩ : ∃ n, n = 3 + m := ⟨_, rfl⟩
    rw [← hn] at hat3
    have hn3 : 3 ≤ n := by omega
    have hn6 : n ≤ 6 := by omega
    generalize eA sy sh = e at A hat3
    refine ⟨.ref st, rfl, .ref al, rfl, e, A, sc, st, al, n, rfl, S3, hat3, hn3, hn6, fun rl rows H4 k4 S4 nrl hrw4 r6 => ?_⟩
    have rok := r6.ok
    have nd := r6.2.1
    have hat4 := ats_kp A (by omega) S3 k4 hat3
    refine ⟨.ref st, rfl, .ref al, rfl, e, A, sc, st, al, n, rfl, S4, hat4, hn3, hn6, fun f1 xs1 ls1 H5 k5 S5 nf1 hf1 hA1 l1 i1 => ?_⟩
    have hat5 := ats_kp A (by omega) S4 k5 hat4
    have hrw5 := rws_kp A rok S4 k5 hrw4
    have F15 : S0Is e K H5 f1 ls1 := ⟨xs1, hf1, hA1⟩
    refine ⟨.ref st, rfl, .ref al, rfl, e, A, sc, st, al, n, rfl, S5, hat5, hn3, hn6, fun f2 xs2 ls2 H6 k6 S6 nf2 hf2 hA2 l2 i2 => ?_⟩
    have hat6 := ats_kp A (by omega) S5 k6 hat5
    have hrw6 := rws_kp A rok S5 k6 hrw5
    have F16 := F15.kp A i1.to7 S5 k6
    have F26 : S0Is e K H6 f2 ls2 := ⟨xs2, hf2, hA2⟩
    clear hf1 hA1 hf2 hA2 F15
    have sm4 : ∀ {n : Nat}, n ≤ 4 → n ≤ sizeLine := fun h => Nat.le_of_lt (small1000 (by omega))
    -- the starts
    refine ⟨.ref f1, rfl, .ref f2, rfl, Nat.zero_le _, fun z nz => ⟨.ref f1, rfl, sm4 (by simp), fun tt ntt => ⟨tt, rfl, ⟨_, .of upd_same⟩, ?_⟩⟩⟩
    have u1 := same_upd (o := .lst []) nz
    have u2 := same_upd (o := .tup [.ref f1, .ref f2, .ref z, .ref f1]) ntt
    have hz := u2 _ _ (show (upd H6 z (.lst [])) z = _ from upd_same)
    have htt : (upd (upd H6 z (.lst [])) tt (.tup [.ref f1, .ref f2, .ref z, .ref f1])) tt = _ := upd_same
    have u12 := u1.trans u2
    generalize upd (upd H6 z (.lst [])) tt (.tup [.ref f1, .ref f2, .ref z, .ref f1]) = H7 at u12 hz htt ⊢
    have hat7 : AtsIs e K H7 al n := ats_same A (by omega) u12 hat6
    have hrw7 := rws_same A rok u12 hrw6
    have F17 := F16.same A i1.to7 u12
    have F27 := F26.same A i2.to7 u12
    have Z7 : S0Is e K H7 z [] := ⟨[], hz, R1.Al.nil⟩
    have S7 := S6.same u12
    have start : ∀ (u : Nat) x, ([V.ref f1, V.ref f2, V.ref z, V.ref f1] : List V)[u]? = some x → ∃ s0 ls, x = .ref s0 ∧ S0Is e K H7 s0 ls ∧ In6 ls ∧ ls.length ≤ 4 := fun u x hx => by
      match u, hx with
      | 0, hx => cases hx; exact ⟨f1, ls1, rfl, F17, i1, l1⟩
      | 1, hx => cases hx; exact ⟨f2, ls2, rfl, F27, i2, l2⟩
      | 2, hx => cases hx; exact ⟨z, [], rfl, Z7, (fun l h => nomatch h), Nat.zero_le _⟩
      | 3, hx => cases hx; exact ⟨f1, ls1, rfl, F17, i1, l1⟩
    refine for_it (walk_tup (xs := [.ref f1, .ref f2, .ref z, .ref f1])) (fun i σ' H' => ∃ y6, σ' = [some (.ref p0), some (.ref st), some (.ref al), some (.ref rl), some (.ref f1), some (.ref f2), y6, none, none, none, none, none] ∧ Kp st H7 H' ∧ Sta sc H' st) ⟨_, rfl, Kp.refl _ _, S7⟩ (fun i σ' H' _ h => by
      obtain ⟨_, _, kk, _⟩ := h
      exact .of (kk _ _ (fun z => by
        obtain ⟨ns, i, b, s, l, hne, hst, _⟩ := S7.ex
        rw [z, hst] at htt
        cases htt) htt)) ?_ ?_
    · rintro i x σ' _ H8 hi ⟨y6, rfl, k8, S8⟩ ⟨rfl, hx⟩
      obtain ⟨s0, ls, rfl, hs0, h6, hl⟩ := start i x hx
      refine ⟨.ref st, rfl, .ref rl, rfl, .ref al, rfl, .ref s0, rfl, e, A, sc, st, rl, al, s0, n, rows, ls, rfl, S8, rws_kp A rok S7 k8 hrw7, r6, ats_kp A (by omega) S7 k8 hat7, hn6, hs0.kp A h6.to7 S7 k8, h6, hl, fun H9 k9 S9 => ⟨true, rfl, iteF ⟨_, rfl, k8.trans k9, S9⟩⟩⟩
    · rintro σ' H8 ⟨y6, rfl, k8, S8⟩
      have hat8 := ats_kp A (by omega) S7 k8 hat7
      have hrw8 := rws_kp A rok S7 k8 hrw7
      have F18 := F17.kp A i1.to7 S7 k8
      clear hat3 hat4 hat5 hat6 hat7 hrw4 hrw5 hrw6 hrw7 F16 F26 F17 F27 Z7 start hz htt
      refine ⟨.ref rl, rfl, e, A, rl, rows, rfl, hrw8, rok, nd, fun d kvs H9 s9 nd9 hd9 hK9 => ?_⟩
      have hat9 := ats_same A (by omega) s9 hat8
      have hrw9 := rws_same A rok s9 hrw8
      have F19 := F18.same A i1.to7 s9
      obtain ⟨ks, hks⟩ : ∃ ks, ks = rows.map (·.1) := ⟨_, rfl⟩
      have hR := rof_ok r6
      rw [← hks] at hR
      have kl : ks.length ≤ 6 := by rw [hks, List.length_map]; exact r6.1
      have KS : KsIs kvs ks := by rw [hks]; exact kv_keys hK9
      have ck9 := ck_of hK9 nd
      rw [← hks] at ck9
      have rokS : RsOk (rowsOf (Rof rows) (srtN ks)) := rows_ok hR kl (srtN_perm ks)
      have n7 : In7 [] := fun l h => nomatch h
      clear hat8 hrw8 F18 s9
      -- without a start
      refine ⟨.ref d, rfl, rfl, rfl, e, A, d, a.e0, .non, kvs, ks, Rof rows, [], [], rfl, hd9, KS, kl, hR, ck9, .inr (T.sq0 _), R1.Al.nil, n7, Nat.zero_le _, .inl ⟨rfl, fun o H10 s10 no hP => ?_⟩⟩
      refine ⟨.ref rl, rfl, e, A, rl, rows, rfl, rws_same A rok s10 hrw9, rok, nd, fun bp H11 s11 nbp hbp => ⟨Nat.zero_le _, fun z2 nz2 => ?_⟩⟩
      rw [← hks] at hbp
      have x1 := same_upd (o := .lst []) nz2
      refine ⟨e, A, bp, z2, _, [], [], rfl, rws_same A rokS x1 hbp, rokS, .inl (.of upd_same), R1.Al.nil, n7, Nat.zero_le _, fun dp sl ys H12 s12 ndp hdp hsl hys => ?_⟩
      obtain ⟨due, hdue⟩ : ∃ due, due = run 100 (rowsOf (Rof rows) (srtN ks)) (st0 []) := ⟨_, rfl⟩
      rw [← hdue] at hdp hys hP
      have d7 : In7 (hs due.1) := by
        rw [hdue]
        exact run_mem (fun r hr => (rokS.2 r hr).2) 100 _ fun l hl => by rw [hs_st0] at hl; exact nomatch hl
      have dlen : due.1.length ≤ 200 := by
        have := run_len (rows := rowsOf (Rof rows) (srtN ks)) 100 (st0 [])
        rw [← hdue] at this
        have e0 : (st0 []).length = 0 := rfl
        omega
      have s102 := s11.trans (x1.trans s12)
      have s912 := s10.trans s102
      refine ⟨.ref al, rfl, e, A, o, dp, sl, al, due.1, due.2, n, ys, rfl, pr_same A d7 s102 hP, .of hdp, .of hsl, hys, d7, dlen, ats_same A (by omega) s912 hat9, hn6, fun H13 s13 => ⟨true, rfl, iteF ?_⟩⟩
      have s913 := s912.trans s13
      have hd13 := s913 _ _ hd9
      have hK13 := hK9.tk A rok (Same.tk s913)
      have F113 := F19.same A i1.to7 s913
      obtain ⟨rv, hrv, hAr⟩ := rws_same A rok s913 hrw9
      clear hbp hdp hsl hys hP hat9 hrw9 F19
      -- the labels
      refine .inl ⟨.ref rl, rfl, rl, rfl, ⟨_, hrv⟩, fun D nD => R1.walk_it (walk_list (xs := rv)) (fun u H' => Same H13 H' ∧ H' D = some (.lst (ivN (ks.take u)))) ⟨same_upd nD, upd_same⟩ (fun u H2 _ h => sqL_same h.1 hrv) ?_ ?_⟩
      · rintro u x _ H14 hu ⟨s2, hD⟩ ⟨rfl, hx⟩
        obtain ⟨r, hr2, b, c0, rfl, hb, _⟩ := hAr.at hx
        have et : ks.take (u + 1) = ks.take u ++ [r.1] := by rw [List.take_add_one, hks, List.getElem?_map, hr2]; rfl
        refine ⟨rfl, .ref b, rfl, .inl ⟨b, _, (0 : Nat), .int (r.1 : Int), rfl, rfl, .of (s2 _ _ hb), atI_nat rfl, _, hD, ?_, K15.Same.mut s2 nD, ?_⟩⟩
        · rw [iv_len, List.length_take]
          exact small1000 (by omega)
        · rw [upd_same, et, ← iv_app]; rfl
      rintro H14 ⟨s14, hD⟩
      have e1 : ks.take rv.length = ks := by
        have : rv.length = ks.length := by rw [hks, List.length_map, hAr.1]
        rw [this, List.take_length]
      rw [e1] at hD
      have hd14 := s14 _ _ hd13
      have hK14 := hK13.tk A rok (Same.tk s14)
      have F114 := F113.same A i1.to7 s14
      have ivs : ∀ {l : List Nat}, l.length ≤ 20 → (ivN l).length ≤ sizeLine := fun h => Nat.le_of_lt (small1000 (by rw [iv_len]; omega))
      -- the orders that are wrong
      refine ⟨.ref D, rfl, sm4 (by simp), fun a1 na1 => ?_⟩
      have y1 := same_upd (o := .lst [.int 999]) na1
      refine .inr (.inr (.inl ⟨D, a1, ivN ks, [.int 999], rfl, rfl, y1 _ _ hD, upd_same, Nat.le_of_lt (small1000 (by simp [iv_len]; omega)), fun b1 nb1 => ?_⟩))
      have y2 := same_upd (o := .lst (ivN ks ++ [.int 999])) nb1
      have hb1 : (upd (upd H14 a1 (.lst [.int 999])) b1 (.lst (ivN ks ++ [.int 999]))) b1 = some (.lst (ivN (ks ++ [999]))) := by rw [upd_same, ← iv_app]; rfl
      have y12 := y1.trans y2
      generalize upd (upd H14 a1 (.lst [.int 999])) b1 (.lst (ivN ks ++ [.int 999])) = H15 at y12 hb1 ⊢
      refine ⟨.ref D, rfl, .ref D, rfl, 1, rfl, .inr (.inl ⟨D, ivN ks, rfl, .of (y12 _ _ hD), fun a2 na2 => ?_⟩)⟩
      rw [cut_take1, iv_take]
      have y3 := same_upd (o := .lst (ivN (ks.take 1))) na2
      refine .inr (.inr (.inl ⟨D, a2, _, _, rfl, rfl, y3 _ _ (y12 _ _ hD), upd_same, Nat.le_of_lt (small1000 (by rw [iv_len, iv_len, List.length_take]; omega)), fun b2 nb2 => ⟨sm4 (by simp), fun bl nbl => ?_⟩⟩))
      rw [iv_app] at nbl ⊢
      have y4 := same_upd (o := .lst (ivN (ks ++ ks.take 1))) nb2
      have y5 := same_upd (o := .lst [.ref b1, .ref b2]) nbl
      have hb2 := y5 _ _ (show (upd (upd H15 a2 (.lst (ivN (ks.take 1)))) b2 (.lst (ivN (ks ++ ks.take 1)))) b2 = _ from upd_same)
      have hbl : (upd (upd (upd H15 a2 (.lst (ivN (ks.take 1)))) b2 (.lst (ivN (ks ++ ks.take 1)))) bl (.lst [.ref b1, .ref b2])) bl = _ := upd_same
      have y35 := y3.trans (y4.trans y5)
      have y15 := y12.trans y35
      have hb1' := y35 _ _ hb1
      generalize upd (upd (upd H15 a2 (.lst (ivN (ks.take 1)))) b2 (.lst (ivN (ks ++ ks.take 1)))) bl (.lst [.ref b1, .ref b2]) = H16 at y15 hb2 hbl hb1' ⊢
      have hD16 := y15 _ _ hD
      refine .inl ⟨.ref bl, rfl, .ref D, rfl, 1, rfl, .inr (.inl ⟨D, ivN ks, rfl, .of hD16, fun c1 nc1 => ?_⟩)⟩
      rw [cut_drop1, iv_drop]
      have w1 := same_upd (o := .lst (ivN (ks.drop 1))) nc1
      refine ⟨c1, _, rfl, .inl ⟨.of upd_same, fun b3 nb3 => ⟨sm4 (by simp), fun a4 na4 => ?_⟩⟩⟩
      have w2 := same_upd (o := .tup (ivN (ks.drop 1))) nb3
      have w3 := same_upd (o := .lst [.int 998]) na4
      have hb3 := w3 _ _ (show (upd (upd H16 c1 (.lst (ivN (ks.drop 1)))) b3 (.tup (ivN (ks.drop 1)))) b3 = _ from upd_same)
      have ha4 : (upd (upd (upd H16 c1 (.lst (ivN (ks.drop 1)))) b3 (.tup (ivN (ks.drop 1)))) a4 (.lst [.int 998])) a4 = _ := upd_same
      have w13 := w1.trans (w2.trans w3)
      generalize upd (upd (upd H16 c1 (.lst (ivN (ks.drop 1)))) b3 (.tup (ivN (ks.drop 1)))) a4 (.lst [.int 998]) = H17 at w13 hb3 ha4 ⊢
      refine ⟨.ref D, rfl, 1, rfl, .inr (.inl ⟨D, ivN ks, rfl, .of (w13 _ _ hD16), fun c2 nc2 => ?_⟩)⟩
      rw [cut_drop1, iv_drop]
      have w4 := same_upd (o := .lst (ivN (ks.drop 1))) nc2
      refine .inr (.inr (.inl ⟨a4, c2, _, _, rfl, rfl, w4 _ _ ha4, upd_same, Nat.le_of_lt (small1000 (by rw [iv_len, List.length_drop]; simp; omega)), fun b4 nb4 => ⟨sm4 (by simp), fun b5 nb5 => ?_⟩⟩))
      have w5 := same_upd (o := .lst ([.int 998] ++ ivN (ks.drop 1))) nb4
      have w6 := same_upd (o := .lst [.ref b3, .ref b4]) nb5
      have hb4 : (upd (upd (upd H17 c2 (.lst (ivN (ks.drop 1)))) b4 (.lst ([.int 998] ++ ivN (ks.drop 1)))) b5 (.lst [.ref b3, .ref b4])) b4 = some (.lst (ivN ([998] ++ ks.drop 1))) := by
        rw [← iv_app]
        exact w6 _ _ upd_same
      have hb5 : (upd (upd (upd H17 c2 (.lst (ivN (ks.drop 1)))) b4 (.lst ([.int 998] ++ ivN (ks.drop 1)))) b5 (.lst [.ref b3, .ref b4])) b5 = _ := upd_same
      have w46 := w4.trans (w5.trans w6)
      generalize upd (upd (upd H17 c2 (.lst (ivN (ks.drop 1)))) b4 (.lst ([.int 998] ++ ivN (ks.drop 1)))) b5 (.lst [.ref b3, .ref b4]) = H18 at w46 hb4 hb5 ⊢
      have w16 := w13.trans w46
      refine .inr (.inr (.inl ⟨bl, b5, _, _, rfl, rfl, w16 _ _ hbl, hb5, sm4 (by simp), fun bb nbb => ⟨bb, rfl, ⟨_, .of upd_same⟩, ?_⟩⟩))
      have w7 := same_upd (o := .lst ([.ref b1, .ref b2] ++ [.ref b3, .ref b4])) nbb
      have hbb : (upd H18 bb (.lst ([.ref b1, .ref b2] ++ [.ref b3, .ref b4]))) bb = _ := upd_same
      have w17 := w16.trans w7
      have g1 := w17 _ _ hb1'
      have g2 := w17 _ _ hb2
      have g3 := w7 _ _ (w46 _ _ hb3)
      have g4 := w7 _ _ hb4
      have y17 := y15.trans w17
      generalize upd H18 bb (.lst ([.ref b1, .ref b2] ++ [.ref b3, .ref b4])) = H19 at hbb y17 g1 g2 g3 g4 ⊢
      have hd19 := y17 _ _ hd14
      have hK19 := hK14.tk A rok (Same.tk y17)
      have F119 := F114.same A i1.to7 y17
      have hD19 := y17 _ _ hD
      have refd : ∀ H20, Same H19 H20 → ∀ (q0 : Addr) (nb : List Nat), SqI K H20 q0 (ivN nb) → nb.length ≤ 100 → ∀ (Q5 : VK) (E5 : XK), (∀ pz H', H20 pz = none → Same H20 H' → H' pz = some (.lst (if srtN nb = srtN ks then [] else [.ref q0])) → Q5 (.ref pz) H') → ∃ x, AtOk x ∧ spRef x w K [.ref d, .ref f1, .ref q0] H20 Q5 E5 := by
        intro H20 s20 q0 nb hq hnb Q5 E5 cont
        obtain ⟨xs, hx, hA⟩ := F119.same A i1.to7 s20
        have ck := ck_of (hK19.tk A rok (Same.tk s20)) nd
        rw [← hks] at ck
        exact ⟨e, A, d, f1, q0, kvs, ks, nb, Rof rows, xs, ls1, rfl, s20 _ _ hd19, KS, kl, hR, ck, .inl (.of hx), hA, i1.to7, by omega, hq, hnb, cont⟩
      have bad : ∀ (u : Nat) x, ([V.ref b1, V.ref b2] ++ [V.ref b3, V.ref b4] : List V)[u]? = some x → ∃ q0 nb, x = .ref q0 ∧ SqI K H19 q0 (ivN nb) ∧ nb.length ≤ 20 := fun u x hx => by
        match u, hx with
        | 0, hx => cases hx; exact ⟨b1, _, rfl, .inl (.of g1), by simp; omega⟩
        | 1, hx => cases hx; exact ⟨b2, _, rfl, .inl (.of g2), by simp; omega⟩
        | 2, hx => cases hx; exact ⟨b3, _, rfl, .inr (.of g3), by simp; omega⟩
        | 3, hx => cases hx; exact ⟨b4, _, rfl, .inl (.of g4), by simp; omega⟩
      refine for_it (walk_list (xs := [.ref b1, .ref b2] ++ [.ref b3, .ref b4])) (fun i σ' H' => ∃ y6 y10, σ' = [some (.ref p0), some (.ref st), some (.ref al), some (.ref rl), some (.ref f1), some (.ref f2), y6, some (.ref d), some (.ref D), some (.ref bl), y10, none] ∧ Same H19 H') ⟨_, _, rfl, Same.refl _⟩ (fun i σ' H' _ h => by obtain ⟨_, _, _, h⟩ := h; exact .of (h _ _ hbb)) ?_ ?_
      · rintro i x σ' _ H20 hi ⟨y6, y10, rfl, s20⟩ ⟨rfl, hx⟩
        obtain ⟨q0, nb, rfl, hq0, hnb⟩ := bad i x hx
        have sq : ∀ {Hx}, Same H19 Hx → SqI K Hx q0 (ivN nb) := fun s => hq0.imp (sqL_same s) (sqT_tk (Same.tk s))
        refine ⟨.ref q0, rfl, q0, ivN nb, rfl, sq s20, fun l1 n1 => ?_⟩
        dsimp only [tNil]
        refine sorted_iv (.of upd_same) fun l2 n2 => ?_
        have v1 := same_upd (o := .lst (ivN nb)) n1
        have v2 := same_upd (o := .lst (ivN (srtN nb))) n2
        have hl2 : (upd (upd H20 l1 (.lst (ivN nb))) l2 (.lst (ivN (srtN nb)))) l2 = _ := upd_same
        have v12 := v1.trans v2
        generalize upd (upd H20 l1 (.lst (ivN nb))) l2 (.lst (ivN (srtN nb))) = H21 at v12 hl2 ⊢
        have s21 := s20.trans v12
        refine ⟨.ref D, rfl, ?_⟩
        dsimp only [tNil]
        refine sorted_iv (.of (s21 _ _ hD19)) fun l3 n3 => ?_
        have v3 := same_upd (o := .lst (ivN (srtN ks))) n3
        have s22 := s21.trans v3
        refine .inr ⟨.list (dtN (srtN nb)), .list (dtN (srtN ks)), .lst (.of (v3 _ _ hl2)) (dp_iv _), .lst (.of upd_same) (dp_iv _), shaped_iv _, shaped_iv _, _, rfl, ?_⟩
        rw [PyData.eqv, eqv_iv]
        generalize upd H21 l3 (.lst (ivN (srtN ks))) = H22 at s22 ⊢
        by_cases c : srtN nb = srtN ks
        · rw [decide_eq_true c]
          exact iteF ⟨_, _, rfl, s22⟩
        · rw [decide_eq_false c]
          refine iteT ⟨.ref d, rfl, .ref f1, rfl, .ref q0, rfl, ?_⟩
          dsimp only [tNil, List.cons_append, List.nil_append]
          refine refd H22 s22 q0 nb (sq s22) (by omega) _ _ fun pz H23 npz s23 hpz => ?_
          rw [if_neg c] at hpz
          refine ⟨.ref q0, rfl, sm4 (by simp), fun a5 na5 => ?_⟩
          have v5 := same_upd (o := .lst [.ref q0]) na5
          have s24 := (s22.trans s23).trans v5
          obtain ⟨dd, hdd, hd2, hw2⟩ : ∃ dd, Dp K (upd H23 a5 (.lst [.ref q0])) (.ref q0) dd ∧ dd.depth ≤ 2 ∧ wl dd ≤ 100 := by
            have dz : PyData.depthAll (dtN nb) ≤ 0 := by
              unfold dtN
              exact depthAll_map (f := fun n : Nat => PyData.int (n : Int)) (m := 0) fun x _ => Nat.le_refl _
            have wz : wlAll (dtN nb) ≤ 0 * nb.length := by
              unfold dtN
              exact wlAll_map (f := fun n : Nat => PyData.int (n : Int)) (m := 0) fun x _ => Nat.le_refl _
            have ld : (dtN nb).length = nb.length := by unfold dtN; rw [List.length_map]
            have b1' : PyData.depthAll (dtN nb) + 1 ≤ 2 := by omega
            have b2' : (dtN nb).length + wlAll (dtN nb) ≤ 100 := by omega
            rcases sq s24 with h | h
            · exact ⟨.list (dtN nb), .lst h (dp_iv _), b1', b2'⟩
            · exact ⟨.tuple (dtN nb), .tup h (dp_iv _), b1', b2'⟩
          refine ⟨_, _, rfl, sm_dp (.list [dd]) 30 _ _ (.lst (.of (v5 _ _ hpz)) (.cons hdd .nil)) (.lst (.of upd_same) (.cons hdd .nil)) ?_ ?_, true, rfl, iteF ⟨_, _, rfl, s24⟩⟩
          · show max dd.depth 0 + 1 < 30
            omega
          · show 1 + (wl dd + 0) ≤ 1000000
            omega
      · rintro σ' H20 ⟨y6, y10, rfl, s20⟩
        refine ⟨.ref d, rfl, .ref f1, rfl, .ref D, rfl, ?_⟩
        dsimp only [tNil, List.cons_append, List.nil_append]
        refine refd H20 s20 D ks (.inl (.of (s20 _ _ hD19))) (by omega) _ _ fun pz H21 npz s21 hpz => ?_
        rw [if_pos rfl] at hpz
        refine ⟨Nat.zero_le _, fun pe npe => ?_⟩
        have v6 := same_upd (o := .lst []) npe
        refine .inr ⟨.list [], .list [], .lst (.of (v6 _ _ hpz)) .nil, .lst (.of upd_same) .nil, by decide +kernel, by decide +kernel, ?_⟩
        exact q _
end
end K15

namespace K15
open PySem PySem.Spec PyProof.Rows L2
abbrev init_BadLiteral := initL
abbrev init_BadOrder := initO
theorem kit_sub {K : PySem.W.Frag} {C L : Addr} {b : Bool} (h1 : PySem.W.isClsIn K L = true) (h2 : PySem.W.typeIn K (.ref L) = some (.type "type")) (h3 : PySem.W.subIn K (.ref C) (.ref L) = some b) : PySem.W.kitCls K (.ref C) (.ref L) = some b := by
  unfold PySem.W.kitCls
  have h1' : (PySem.W.clsIn K L).isSome = true := h1
  simp only [h1', h2, beq_self_eq_true, Bool.and_self, if_true]
  exact h3
theorem kit_one {K : PySem.W.Frag} {t c : Value} (h : PySem.W.kitCls K t c = some true) : PySem.W.kitOne K t c = some true := by
  unfold PySem.W.kitOne
  split
  · rfl
  · exact h
theorem kit_no {K : PySem.W.Frag} {C O : Addr} (s : PySem.W.subIn K (.ref C) (.ref C) = some true) (h : PySem.W.kitCls K (.ref C) (.ref O) = some false) (n : PySem.W.subIn K (.ref C) (.ref O) = some false) : PySem.W.kitOne K (.ref C) (.ref O) = some false := by
  unfold PySem.W.kitOne
  split
  · rename_i e
    have e2 : Value.ref C = Value.ref O := by simpa using e
    rw [← e2, s] at n
    cases n
  · exact h
theorem kit_ve {C : Addr} : PySem.HandSPX.refsVE [.ref C, .type "ValueError", .type "Exception", .type "BaseException", .type "object"] = true := by
  show PySem.HandSPX.refsVE [.type "ValueError", .type "Exception", .type "BaseException", .type "object"] = true
  decide +kernel
section
theorem all_mk {l : PySem.W.OpenLaw} {w : World} {K : PySem.W.Frag} {h : Heap} {mg : Str → Option Value} {fa : Addr} (X : K.In h) (G : h.Ns mainGlobals mg) (hfa : mg "law" = some (.ref fa))
    {f1 f2 f3 f4 f5 f6 f7 f8 f9 f10 f11 f12 f13 f14 f15 f16 f17 f18 f19 f20 f21 f22 f23 f24 f25 f26 f27 f28 f29 f30 f31 C_LookerError C_BadLiteral C_BadOrder C_Propagation : Addr}
    {od1 an1 od2 an2 od3 an3 od4 an4 od5 an5 od6 an6 od7 an7 od8 an8 od9 an9 od10 an10 od11 an11 od12 an12 od13 an13 od14 an14 od15 an15 od16 an16 od17 an17 od18 an18 od19 an19 od20 an20 od21 an21 od22 an22 od23 an23 od24 an24 od25 an25 od26 an26 od27 an27 od28 an28 od29 an29 od30 an30 od31 an31 : Option Addr} {sl1 sl2 sl3 sl4 sl5 sl6 sl7 sl8 sl9 sl10 sl11 sl12 sl13 sl14 sl15 sl16 sl17 sl18 sl19 sl20 sl21 sl22 sl23 sl24 sl25 sl26 sl27 sl28 sl29 sl30 sl31 : Array (Option Value)} {oc1 kV1 dc1 pm1 cd1 ct1 oc2 kV2 dc2 pm2 cd2 ct2 oc3 kV3 dc3 pm3 cd3 ct3 oc4 kV4 dc4 pm4 cd4 ct4 oc5 kV5 dc5 pm5 cd5 ct5 oc6 kV6 dc6 pm6 cd6 ct6 oc7 dc7 pm7 cd7 ct7 oc8 kV8 dc8 pm8 cd8 ct8 oc9 kV9 dc9 pm9 cd9 ct9 oc10 kV10 dc10 pm10 cd10 ct10 oc11 kV11 dc11 pm11 cd11 ct11 oc12 kV12 dc12 pm12 cd12 ct12 oc13 kV13 dc13 pm13 cd13 ct13 oc14 kV14 dc14 pm14 cd14 ct14 oc15 kV15 dc15 pm15 cd15 ct15 oc16 kV16 dc16 pm16 cd16 ct16 oc17 kV17 dc17 pm17 cd17 ct17 oc18 kV18 dc18 pm18 cd18 ct18 oc19 kV19 dc19 pm19 cd19 ct19 oc20 kV20 dc20 pm20 cd20 ct20 oc21 kV21 dc21 pm21 cd21 ct21 oc22 kV22 dc22 pm22 cd22 ct22 oc23 kV23 dc23 pm23 cd23 ct23 oc24 kV24 dc24 pm24 cd24 ct24 oc25 kV25 dc25 pm25 cd25 ct25 oc26 kV26 dc26 pm26 cd26 ct26 oc27 kV27 dc27 pm27 cd27 ct27 oc28 kV28 dc28 pm28 cd28 ct28 oc29 kV29 dc29 pm29 cd29 ct29 oc30 kV30 dc30 pm30 cd30 ct30 oc31 kV31 dc31 pm31 cd31 ct31 : Value}
    {D_propagate T_propagate E0 : Addr} {ocT : Value} {odT odE : Option Addr} {nT nE : Nat} {slT slE : Array (Option Value)}
    (a1 : PySem.W.nsIn K mainGlobals "_wall" = some (some (.ref f1)))
    (l1 : K.lookup f1 = some ⟨oc1, od1, .func (PySem.W.fnOf "_wall" "_wall" (defArgs s_wall) (defBody s_wall) (defScope s_wall) .none kV1 dc1 pm1 an1 cd1 ct1), sl1⟩)
    (c1 : PySem.W.codeIn K cd1 "_wall" = true)
    (k1 : PySem.W.keepIn K (.ref f1) = true)
    (a2 : PySem.W.nsIn K mainGlobals "is_int" = some (some (.ref f2)))
    (l2 : K.lookup f2 = some ⟨oc2, od2, .func (PySem.W.fnOf "is_int" "is_int" (defArgs s_is_int) (defBody s_is_int) (defScope s_is_int) .none kV2 dc2 pm2 an2 cd2 ct2), sl2⟩)
    (c2 : PySem.W.codeIn K cd2 "is_int" = true)
    (k2 : PySem.W.keepIn K (.ref f2) = true)
    (a3 : PySem.W.nsIn K mainGlobals "negated" = some (some (.ref f3)))
    (l3 : K.lookup f3 = some ⟨oc3, od3, .func (PySem.W.fnOf "negated" "negated" (defArgs s_negated) (defBody s_negated) (defScope s_negated) .none kV3 dc3 pm3 an3 cd3 ct3), sl3⟩)
    (c3 : PySem.W.codeIn K cd3 "negated" = true)
    (k3 : PySem.W.keepIn K (.ref f3) = true)
    (a4 : PySem.W.nsIn K mainGlobals "_undenied" = some (some (.ref f4)))
    (l4 : K.lookup f4 = some ⟨oc4, od4, .func (PySem.W.fnOf "_undenied" "_undenied" (defArgs s_undenied) (defBody s_undenied) (defScope s_undenied) .none kV4 dc4 pm4 an4 cd4 ct4), sl4⟩)
    (c4 : PySem.W.codeIn K cd4 "_undenied" = true)
    (k4 : PySem.W.keepIn K (.ref f4) = true)
    (a5 : PySem.W.nsIn K mainGlobals "_next_step" = some (some (.ref f5)))
    (l5 : K.lookup f5 = some ⟨oc5, od5, .func (PySem.W.fnOf "_next_step" "_next_step" (defArgs s_next_step) (defBody s_next_step) (defScope s_next_step) .none kV5 dc5 pm5 an5 cd5 ct5), sl5⟩)
    (c5 : PySem.W.codeIn K cd5 "_next_step" = true)
    (k5 : PySem.W.keepIn K (.ref f5) = true)
    (a6 : PySem.W.nsIn K mainGlobals "_checked_order" = some (some (.ref f6)))
    (l6 : K.lookup f6 = some ⟨oc6, od6, .func (PySem.W.fnOf "_checked_order" "_checked_order" (defArgs s_checked_order) (defBody s_checked_order) (defScope s_checked_order) .none kV6 dc6 pm6 an6 cd6 ct6), sl6⟩)
    (c6 : PySem.W.codeIn K cd6 "_checked_order" = true)
    (k6 : PySem.W.keepIn K (.ref f6) = true)
    (a7 : PySem.W.nsIn K mainGlobals "propagate" = some (some (.ref f7)))
    (l7 : K.lookup f7 = some ⟨oc7, od7, .func (PySem.W.fnOf "propagate" "propagate" (defArgs s_propagate) (defBody s_propagate) (defScope s_propagate) (.ref T_propagate) (.ref D_propagate) dc7 pm7 an7 cd7 ct7), sl7⟩)
    (c7 : PySem.W.codeIn K cd7 "propagate" = true)
    (k7 : PySem.W.keepIn K (.ref f7) = true)
    (q_propagate_order : PySem.W.nsIn K D_propagate "order" = some (some .none))
    (lT : K.lookup T_propagate = some ⟨ocT, odT, .seq #[.ref E0] nT, slT⟩)
    (lE : K.lookup E0 = some ⟨.type "tuple", odE, .seq #[] nE, slE⟩)
    (a8 : PySem.W.nsIn K mainGlobals "_law_state" = some (some (.ref f8)))
    (l8 : K.lookup f8 = some ⟨oc8, od8, .func (PySem.W.fnOf "_law_state" "_law_state" (defArgs s_l_state) (defBody s_l_state) (defScope s_l_state) .none kV8 dc8 pm8 an8 cd8 ct8), sl8⟩)
    (c8 : PySem.W.codeIn K cd8 "_law_state" = true)
    (k8 : PySem.W.keepIn K (.ref f8) = true)
    (a9 : PySem.W.nsIn K mainGlobals "_law_draw" = some (some (.ref f9)))
    (l9 : K.lookup f9 = some ⟨oc9, od9, .func (PySem.W.fnOf "_law_draw" "_law_draw" (defArgs s_l_draw) (defBody s_l_draw) (defScope s_l_draw) .none kV9 dc9 pm9 an9 cd9 ct9), sl9⟩)
    (c9 : PySem.W.codeIn K cd9 "_law_draw" = true)
    (k9 : PySem.W.keepIn K (.ref f9) = true)
    (a10 : PySem.W.nsIn K mainGlobals "_law_alike" = some (some (.ref f10)))
    (l10 : K.lookup f10 = some ⟨oc10, od10, .func (PySem.W.fnOf "_law_alike" "_law_alike" (defArgs s_l_alike) (defBody s_l_alike) (defScope s_l_alike) .none kV10 dc10 pm10 an10 cd10 ct10), sl10⟩)
    (c10 : PySem.W.codeIn K cd10 "_law_alike" = true)
    (k10 : PySem.W.keepIn K (.ref f10) = true)
    (a11 : PySem.W.nsIn K mainGlobals "_law_atom_row" = some (some (.ref f11)))
    (l11 : K.lookup f11 = some ⟨oc11, od11, .func (PySem.W.fnOf "_law_atom_row" "_law_atom_row" (defArgs s_l_atom_row) (defBody s_l_atom_row) (defScope s_l_atom_row) .none kV11 dc11 pm11 an11 cd11 ct11), sl11⟩)
    (c11 : PySem.W.codeIn K cd11 "_law_atom_row" = true)
    (k11 : PySem.W.keepIn K (.ref f11) = true)
    (a12 : PySem.W.nsIn K mainGlobals "_law_clause" = some (some (.ref f12)))
    (l12 : K.lookup f12 = some ⟨oc12, od12, .func (PySem.W.fnOf "_law_clause" "_law_clause" (defArgs s_l_clause) (defBody s_l_clause) (defScope s_l_clause) .none kV12 dc12 pm12 an12 cd12 ct12), sl12⟩)
    (c12 : PySem.W.codeIn K cd12 "_law_clause" = true)
    (k12 : PySem.W.keepIn K (.ref f12) = true)
    (a13 : PySem.W.nsIn K mainGlobals "_law_clauses" = some (some (.ref f13)))
    (l13 : K.lookup f13 = some ⟨oc13, od13, .func (PySem.W.fnOf "_law_clauses" "_law_clauses" (defArgs s_l_clauses) (defBody s_l_clauses) (defScope s_l_clauses) .none kV13 dc13 pm13 an13 cd13 ct13), sl13⟩)
    (c13 : PySem.W.codeIn K cd13 "_law_clauses" = true)
    (k13 : PySem.W.keepIn K (.ref f13) = true)
    (a14 : PySem.W.nsIn K mainGlobals "_law_dict" = some (some (.ref f14)))
    (l14 : K.lookup f14 = some ⟨oc14, od14, .func (PySem.W.fnOf "_law_dict" "_law_dict" (defArgs s_l_dict) (defBody s_l_dict) (defScope s_l_dict) .none kV14 dc14 pm14 an14 cd14 ct14), sl14⟩)
    (c14 : PySem.W.codeIn K cd14 "_law_dict" = true)
    (k14 : PySem.W.keepIn K (.ref f14) = true)
    (a15 : PySem.W.nsIn K mainGlobals "_law_by_label" = some (some (.ref f15)))
    (l15 : K.lookup f15 = some ⟨oc15, od15, .func (PySem.W.fnOf "_law_by_label" "_law_by_label" (defArgs s_l_by_label) (defBody s_l_by_label) (defScope s_l_by_label) .none kV15 dc15 pm15 an15 cd15 ct15), sl15⟩)
    (c15 : PySem.W.codeIn K cd15 "_law_by_label" = true)
    (k15 : PySem.W.keepIn K (.ref f15) = true)
    (a16 : PySem.W.nsIn K mainGlobals "_law_not" = some (some (.ref f16)))
    (l16 : K.lookup f16 = some ⟨oc16, od16, .func (PySem.W.fnOf "_law_not" "_law_not" (defArgs s_l_not) (defBody s_l_not) (defScope s_l_not) .none kV16 dc16 pm16 an16 cd16 ct16), sl16⟩)
    (c16 : PySem.W.codeIn K cd16 "_law_not" = true)
    (k16 : PySem.W.keepIn K (.ref f16) = true)
    (a17 : PySem.W.nsIn K mainGlobals "_law_left" = some (some (.ref f17)))
    (l17 : K.lookup f17 = some ⟨oc17, od17, .func (PySem.W.fnOf "_law_left" "_law_left" (defArgs s_l_left) (defBody s_l_left) (defScope s_l_left) .none kV17 dc17 pm17 an17 cd17 ct17), sl17⟩)
    (c17 : PySem.W.codeIn K cd17 "_law_left" = true)
    (k17 : PySem.W.keepIn K (.ref f17) = true)
    (a18 : PySem.W.nsIn K mainGlobals "_law_propagated" = some (some (.ref f18)))
    (l18 : K.lookup f18 = some ⟨oc18, od18, .func (PySem.W.fnOf "_law_propagated" "_law_propagated" (defArgs s_l_propagated) (defBody s_l_propagated) (defScope s_l_propagated) .none kV18 dc18 pm18 an18 cd18 ct18), sl18⟩)
    (c18 : PySem.W.codeIn K cd18 "_law_propagated" = true)
    (k18 : PySem.W.keepIn K (.ref f18) = true)
    (a19 : PySem.W.nsIn K mainGlobals "_law_start" = some (some (.ref f19)))
    (l19 : K.lookup f19 = some ⟨oc19, od19, .func (PySem.W.fnOf "_law_start" "_law_start" (defArgs s_l_start) (defBody s_l_start) (defScope s_l_start) .none kV19 dc19 pm19 an19 cd19 ct19), sl19⟩)
    (c19 : PySem.W.codeIn K cd19 "_law_start" = true)
    (k19 : PySem.W.keepIn K (.ref f19) = true)
    (a20 : PySem.W.nsIn K mainGlobals "_law_item" = some (some (.ref f20)))
    (l20 : K.lookup f20 = some ⟨oc20, od20, .func (PySem.W.fnOf "_law_item" "_law_item" (defArgs s_l_item) (defBody s_l_item) (defScope s_l_item) .none kV20 dc20 pm20 an20 cd20 ct20), sl20⟩)
    (c20 : PySem.W.codeIn K cd20 "_law_item" = true)
    (k20 : PySem.W.keepIn K (.ref f20) = true)
    (a21 : PySem.W.nsIn K mainGlobals "_law_is" = some (some (.ref f21)))
    (l21 : K.lookup f21 = some ⟨oc21, od21, .func (PySem.W.fnOf "_law_is" "_law_is" (defArgs s_l_is) (defBody s_l_is) (defScope s_l_is) .none kV21 dc21 pm21 an21 cd21 ct21), sl21⟩)
    (c21 : PySem.W.codeIn K cd21 "_law_is" = true)
    (k21 : PySem.W.keepIn K (.ref f21) = true)
    (a22 : PySem.W.nsIn K mainGlobals "_law_refused" = some (some (.ref f22)))
    (l22 : K.lookup f22 = some ⟨oc22, od22, .func (PySem.W.fnOf "_law_refused" "_law_refused" (defArgs s_l_refused) (defBody s_l_refused) (defScope s_l_refused) .none kV22 dc22 pm22 an22 cd22 ct22), sl22⟩)
    (c22 : PySem.W.codeIn K cd22 "_law_refused" = true)
    (k22 : PySem.W.keepIn K (.ref f22) = true)
    (a23 : PySem.W.nsIn K mainGlobals "_law_asked" = some (some (.ref f23)))
    (l23 : K.lookup f23 = some ⟨oc23, od23, .func (PySem.W.fnOf "_law_asked" "_law_asked" (defArgs s_l_asked) (defBody s_l_asked) (defScope s_l_asked) .none kV23 dc23 pm23 an23 cd23 ct23), sl23⟩)
    (c23 : PySem.W.codeIn K cd23 "_law_asked" = true)
    (k23 : PySem.W.keepIn K (.ref f23) = true)
    (a24 : PySem.W.nsIn K mainGlobals "law" = some (some (.ref f24)))
    (l24 : K.lookup f24 = some ⟨oc24, od24, .func (PySem.W.fnOf "law" "law" (defArgs s_law) (defBody s_law) (defScope s_law) .none kV24 dc24 pm24 an24 cd24 ct24), sl24⟩)
    (c24 : PySem.W.codeIn K cd24 "law" = true)
    (k24 : PySem.W.keepIn K (.ref f24) = true)
    (aC_LookerError : PySem.W.nsIn K mainGlobals "LookerError" = some (some (.ref C_LookerError)))
    (aC_BadLiteral : PySem.W.nsIn K mainGlobals "BadLiteral" = some (some (.ref C_BadLiteral)))
    (aC_BadOrder : PySem.W.nsIn K mainGlobals "BadOrder" = some (some (.ref C_BadOrder)))
    (aC_Propagation : PySem.W.nsIn K mainGlobals "Propagation" = some (some (.ref C_Propagation)))
    (iL : PySem.W.isClsIn K C_LookerError = true)
    (tL : PySem.W.typeIn K (.ref C_LookerError) = some (.type "type"))
    {nm_BadLiteral q_BadLiteral : Str} {N_BadLiteral : Addr} {bs_BadLiteral : List Value} {sn_BadLiteral : List Str} {sub_BadLiteral : List Value} {ab_BadLiteral : Bool} {col_BadLiteral : Option Bool} {dd_BadLiteral : Option Addr} {m0_BadLiteral m1_BadLiteral m2_BadLiteral m3_BadLiteral m5_BadLiteral : Option Value}
    (xL_BadLiteral : K.lookup C_BadLiteral = some (excClassObj nm_BadLiteral q_BadLiteral C_BadLiteral N_BadLiteral bs_BadLiteral [.ref C_LookerError, .type "ValueError", .type "Exception", .type "BaseException", .type "object"] true sn_BadLiteral sub_BadLiteral ab_BadLiteral col_BadLiteral dd_BadLiteral m0_BadLiteral m1_BadLiteral m2_BadLiteral m3_BadLiteral m5_BadLiteral "ValueError.__new__"))
    (sa_BadLiteral : PySem.W.findIn K (.ref C_BadLiteral) "__setattr__" = some (some (.builtin "object.__setattr__")))
    (ga_BadLiteral : PySem.W.findIn K (.ref C_BadLiteral) "__getattribute__" = some (some (.builtin "BaseException.__getattribute__")))
    (gg_BadLiteral : PySem.W.findIn K (.ref C_BadLiteral) "__getattr__" = some none)
    (no_BadLiteral : PySem.W.findIn K (.ref C_BadLiteral) "value" = some none)
    (iC_BadLiteral : PySem.W.findIn K (.ref C_BadLiteral) "__init__" = some (some (.ref f25)))
    (tI_BadLiteral : PySem.W.typeIn K (.ref f25) = some (.type "function"))
    (l25 : K.lookup f25 = some ⟨oc25, od25, .func (PySem.W.fnOf "__init__" "BadLiteral.__init__" (defArgs init_BadLiteral) (defBody init_BadLiteral) (defScope init_BadLiteral) .none kV25 dc25 pm25 an25 cd25 ct25), sl25⟩)
    (c25 : PySem.W.codeIn K cd25 "BadLiteral.__init__" = true)
    (k25 : PySem.W.keepIn K (.ref f25) = true)
    (kC_BadLiteral : PySem.W.keepIn K (.ref C_BadLiteral) = true)
    (eC_BadLiteral : PySem.W.subIn K (.ref C_BadLiteral) (.type "BaseException") = some true)
    (tC_BadLiteral : PySem.W.typeIn K (.ref C_BadLiteral) = some (.type "type"))
    (hC_BadLiteral : PySem.W.hasDictIn K C_BadLiteral = true)
    (sC_BadLiteral : PySem.W.subIn K (.ref C_BadLiteral) (.ref C_BadLiteral) = some true)
    (su_BadLiteral : PySem.W.subIn K (.ref C_BadLiteral) (.ref C_LookerError) = some true)
    {nm_BadOrder q_BadOrder : Str} {N_BadOrder : Addr} {bs_BadOrder : List Value} {sn_BadOrder : List Str} {sub_BadOrder : List Value} {ab_BadOrder : Bool} {col_BadOrder : Option Bool} {dd_BadOrder : Option Addr} {m0_BadOrder m1_BadOrder m2_BadOrder m3_BadOrder m5_BadOrder : Option Value}
    (xL_BadOrder : K.lookup C_BadOrder = some (excClassObj nm_BadOrder q_BadOrder C_BadOrder N_BadOrder bs_BadOrder [.ref C_LookerError, .type "ValueError", .type "Exception", .type "BaseException", .type "object"] true sn_BadOrder sub_BadOrder ab_BadOrder col_BadOrder dd_BadOrder m0_BadOrder m1_BadOrder m2_BadOrder m3_BadOrder m5_BadOrder "ValueError.__new__"))
    (sa_BadOrder : PySem.W.findIn K (.ref C_BadOrder) "__setattr__" = some (some (.builtin "object.__setattr__")))
    (ga_BadOrder : PySem.W.findIn K (.ref C_BadOrder) "__getattribute__" = some (some (.builtin "BaseException.__getattribute__")))
    (gg_BadOrder : PySem.W.findIn K (.ref C_BadOrder) "__getattr__" = some none)
    (no_BadOrder : PySem.W.findIn K (.ref C_BadOrder) "value" = some none)
    (iC_BadOrder : PySem.W.findIn K (.ref C_BadOrder) "__init__" = some (some (.ref f26)))
    (tI_BadOrder : PySem.W.typeIn K (.ref f26) = some (.type "function"))
    (l26 : K.lookup f26 = some ⟨oc26, od26, .func (PySem.W.fnOf "__init__" "BadOrder.__init__" (defArgs init_BadOrder) (defBody init_BadOrder) (defScope init_BadOrder) .none kV26 dc26 pm26 an26 cd26 ct26), sl26⟩)
    (c26 : PySem.W.codeIn K cd26 "BadOrder.__init__" = true)
    (k26 : PySem.W.keepIn K (.ref f26) = true)
    (kC_BadOrder : PySem.W.keepIn K (.ref C_BadOrder) = true)
    (eC_BadOrder : PySem.W.subIn K (.ref C_BadOrder) (.type "BaseException") = some true)
    (tC_BadOrder : PySem.W.typeIn K (.ref C_BadOrder) = some (.type "type"))
    (hC_BadOrder : PySem.W.hasDictIn K C_BadOrder = true)
    (sC_BadOrder : PySem.W.subIn K (.ref C_BadOrder) (.ref C_BadOrder) = some true)
    (su_BadOrder : PySem.W.subIn K (.ref C_BadOrder) (.ref C_LookerError) = some true)
    (xHn : PySem.W.specialIn K (.builtin "object.__class__") "__get__" = some (some (.builtin "getset_descriptor.__get__")))
    (xHt : PySem.W.takesIn K (.builtin "object.__class__") = some true)
    (xA_BadLiteral : PySem.W.findIn K (.ref C_BadLiteral) "__class__" = some (some (.builtin "object.__class__")))
    (xM_BadLiteral : PySem.W.mroIn K C_BadLiteral (.type "object") = some true)
    (xI_BadLiteral : PySem.W.isClsIn K C_BadLiteral = true)
    (xN_BadLiteral : PySem.W.subIn K (.ref C_BadLiteral) (.ref C_BadOrder) = some false)
    (xA_BadOrder : PySem.W.findIn K (.ref C_BadOrder) "__class__" = some (some (.builtin "object.__class__")))
    (xM_BadOrder : PySem.W.mroIn K C_BadOrder (.type "object") = some true)
    (xI_BadOrder : PySem.W.isClsIn K C_BadOrder = true)
    (xN_BadOrder : PySem.W.subIn K (.ref C_BadOrder) (.ref C_BadLiteral) = some false)
    (o_pg : PySem.W.plainGet K C_Propagation Str.empty = true)
    (o_hd : PySem.W.hasDictIn K C_Propagation = true)
    (o_po : PySem.W.plainOver K C_Propagation = true)
    (o_sa : PySem.W.findIn K (.ref C_Propagation) "__setattr__" = some (some (.builtin "object.__setattr__")))
    (o_ha : PySem.W.findIn K (.ref C_Propagation) "__class__" = some (some (.builtin "object.__class__")))
    (o_hm : PySem.W.mroIn K C_Propagation (.type "object") = some true)
    (o_mk : PySem.W.makesIn K C_Propagation = true)
    (o_kp : PySem.W.keepIn K (.ref C_Propagation) = true)
    (o_ic : PySem.W.isClsIn K C_Propagation = true)
    (o_ty : PySem.W.typeIn K (.ref C_Propagation) = some (.type "type"))
    (o_sc : PySem.W.subIn K (.ref C_Propagation) (.ref C_Propagation) = some true)
    (o_nsteps : PySem.W.findIn K (.ref C_Propagation) "steps" = some none)
    (o_nclash : PySem.W.findIn K (.ref C_Propagation) "clash" = some none)
    (o_nliterals : PySem.W.findIn K (.ref C_Propagation) "literals" = some none)
    (o_nlabels : PySem.W.findIn K (.ref C_Propagation) "_labels" = some none)
    (m_init : PySem.W.findIn K (.ref C_Propagation) "__init__" = some (some (.ref f27)))
    (l27 : K.lookup f27 = some ⟨oc27, od27, .func (PySem.W.fnOf "__init__" "Propagation.__init__" (defArgs s_Propagation_init) (defBody s_Propagation_init) (defScope s_Propagation_init) .none kV27 dc27 pm27 an27 cd27 ct27), sl27⟩)
    (c27 : PySem.W.codeIn K cd27 "Propagation.__init__" = true)
    (k27 : PySem.W.keepIn K (.ref f27) = true)
    (j27 : PySem.W.isFn K (.ref f27) = true)
    (m_len : PySem.W.findIn K (.ref C_Propagation) "__len__" = some (some (.ref f28)))
    (l28 : K.lookup f28 = some ⟨oc28, od28, .func (PySem.W.fnOf "__len__" "Propagation.__len__" (defArgs s_Propagation_len) (defBody s_Propagation_len) (defScope s_Propagation_len) .none kV28 dc28 pm28 an28 cd28 ct28), sl28⟩)
    (c28 : PySem.W.codeIn K cd28 "Propagation.__len__" = true)
    (k28 : PySem.W.keepIn K (.ref f28) = true)
    (j28 : PySem.W.isFn K (.ref f28) = true)
    (m_iter : PySem.W.findIn K (.ref C_Propagation) "__iter__" = some (some (.ref f29)))
    (l29 : K.lookup f29 = some ⟨oc29, od29, .func (PySem.W.fnOf "__iter__" "Propagation.__iter__" (defArgs s_Propagation_iter) (defBody s_Propagation_iter) (defScope s_Propagation_iter) .none kV29 dc29 pm29 an29 cd29 ct29), sl29⟩)
    (c29 : PySem.W.codeIn K cd29 "Propagation.__iter__" = true)
    (k29 : PySem.W.keepIn K (.ref f29) = true)
    (j29 : PySem.W.isFn K (.ref f29) = true)
    (m_contains : PySem.W.findIn K (.ref C_Propagation) "__contains__" = some (some (.ref f30)))
    (l30 : K.lookup f30 = some ⟨oc30, od30, .func (PySem.W.fnOf "__contains__" "Propagation.__contains__" (defArgs s_Propagation_contains) (defBody s_Propagation_contains) (defScope s_Propagation_contains) .none kV30 dc30 pm30 an30 cd30 ct30), sl30⟩)
    (c30 : PySem.W.codeIn K cd30 "Propagation.__contains__" = true)
    (k30 : PySem.W.keepIn K (.ref f30) = true)
    (j30 : PySem.W.isFn K (.ref f30) = true)
    (m_getitem : PySem.W.findIn K (.ref C_Propagation) "__getitem__" = some (some (.ref f31)))
    (l31 : K.lookup f31 = some ⟨oc31, od31, .func (PySem.W.fnOf "__getitem__" "Propagation.__getitem__" (defArgs s_Propagation_getitem) (defBody s_Propagation_getitem) (defScope s_Propagation_getitem) .none kV31 dc31 pm31 an31 cd31 ct31), sl31⟩)
    (c31 : PySem.W.codeIn K cd31 "Propagation.__getitem__" = true)
    (k31 : PySem.W.keepIn K (.ref f31) = true)
    (j31 : PySem.W.isFn K (.ref f31) = true)
    (jG : PySem.W.fnIn K f31 = true)
    (z_ValueError : PySem.W.nsIn K mainGlobals "ValueError" = some none)
    (z_all : PySem.W.nsIn K mainGlobals "all" = some none)
    (z_bool : PySem.W.nsIn K mainGlobals "bool" = some none)
    (z_dict : PySem.W.nsIn K mainGlobals "dict" = some none)
    (z_int : PySem.W.nsIn K mainGlobals "int" = some none)
    (z_isinstance : PySem.W.nsIn K mainGlobals "isinstance" = some none)
    (z_iter : PySem.W.nsIn K mainGlobals "iter" = some none)
    (z_len : PySem.W.nsIn K mainGlobals "len" = some none)
    (z_list : PySem.W.nsIn K mainGlobals "list" = some none)
    (z_range : PySem.W.nsIn K mainGlobals "range" = some none)
    (z_sorted : PySem.W.nsIn K mainGlobals "sorted" = some none)
    (z_str : PySem.W.nsIn K mainGlobals "str" = some none)
    (z_tuple : PySem.W.nsIn K mainGlobals "tuple" = some none)
    : ∃ fd : FuncData, (∀ (s : Shared) (v : Value), BindsTo s fd ⟨[v], []⟩ [("_law_script", v)]) ∧ ∀ base : Heap, K.In base → base.Ns mainGlobals mg → FnOk l.prog w K mg base CX0 33 fa fd ["_law_script"] (spLaw K) := by
  have e := hfa.symm.trans (PySem.W.mg_of X G a24)
  cases e
  have F1 := fun_mk (st := s_wall) l1 c1 k1
  have b1 := F1.binds (ps := ["k"]) fun _ _ _ _ _ _ us hl => match us, hl with | [_], _ => rfl
  have F2 := fun_mk (st := s_is_int) l2 c2 k2
  have b2 := F2.binds (ps := ["value"]) fun _ _ _ _ _ _ us hl => match us, hl with | [_], _ => rfl
  have F3 := fun_mk (st := s_negated) l3 c3 k3
  have b3 := F3.binds (ps := ["literal"]) fun _ _ _ _ _ _ us hl => match us, hl with | [_], _ => rfl
  have F4 := fun_mk (st := s_undenied) l4 c4 k4
  have b4 := F4.binds (ps := ["clause", "held"]) fun _ _ _ _ _ _ us hl => match us, hl with | [_, _], _ => rfl
  have F5 := fun_mk (st := s_next_step) l5 c5 k5
  have b5 := F5.binds (ps := ["clauses", "order", "held"]) fun _ _ _ _ _ _ us hl => match us, hl with | [_, _, _], _ => rfl
  have F6 := fun_mk (st := s_checked_order) l6 c6 k6
  have b6 := F6.binds (ps := ["clauses", "order"]) fun _ _ _ _ _ _ us hl => match us, hl with | [_, _], _ => rfl
  have F8 := fun_mk (st := s_l_state) l8 c8 k8
  have b8 := F8.binds (ps := ["_law_script"]) fun _ _ _ _ _ _ us hl => match us, hl with | [_], _ => rfl
  have F9 := fun_mk (st := s_l_draw) l9 c9 k9
  have b9 := F9.binds (ps := ["_law_state_here", "_law_many"]) fun _ _ _ _ _ _ us hl => match us, hl with | [_, _], _ => rfl
  have F10 := fun_mk (st := s_l_alike) l10 c10 k10
  have b10 := F10.binds (ps := ["_law_actual", "_law_due"]) fun _ _ _ _ _ _ us hl => match us, hl with | [_, _], _ => rfl
  have F11 := fun_mk (st := s_l_atom_row) l11 c11 k11
  have b11 := F11.binds (ps := ["_law_state_here", "_law_count"]) fun _ _ _ _ _ _ us hl => match us, hl with | [_, _], _ => rfl
  have F12 := fun_mk (st := s_l_clause) l12 c12 k12
  have b12 := F12.binds (ps := ["_law_state_here", "_law_atoms", "_law_most"]) fun _ _ _ _ _ _ us hl => match us, hl with | [_, _, _], _ => rfl
  have F13 := fun_mk (st := s_l_clauses) l13 c13 k13
  have b13 := F13.binds (ps := ["_law_state_here", "_law_atoms", "_law_many", "_law_most"]) fun _ _ _ _ _ _ us hl => match us, hl with | [_, _, _, _], _ => rfl
  have F14 := fun_mk (st := s_l_dict) l14 c14 k14
  have b14 := F14.binds (ps := ["_law_rows"]) fun _ _ _ _ _ _ us hl => match us, hl with | [_], _ => rfl
  have F15 := fun_mk (st := s_l_by_label) l15 c15 k15
  have b15 := F15.binds (ps := ["_law_rows"]) fun _ _ _ _ _ _ us hl => match us, hl with | [_], _ => rfl
  have F16 := fun_mk (st := s_l_not) l16 c16 k16
  have b16 := F16.binds (ps := ["_law_literal"]) fun _ _ _ _ _ _ us hl => match us, hl with | [_], _ => rfl
  have F17 := fun_mk (st := s_l_left) l17 c17 k17
  have b17 := F17.binds (ps := ["_law_clause_here", "_law_held"]) fun _ _ _ _ _ _ us hl => match us, hl with | [_, _], _ => rfl
  have F18 := fun_mk (st := s_l_propagated) l18 c18 k18
  have b18 := F18.binds (ps := ["_law_rows", "_law_start_here"]) fun _ _ _ _ _ _ us hl => match us, hl with | [_, _], _ => rfl
  have F19 := fun_mk (st := s_l_start) l19 c19 k19
  have b19 := F19.binds (ps := ["_law_state_here", "_law_atoms"]) fun _ _ _ _ _ _ us hl => match us, hl with | [_, _], _ => rfl
  have F20 := fun_mk (st := s_l_item) l20 c20 k20
  have b20 := F20.binds (ps := ["_law_found", "_law_literal"]) fun _ _ _ _ _ _ us hl => match us, hl with | [_, _], _ => rfl
  have F21 := fun_mk (st := s_l_is) l21 c21 k21
  have b21 := F21.binds (ps := ["_law_found", "_law_due", "_law_atoms"]) fun _ _ _ _ _ _ us hl => match us, hl with | [_, _, _], _ => rfl
  have F22 := fun_mk (st := s_l_refused) l22 c22 k22
  have b22 := F22.binds (ps := ["_law_clauses_here", "_law_start_here", "_law_labels"]) fun _ _ _ _ _ _ us hl => match us, hl with | [_, _, _], _ => rfl
  have F23 := fun_mk (st := s_l_asked) l23 c23 k23
  have b23 := F23.binds (ps := ["_law_state_here", "_law_rows", "_law_atoms", "_law_start_here"]) fun _ _ _ _ _ _ us hl => match us, hl with | [_, _, _, _], _ => rfl
  have F24 := fun_mk (st := s_law) l24 c24 k24
  have b24 := F24.binds (ps := ["_law_script"]) fun _ _ _ _ _ _ us hl => match us, hl with | [_], _ => rfl
  have F7 : FunD K "propagate" "propagate" (defArgs s_propagate) (defBody s_propagate) (defScope s_propagate) [.ref E0] [("order", .non)] f7 (PySem.W.fnOf "propagate" "propagate" (defArgs s_propagate) (defBody s_propagate) (defScope s_propagate) (.ref T_propagate) (.ref D_propagate) dc7 pm7 an7 cd7 ct7) :=
    ⟨⟨_, _, _, _, _, _, _, _, _, _, rfl, l7, c7, .inr ⟨by simp, T_propagate, _, [.ref E0], nT, rfl, lT, rfl, .cons rfl .nil⟩, .inr ⟨D_propagate, rfl, fun q hq => by
      rw [List.mem_singleton.mp hq]
      exact ⟨_, q_propagate_order, rfl⟩⟩⟩, k7⟩
  let ad : Ad := { e0 := E0, f_wall := f1, d_wall := (PySem.W.fnOf "_wall" "_wall" (defArgs s_wall) (defBody s_wall) (defScope s_wall) .none kV1 dc1 pm1 an1 cd1 ct1), f_is_int := f2, d_is_int := (PySem.W.fnOf "is_int" "is_int" (defArgs s_is_int) (defBody s_is_int) (defScope s_is_int) .none kV2 dc2 pm2 an2 cd2 ct2), f_negated := f3, d_negated := (PySem.W.fnOf "negated" "negated" (defArgs s_negated) (defBody s_negated) (defScope s_negated) .none kV3 dc3 pm3 an3 cd3 ct3), f_undenied := f4, d_undenied := (PySem.W.fnOf "_undenied" "_undenied" (defArgs s_undenied) (defBody s_undenied) (defScope s_undenied) .none kV4 dc4 pm4 an4 cd4 ct4), f_next_step := f5, d_next_step := (PySem.W.fnOf "_next_step" "_next_step" (defArgs s_next_step) (defBody s_next_step) (defScope s_next_step) .none kV5 dc5 pm5 an5 cd5 ct5), f_checked_order := f6, d_checked_order := (PySem.W.fnOf "_checked_order" "_checked_order" (defArgs s_checked_order) (defBody s_checked_order) (defScope s_checked_order) .none kV6 dc6 pm6 an6 cd6 ct6), f_propagate := f7, d_propagate := (PySem.W.fnOf "propagate" "propagate" (defArgs s_propagate) (defBody s_propagate) (defScope s_propagate) (.ref T_propagate) (.ref D_propagate) dc7 pm7 an7 cd7 ct7), f_l_state := f8, d_l_state := (PySem.W.fnOf "_law_state" "_law_state" (defArgs s_l_state) (defBody s_l_state) (defScope s_l_state) .none kV8 dc8 pm8 an8 cd8 ct8), f_l_draw := f9, d_l_draw := (PySem.W.fnOf "_law_draw" "_law_draw" (defArgs s_l_draw) (defBody s_l_draw) (defScope s_l_draw) .none kV9 dc9 pm9 an9 cd9 ct9), f_l_alike := f10, d_l_alike := (PySem.W.fnOf "_law_alike" "_law_alike" (defArgs s_l_alike) (defBody s_l_alike) (defScope s_l_alike) .none kV10 dc10 pm10 an10 cd10 ct10), f_l_atom_row := f11, d_l_atom_row := (PySem.W.fnOf "_law_atom_row" "_law_atom_row" (defArgs s_l_atom_row) (defBody s_l_atom_row) (defScope s_l_atom_row) .none kV11 dc11 pm11 an11 cd11 ct11), f_l_clause := f12, d_l_clause := (PySem.W.fnOf "_law_clause" "_law_clause" (defArgs s_l_clause) (defBody s_l_clause) (defScope s_l_clause) .none kV12 dc12 pm12 an12 cd12 ct12), f_l_clauses := f13, d_l_clauses := (PySem.W.fnOf "_law_clauses" "_law_clauses" (defArgs s_l_clauses) (defBody s_l_clauses) (defScope s_l_clauses) .none kV13 dc13 pm13 an13 cd13 ct13), f_l_dict := f14, d_l_dict := (PySem.W.fnOf "_law_dict" "_law_dict" (defArgs s_l_dict) (defBody s_l_dict) (defScope s_l_dict) .none kV14 dc14 pm14 an14 cd14 ct14), f_l_by_label := f15, d_l_by_label := (PySem.W.fnOf "_law_by_label" "_law_by_label" (defArgs s_l_by_label) (defBody s_l_by_label) (defScope s_l_by_label) .none kV15 dc15 pm15 an15 cd15 ct15), f_l_not := f16, d_l_not := (PySem.W.fnOf "_law_not" "_law_not" (defArgs s_l_not) (defBody s_l_not) (defScope s_l_not) .none kV16 dc16 pm16 an16 cd16 ct16), f_l_left := f17, d_l_left := (PySem.W.fnOf "_law_left" "_law_left" (defArgs s_l_left) (defBody s_l_left) (defScope s_l_left) .none kV17 dc17 pm17 an17 cd17 ct17), f_l_propagated := f18, d_l_propagated := (PySem.W.fnOf "_law_propagated" "_law_propagated" (defArgs s_l_propagated) (defBody s_l_propagated) (defScope s_l_propagated) .none kV18 dc18 pm18 an18 cd18 ct18), f_l_start := f19, d_l_start := (PySem.W.fnOf "_law_start" "_law_start" (defArgs s_l_start) (defBody s_l_start) (defScope s_l_start) .none kV19 dc19 pm19 an19 cd19 ct19), f_l_item := f20, d_l_item := (PySem.W.fnOf "_law_item" "_law_item" (defArgs s_l_item) (defBody s_l_item) (defScope s_l_item) .none kV20 dc20 pm20 an20 cd20 ct20), f_l_is := f21, d_l_is := (PySem.W.fnOf "_law_is" "_law_is" (defArgs s_l_is) (defBody s_l_is) (defScope s_l_is) .none kV21 dc21 pm21 an21 cd21 ct21), f_l_refused := f22, d_l_refused := (PySem.W.fnOf "_law_refused" "_law_refused" (defArgs s_l_refused) (defBody s_l_refused) (defScope s_l_refused) .none kV22 dc22 pm22 an22 cd22 ct22), f_l_asked := f23, d_l_asked := (PySem.W.fnOf "_law_asked" "_law_asked" (defArgs s_l_asked) (defBody s_l_asked) (defScope s_l_asked) .none kV23 dc23 pm23 an23 cd23 ct23), f_law := fa, d_law := (PySem.W.fnOf "law" "law" (defArgs s_law) (defBody s_law) (defScope s_law) .none kV24 dc24 pm24 an24 cd24 ct24), c_LookerError := C_LookerError, c_BadLiteral := C_BadLiteral, c_BadOrder := C_BadOrder, c_Propagation := C_Propagation }
  have T : Top K mg ad :=
    { sq0 := fun _ => .inr ⟨_, _, _, lE, rfl, rfl, Nat.zero_le _, .nil⟩,
      F_wall := F1,
      m_wall := PySem.W.mg_of X G a1,
      b_wall := b1,
      F_is_int := F2,
      m_is_int := PySem.W.mg_of X G a2,
      b_is_int := b2,
      F_negated := F3,
      m_negated := PySem.W.mg_of X G a3,
      b_negated := b3,
      F_undenied := F4,
      m_undenied := PySem.W.mg_of X G a4,
      b_undenied := b4,
      F_next_step := F5,
      m_next_step := PySem.W.mg_of X G a5,
      b_next_step := b5,
      F_checked_order := F6,
      m_checked_order := PySem.W.mg_of X G a6,
      b_checked_order := b6,
      F_propagate := F7,
      m_propagate := PySem.W.mg_of X G a7,
      F_l_state := F8,
      m_l_state := PySem.W.mg_of X G a8,
      b_l_state := b8,
      F_l_draw := F9,
      m_l_draw := PySem.W.mg_of X G a9,
      b_l_draw := b9,
      F_l_alike := F10,
      m_l_alike := PySem.W.mg_of X G a10,
      b_l_alike := b10,
      F_l_atom_row := F11,
      m_l_atom_row := PySem.W.mg_of X G a11,
      b_l_atom_row := b11,
      F_l_clause := F12,
      m_l_clause := PySem.W.mg_of X G a12,
      b_l_clause := b12,
      F_l_clauses := F13,
      m_l_clauses := PySem.W.mg_of X G a13,
      b_l_clauses := b13,
      F_l_dict := F14,
      m_l_dict := PySem.W.mg_of X G a14,
      b_l_dict := b14,
      F_l_by_label := F15,
      m_l_by_label := PySem.W.mg_of X G a15,
      b_l_by_label := b15,
      F_l_not := F16,
      m_l_not := PySem.W.mg_of X G a16,
      b_l_not := b16,
      F_l_left := F17,
      m_l_left := PySem.W.mg_of X G a17,
      b_l_left := b17,
      F_l_propagated := F18,
      m_l_propagated := PySem.W.mg_of X G a18,
      b_l_propagated := b18,
      F_l_start := F19,
      m_l_start := PySem.W.mg_of X G a19,
      b_l_start := b19,
      F_l_item := F20,
      m_l_item := PySem.W.mg_of X G a20,
      b_l_item := b20,
      F_l_is := F21,
      m_l_is := PySem.W.mg_of X G a21,
      b_l_is := b21,
      F_l_refused := F22,
      m_l_refused := PySem.W.mg_of X G a22,
      b_l_refused := b22,
      F_l_asked := F23,
      m_l_asked := PySem.W.mg_of X G a23,
      b_l_asked := b23,
      F_law := F24,
      m_law := PySem.W.mg_of X G a24,
      b_law := b24,
      m_LookerError := PySem.W.mg_of X G aC_LookerError,
      m_BadLiteral := PySem.W.mg_of X G aC_BadLiteral,
      m_BadOrder := PySem.W.mg_of X G aC_BadOrder,
      m_Propagation := PySem.W.mg_of X G aC_Propagation,
      z_ValueError := PySem.W.mg_none_of X G z_ValueError,
      z_all := PySem.W.mg_none_of X G z_all,
      z_bool := PySem.W.mg_none_of X G z_bool,
      z_dict := PySem.W.mg_none_of X G z_dict,
      z_int := PySem.W.mg_none_of X G z_int,
      z_isinstance := PySem.W.mg_none_of X G z_isinstance,
      z_iter := PySem.W.mg_none_of X G z_iter,
      z_len := PySem.W.mg_none_of X G z_len,
      z_list := PySem.W.mg_none_of X G z_list,
      z_range := PySem.W.mg_none_of X G z_range,
      z_sorted := PySem.W.mg_none_of X G z_sorted,
      z_str := PySem.W.mg_none_of X G z_str,
      z_tuple := PySem.W.mg_none_of X G z_tuple }
  have FI_BadLiteral := fun_mk (st := init_BadLiteral) l25 c25 k25
  have bI_BadLiteral := FI_BadLiteral.binds (ps := ["self", "value"]) fun _ _ _ _ _ _ us hl => match us, hl with | [_, _], _ => rfl
  have ox_BadLiteral : OexC K C_BadLiteral := ⟨⟨_, _, _, _, _, _, _, _, _, _, _, _, _, _, _, xL_BadLiteral, kit_ve⟩, sa_BadLiteral, eC_BadLiteral, tC_BadLiteral, kC_BadLiteral⟩
  have te_BadLiteral := PySem.W.exm_ref eC_BadLiteral hC_BadLiteral tC_BadLiteral sC_BadLiteral
  have FI_BadOrder := fun_mk (st := init_BadOrder) l26 c26 k26
  have bI_BadOrder := FI_BadOrder.binds (ps := ["self", "value"]) fun _ _ _ _ _ _ us hl => match us, hl with | [_, _], _ => rfl
  have ox_BadOrder : OexC K C_BadOrder := ⟨⟨_, _, _, _, _, _, _, _, _, _, _, _, _, _, _, xL_BadOrder, kit_ve⟩, sa_BadOrder, eC_BadOrder, tC_BadOrder, kC_BadOrder⟩
  have te_BadOrder := PySem.W.exm_ref eC_BadOrder hC_BadOrder tC_BadOrder sC_BadOrder
  have EX_BadLiteral : ErX K C_BadLiteral C_LookerError C_BadOrder f25 _ "BadLiteral.__init__" init_BadLiteral := ⟨ox_BadLiteral, iC_BadLiteral, tI_BadLiteral, no_BadLiteral, FI_BadLiteral, bI_BadLiteral, ⟨ga_BadLiteral, gg_BadLiteral, eC_BadLiteral, hC_BadLiteral⟩, ⟨ga_BadLiteral, gg_BadLiteral, eC_BadLiteral, hC_BadLiteral, xA_BadLiteral, xHn, xHt, xM_BadLiteral⟩, te_BadLiteral, kit_one (kit_sub iL tL su_BadLiteral), kit_no sC_BadLiteral (kit_sub xI_BadOrder tC_BadOrder xN_BadLiteral) xN_BadLiteral⟩
  have EX_BadOrder : ErX K C_BadOrder C_LookerError C_BadLiteral f26 _ "BadOrder.__init__" init_BadOrder := ⟨ox_BadOrder, iC_BadOrder, tI_BadOrder, no_BadOrder, FI_BadOrder, bI_BadOrder, ⟨ga_BadOrder, gg_BadOrder, eC_BadOrder, hC_BadOrder⟩, ⟨ga_BadOrder, gg_BadOrder, eC_BadOrder, hC_BadOrder, xA_BadOrder, xHn, xHt, xM_BadOrder⟩, te_BadOrder, kit_one (kit_sub iL tL su_BadOrder), kit_no sC_BadOrder (kit_sub xI_BadLiteral tC_BadLiteral xN_BadOrder) xN_BadOrder⟩
  have FM_init := fun_mk (st := s_Propagation_init) l27 c27 k27
  have bM_init := FM_init.binds (ps := ["self", "steps", "clash"]) fun _ _ _ _ _ _ us hl => match us, hl with | [_, _, _], _ => rfl
  have FM_len := fun_mk (st := s_Propagation_len) l28 c28 k28
  have bM_len := FM_len.binds (ps := ["self"]) fun _ _ _ _ _ _ us hl => match us, hl with | [_], _ => rfl
  have FM_iter := fun_mk (st := s_Propagation_iter) l29 c29 k29
  have bM_iter := FM_iter.binds (ps := ["self"]) fun _ _ _ _ _ _ us hl => match us, hl with | [_], _ => rfl
  have FM_contains := fun_mk (st := s_Propagation_contains) l30 c30 k30
  have bM_contains := FM_contains.binds (ps := ["self", "x"]) fun _ _ _ _ _ _ us hl => match us, hl with | [_, _], _ => rfl
  have FM_getitem := fun_mk (st := s_Propagation_getitem) l31 c31 k31
  have bM_getitem := FM_getitem.binds (ps := ["self", "at"]) fun _ _ _ _ _ _ us hl => match us, hl with | [_, _], _ => rfl
  have B : PrC K C_Propagation ⟨f27, f28, f29, f30, f31, _, _, _, _, _⟩ := { ins := ⟨⟨o_pg, o_hd, o_po, o_sa⟩, o_ha, xHn, xHt, o_hm, kit_one (kit_sub o_ic o_ty o_sc)⟩, mkr := ⟨o_mk, m_init, j27, o_kp⟩, nS := o_nsteps, nC := o_nclash, nL := o_nliterals, nD := o_nlabels, F_I := FM_init, b_I := bM_init, F_L := FM_len, b_L := bM_len, F_T := FM_iter, b_T := bM_iter, F_N := FM_contains, b_N := bM_contains, F_G := FM_getitem, b_G := bM_getitem, itl := ⟨m_iter, j29, m_len, j28⟩, gs := m_getitem, gf := jG, gn := j31, cs := m_contains, cn := j30 }
  exact ⟨_, fun s v => .of_eq rfl, fun base _ _ => ok_law (a := ad) T B EX_BadLiteral EX_BadOrder⟩
end
end K15
open PySem PySem.W PyProof.Rows
set_option maxHeartbeats 0 in
theorem PySem.Challenge.cw_onelooker_k15_propagation_in_any_order_holds : PySem.Challenge.rw_onelooker_k15_propagation_in_any_order.Holds := by
  w_on; o_law; k_head; (case hw => w_witness2)
  k_fill
  refine L2.walk_of (l := PySem.Challenge.rw_onelooker_k15_propagation_in_any_order) (n := 63) (k := 33) (x := "_law_script") (CX := fun _ => L2.CX0) (sp := fun w => K15.spLaw _) rfl (by decide) rfl ⟨rfl, by decide, by decide⟩ (fun w h Y => PySem.W.kIn_of Y) ?F (fun _ _ a ns hl _ hS => ⟨a, ns, rfl, hS, fun _ => rfl⟩) (fun _ _ _ _ _ h => h)
  case F =>
    intro w mg fa h KX G hmg
    refine' K15.all_mk KX G hmg ?a1 ?l1 ?c1 ?k1 ?a2 ?l2 ?c2 ?k2 ?a3 ?l3 ?c3 ?k3 ?a4 ?l4 ?c4 ?k4 ?a5 ?l5 ?c5 ?k5 ?a6 ?l6 ?c6 ?k6 ?a7 ?l7 ?c7 ?k7 ?q_propagate_order ?lT ?lE ?a8 ?l8 ?c8 ?k8 ?a9 ?l9 ?c9 ?k9 ?a10 ?l10 ?c10 ?k10 ?a11 ?l11 ?c11 ?k11 ?a12 ?l12 ?c12 ?k12 ?a13 ?l13 ?c13 ?k13 ?a14 ?l14 ?c14 ?k14 ?a15 ?l15 ?c15 ?k15 ?a16 ?l16 ?c16 ?k16 ?a17 ?l17 ?c17 ?k17 ?a18 ?l18 ?c18 ?k18 ?a19 ?l19 ?c19 ?k19 ?a20 ?l20 ?c20 ?k20 ?a21 ?l21 ?c21 ?k21 ?a22 ?l22 ?c22 ?k22 ?a23 ?l23 ?c23 ?k23 ?a24 ?l24 ?c24 ?k24 ?aC_LookerError ?aC_BadLiteral ?aC_BadOrder ?aC_Propagation ?iL ?tL ?xL_BadLiteral ?sa_BadLiteral ?ga_BadLiteral ?gg_BadLiteral ?no_BadLiteral ?iC_BadLiteral ?tI_BadLiteral ?l25 ?c25 ?k25 ?kC_BadLiteral ?eC_BadLiteral ?tC_BadLiteral ?hC_BadLiteral ?sC_BadLiteral ?su_BadLiteral ?xL_BadOrder ?sa_BadOrder ?ga_BadOrder ?gg_BadOrder ?no_BadOrder ?iC_BadOrder ?tI_BadOrder ?l26 ?c26 ?k26 ?kC_BadOrder ?eC_BadOrder ?tC_BadOrder ?hC_BadOrder ?sC_BadOrder ?su_BadOrder ?xHn ?xHt ?xA_BadLiteral ?xM_BadLiteral ?xI_BadLiteral ?xN_BadLiteral ?xA_BadOrder ?xM_BadOrder ?xI_BadOrder ?xN_BadOrder ?o_pg ?o_hd ?o_po ?o_sa ?o_ha ?o_hm ?o_mk ?o_kp ?o_ic ?o_ty ?o_sc ?o_nsteps ?o_nclash ?o_nliterals ?o_nlabels ?m_init ?l27 ?c27 ?k27 ?j27 ?m_len ?l28 ?c28 ?k28 ?j28 ?m_iter ?l29 ?c29 ?k29 ?j29 ?m_contains ?l30 ?c30 ?k30 ?j30 ?m_getitem ?l31 ?c31 ?k31 ?j31 ?jG ?z_ValueError ?z_all ?z_bool ?z_dict ?z_int ?z_isinstance ?z_iter ?z_len ?z_list ?z_range ?z_sorted ?z_str ?z_tuple
    (case a1 => k_is)
    (case l1 => k_is)
    (case c1 => k_is)
    (case k1 => k_is)
    (case a2 => k_is)
    (case l2 => k_is)
    (case c2 => k_is)
    (case k2 => k_is)
    (case a3 => k_is)
    (case l3 => k_is)
    (case c3 => k_is)
    (case k3 => k_is)
    (case a4 => k_is)
    (case l4 => k_is)
    (case c4 => k_is)
    (case k4 => k_is)
    (case a5 => k_is)
    (case l5 => k_is)
    (case c5 => k_is)
    (case k5 => k_is)
    (case a6 => k_is)
    (case l6 => k_is)
    (case c6 => k_is)
    (case k6 => k_is)
    (case a7 => k_is)
    (case l7 => k_is)
    (case c7 => k_is)
    (case k7 => k_is)
    (case q_propagate_order => k_is)
    (case lT => k_is)
    (case lE => k_is)
    (case a8 => k_is)
    (case l8 => k_is)
    (case c8 => k_is)
    (case k8 => k_is)
    (case a9 => k_is)
    (case l9 => k_is)
    (case c9 => k_is)
    (case k9 => k_is)
    (case a10 => k_is)
    (case l10 => k_is)
    (case c10 => k_is)
    (case k10 => k_is)
    (case a11 => k_is)
    (case l11 => k_is)
    (case c11 => k_is)
    (case k11 => k_is)
    (case a12 => k_is)
    (case l12 => k_is)
    (case c12 => k_is)
    (case k12 => k_is)
    (case a13 => k_is)
    (case l13 => k_is)
    (case c13 => k_is)
    (case k13 => k_is)
    (case a14 => k_is)
    (case l14 => k_is)
    (case c14 => k_is)
    (case k14 => k_is)
    (case a15 => k_is)
    (case l15 => k_is)
    (case c15 => k_is)
    (case k15 => k_is)
    (case a16 => k_is)
    (case l16 => k_is)
    (case c16 => k_is)
    (case k16 => k_is)
    (case a17 => k_is)
    (case l17 => k_is)
    (case c17 => k_is)
    (case k17 => k_is)
    (case a18 => k_is)
    (case l18 => k_is)
    (case c18 => k_is)
    (case k18 => k_is)
    (case a19 => k_is)
    (case l19 => k_is)
    (case c19 => k_is)
    (case k19 => k_is)
    (case a20 => k_is)
    (case l20 => k_is)
    (case c20 => k_is)
    (case k20 => k_is)
    (case a21 => k_is)
    (case l21 => k_is)
    (case c21 => k_is)
    (case k21 => k_is)
    (case a22 => k_is)
    (case l22 => k_is)
    (case c22 => k_is)
    (case k22 => k_is)
    (case a23 => k_is)
    (case l23 => k_is)
    (case c23 => k_is)
    (case k23 => k_is)
    (case a24 => k_is)
    (case l24 => k_is)
    (case c24 => k_is)
    (case k24 => k_is)
    (case aC_LookerError => k_is)
    (case aC_BadLiteral => k_is)
    (case aC_BadOrder => k_is)
    (case aC_Propagation => k_is)
    (case iL => k_is)
    (case tL => k_is)
    (case xL_BadLiteral => k_is)
    (case sa_BadLiteral => k_is)
    (case ga_BadLiteral => k_is)
    (case gg_BadLiteral => k_is)
    (case no_BadLiteral => k_is)
    (case iC_BadLiteral => k_is)
    (case tI_BadLiteral => k_is)
    (case l25 => k_is)
    (case c25 => k_is)
    (case k25 => k_is)
    (case kC_BadLiteral => k_is)
    (case eC_BadLiteral => k_is)
    (case tC_BadLiteral => k_is)
    (case hC_BadLiteral => k_is)
    (case sC_BadLiteral => k_is)
    (case su_BadLiteral => k_is)
    (case xL_BadOrder => k_is)
    (case sa_BadOrder => k_is)
    (case ga_BadOrder => k_is)
    (case gg_BadOrder => k_is)
    (case no_BadOrder => k_is)
    (case iC_BadOrder => k_is)
    (case tI_BadOrder => k_is)
    (case l26 => k_is)
    (case c26 => k_is)
    (case k26 => k_is)
    (case kC_BadOrder => k_is)
    (case eC_BadOrder => k_is)
    (case tC_BadOrder => k_is)
    (case hC_BadOrder => k_is)
    (case sC_BadOrder => k_is)
    (case su_BadOrder => k_is)
    (case xHn => k_is)
    (case xHt => k_is)
    (case xA_BadLiteral => k_is)
    (case xM_BadLiteral => k_is)
    (case xI_BadLiteral => k_is)
    (case xN_BadLiteral => k_is)
    (case xA_BadOrder => k_is)
    (case xM_BadOrder => k_is)
    (case xI_BadOrder => k_is)
    (case xN_BadOrder => k_is)
    (case o_pg => k_is)
    (case o_hd => k_is)
    (case o_po => k_is)
    (case o_sa => k_is)
    (case o_ha => k_is)
    (case o_hm => k_is)
    (case o_mk => k_is)
    (case o_kp => k_is)
    (case o_ic => k_is)
    (case o_ty => k_is)
    (case o_sc => k_is)
    (case o_nsteps => k_is)
    (case o_nclash => k_is)
    (case o_nliterals => k_is)
    (case o_nlabels => k_is)
    (case m_init => k_is)
    (case l27 => k_is)
    (case c27 => k_is)
    (case k27 => k_is)
    (case j27 => k_is)
    (case m_len => k_is)
    (case l28 => k_is)
    (case c28 => k_is)
    (case k28 => k_is)
    (case j28 => k_is)
    (case m_iter => k_is)
    (case l29 => k_is)
    (case c29 => k_is)
    (case k29 => k_is)
    (case j29 => k_is)
    (case m_contains => k_is)
    (case l30 => k_is)
    (case c30 => k_is)
    (case k30 => k_is)
    (case j30 => k_is)
    (case m_getitem => k_is)
    (case l31 => k_is)
    (case c31 => k_is)
    (case k31 => k_is)
    (case j31 => k_is)
    (case jG => k_is)
    (case z_ValueError => k_is)
    (case z_all => k_is)
    (case z_bool => k_is)
    (case z_dict => k_is)
    (case z_int => k_is)
    (case z_isinstance => k_is)
    (case z_iter => k_is)
    (case z_len => k_is)
    (case z_list => k_is)
    (case z_range => k_is)
    (case z_sorted => k_is)
    (case z_str => k_is)
    (case z_tuple => k_is)

