import PyProof.Rows.All
import Wide.All
import OpenK.AllK
import Wide.FinOn
import HandS.ForMost
import HandS.SortKw
import HandS.TupAny
import KE.SortData
import KE.DatumOrd
import HandS.DictComp
import HandS.Conv
import HandS.Walk
import HandS.Star
import HandS.Zip
import HandS.TupSets
import HandS.SetFor
import HandS.ExcIs
import HandS.ExcField
import KE.KExcIs
import KE.GoesEnum
import KE.GoesMore
import KE.KDictZip
import HandS.Wide
import HandS.Style
import KE.KRevSl
import HandS.ClsMeth
import OpenK.KOps
import OpenK.KMeth
import HandS.Codes
import HandS.Words
import HandS.IterNext
import HandS.OwnIter
import PyProof.WalksMore
import PyProof.CollectWalk
import HandS.DictTup
import KE.KDictItemsList
import KE.KDictKeyed
import KE.KeyNested
import KE.KDictPairs
import KE.KDictCopyH
import HandS.Deep
import KE.KEqDict
import PyProof.NeData
import KE.KDictLaw
import HandS.CallSlots
import HandS.Defaults
import HandS.Iter
import KE.KDictWalk
import PyProof.InstEq
import HandS.SlotsOwn
import HandS.Strs
import PyProof.Rows.SeqMore
import HandS.Steps
import HandS.IsInst
import HandS.TryOnly
import HandS.Exc
import PySem.Challenge.RW_onelooker_k21_kinds_and_ring_parts
set_option Elab.async false
set_option linter.all false
set_option maxRecDepth 100000
set_option maxHeartbeats 4000000
namespace R0
open PySem PySem.Spec PyProof.Rows L2
/-! ### sorted(xs), the items any data: the one stable order -/
def sortV (xs : List V) (ds : List PyData) : List V := ((xs.zip ds).mergeSort (PySem.W.dataLe false Prod.snd)).map Prod.fst
def DepLe (n : Nat) (ds : List PyData) : Prop := ∀ d ∈ ds, d.depth ≤ n
theorem dpAll_len {K : PySem.W.Frag} {H : Hp} : ∀ {xs : List V} {ds : List PyData}, DpAll K H xs ds → xs.length = ds.length
  | _, _, .nil => rfl
  | _, _, .cons _ t => congrArg Nat.succ (dpAll_len t)
section
variable {X : Cx} {pins : List (Addr × Obj)} {σ : L2.St} {H : Hp} {s : Shared}
theorem each_rel : ∀ {xs : List V} {its : List Value} {ds : List PyData}, Vals xs its → DpAll X.K H xs ds → PySem.W.EachIs (fun (v : Value) (b : V × PyData) => RelV b.1 v) its (xs.zip ds)
  | _, _, _, .nil, .nil => .nil
  | _, _, _, .cons r t, .cons _ d => .cons r (each_rel t d)
theorem each_reads (I : Inv X pins σ H s) : ∀ {xs : List V} {its : List Value} {ds : List PyData}, Vals xs its → DpAll X.K H xs ds → PySem.W.EachIs (fun (v : Value) (b : V × PyData) => ∃ as, Reads s.heap v b.2 as) its (xs.zip ds)
  | _, _, _, .nil, .nil => .nil
  | _, _, _, .cons r t, .cons h d => .cons (Dp.reads I _ _ _ h r) (each_reads I t d)
theorem each_vals : ∀ {out : List Value} {bs : List (V × PyData)}, PySem.W.EachIs (fun (v : Value) (b : V × PyData) => RelV b.1 v) out bs → Vals (bs.map Prod.fst) out
  | _, _, .nil => .nil
  | _, _, .cons r t => .cons r (each_vals t)
theorem zip_snd : ∀ {xs : List V} {ds : List PyData}, xs.length = ds.length → (xs.zip ds).map Prod.snd = ds
  | [], [], _ => rfl
  | x :: xs, d :: ds, h => congrArg (d :: ·) (zip_snd (Nat.succ.inj h))
def rSortD (K : PySem.W.Frag) : List V → Hp → VK → Prop := fun vs H Q => ∃ (a : Addr) (xs : List V) (ds : List PyData), vs = [.ref a] ∧ SqL K H a xs ∧ DpAll K H xs ds ∧ PySem.W.AllAlike ds ∧ PySem.W.Sortable ds ∧ DepLe 60 ds ∧
  ∀ p, H p = none → Q (.ref p) (upd H p (.lst (sortV xs ds)))
theorem cr_sortD (hu : X.A.units + 64 < cLine) : CallR X (.builtin "sorted") (rSortD X.K) := by
  intro pins s σ H vs us Q I r h
  obtain ⟨a, xs, ds, rfl, hs, hd, hal, hk, hdep, q⟩ := h
  obtain ⟨its, rv, pl, hz⟩ := I.list hs
  obtain ⟨u, rfl, ru⟩ := vals1 r
  obtain rfl : u = Value.ref a := ru
  have el := dpAll_len hd
  have em := zip_snd el
  have ln : (xs.zip ds).length = xs.length := by rw [List.length_zip, ← el, Nat.min_self]
  have lt : its.length = xs.length := rv.length.symm
  refine PySem.W.sorted_data (β := V × PyData) (enc := Prod.snd) (bs := xs.zip ds) (vs := its) (R := fun v b => RelV b.1 v) pl.isList (each_rel rv hd) (each_reads I rv hd) (by rw [em]; exact hal) (by rw [em]; exact hk) (by rw [ln]; exact hz) (fun b hb => ?_) fun out ho hE => ?_
  · have : b.2.depth ≤ 60 := hdep _ (by rw [← em]; exact List.mem_map.mpr ⟨b, hb, rfl⟩)
    omega
  · obtain ⟨e, he⟩ := PyProof.Rows.sortedAll_at s.heap its (List.toArray out)
    have hv := each_vals hE
    refine ⟨.ref (s.heap.objs.size + 1), upd H (s.heap.objs.size + 1) (.lst (sortV xs ds)), I.laid (t' := s.toks) (fun b o z => PyProof.Rows.sortedAll_old z) (Nat.le_succ _) ⟨?_, out, e, hv, he⟩, rfl, q _ (I.hok.fresh (Nat.le_succ _))⟩
    unfold sortV
    rw [List.length_map, List.length_mergeSort, ln]
    exact hz
/-! ### max(t, default=d), t a tuple or a list of ints -/
def maxL (d : Int) : List Int → Int
  | [] => d
  | x :: r => r.foldl (fun a y => if a < y then y else a) x
theorem maxOf_int (x : Int) (r : List Int) : PySem.W.maxOf x r = maxL 0 (x :: r) := by
  unfold PySem.W.maxOf maxL
  congr 1
  funext a y
  by_cases h : a < y
  · rw [if_pos h, if_pos (show PySem.W.DatumOrd.lt a y = true from decide_eq_true h)]
  · rw [if_neg h, if_neg (fun z : PySem.W.DatumOrd.lt a y = true => h (of_decide_eq_true z))]
theorem hold_ints {h : Heap} : ∀ {ns : List Int} {us : List Value}, Vals (ns.map V.int) us → PySem.W.HoldAll h us ns
  | [], _, .nil => ⟨_, .nil⟩
  | n :: ns, _, .cons r t => by
    obtain ⟨k, rfl⟩ := r
    obtain ⟨as, q⟩ := hold_ints t
    exact ⟨_, .cons (.int n k) q⟩
def rMaxD (K : PySem.W.Frag) : List V → List V → Hp → VK → Prop := fun vs zs H Q => ∃ (a : Addr) (ns : List Int) (d : Int), vs = [.ref a] ∧ zs = [.int d] ∧ (SqT K H a (ns.map V.int) ∨ SqL K H a (ns.map V.int)) ∧ Q (.int (maxL d ns)) H
theorem ck_maxD (hc : X.calm = true) (hu : X.A.units + 64 < cLine) : CallRK X (.builtin "max") ["default"] (rMaxD X.K) := by
  intro pins s σ H xs zs us ws Q I r rz h
  obtain ⟨a, ns, d, rfl, rfl, hs, q⟩ := h
  obtain ⟨u, rfl, ru⟩ := vals1 r
  obtain rfl : u = Value.ref a := ru
  obtain ⟨w1, rfl, rw1⟩ := vals1 rz
  have fin : ∀ (i : Nat) (v : Value) (h' : Heap) (tk : Nat) (y : Int) (ys : List Int), ns = y :: ys → PySem.W.Holds h' v (PySem.W.maxOf y ys) → (∀ b o, s.heap.get? b = some o → h'.get? b = some o) → EP X pins σ Q v { s with heap := h', toks := tk } := fun i v h' tk y ys e hv k => by
    obtain ⟨as, hv⟩ := hv
    subst e
    have hv' : Reads h' v (.int (PySem.W.maxOf y ys)) as := hv
    cases hv'
    refine ⟨.int (PySem.W.maxOf y ys), H, I.kept k, ⟨_, rfl⟩, ?_⟩
    rw [maxOf_int]
    exact q
  have fin0 : ns = [] → ∀ (h' : Heap) (tk : Nat), (∀ b o, s.heap.get? b = some o → h'.get? b = some o) → EP X pins σ Q w1 { s with heap := h', toks := tk } := fun e h' tk k => by
    subst e
    exact ⟨.int d, H, I.kept k, rw1, q⟩
  rcases hs with hs | hs
  · obtain ⟨its, rv, ht, hz⟩ := I.tuple hs
    refine PySem.W.max_tuple_datum_default (xs := ns) (vs := its.toArray) (I.ok.hd hc) ht ?_ ?_ fin0 fun y ys i v h' tk e _ hv k => fin i v h' tk y ys e hv k
    · simpa using hold_ints (h := s.heap) rv
    · show X.A.units + 1 + 0 < cLine
      omega
  · obtain ⟨its, rv, pl, hz⟩ := I.list hs
    refine PySem.W.max_list_datum_default (xs := ns) (vs := its.toArray) (I.ok.hd hc) pl.isList ?_ ?_ fin0 fun y ys i v h' tk e _ hv k => fin i v h' tk y ys e hv k
    · simpa using hold_ints (h := s.heap) rv
    · show X.A.units + 1 + 0 < cLine
      omega
end
end R0

/-! a dict comprehension whose keys are tuples of ints and texts -/
namespace R1
open PySem PySem.Spec PyProof.Rows L2
/-- one entry more, the key a tracked tuple -/
theorem tput {X : Cx} {pn : List (Addr × Obj)} {τ : L2.St} {G : Hp} {s : Shared} {E : Value → Shared → Prop} {D b : Addr} {es : List (List Key × V)} {k : List Key} {z : V} {r : Value} {Q : Unit → Shared → Prop} (hu : X.A.units + 1 < cLine) (J : Inv X pn τ G s)
    (gD : G D = some (.dT es)) (gb : G b = some (.tup (k.map kV))) (hn : es.length < sizeLine) (rz : RelV z r) (q : ∀ s', Inv X pn τ (upd G D (.dT (putK es k z))) s' → Q () s') : wpAny (model X.prog X.w) X.A (dictSet D (.ref b) r) Q E s := by
  obtain ⟨e1, e2, ks, rk, dd⟩ := dt_of J.hok gD
  have f1 : ks.length ≤ sizeLine := Paired.length rk ▸ e1
  have f2 := length_putK es k z
  refine wpAny_dictSet_heap (hsz := f1) (Nat.lt_of_succ_lt hu) (key_of J.hok gb) dd fun g' dg sb => q _ ?_
  obtain ⟨w0, w1, w2, a0, a1, a2, a3, _, a4⟩ := dg
  have kt := (rk.put k gb rz).keeps (H' := upd G D (.dT (putK es k z))) fun c ys ec => by
    rw [upd_ne (ne_of ec gD (fun y => nomatch y))]
    exact ec
  exact d_write J (by rw [gD]; trivial) sb ⟨w0, a0⟩ ⟨by omega, e2, _, kt, w0, w1, w2, a0, a1, a2, a3, a4⟩
/-- the reading of {k: v for target in iter if ..} with such keys -/
def tDcT (src : TI) (g : TG) (tt : TT) (tk tv : TE) (own : List Nat) : TE := fun σ H Q => src σ H fun J G => ∀ D, G D = none → ∃ W : Nat → Nat → Hp → Prop, (∃ m, W 0 m (upd G D (.dT []))) ∧ ∀ i m F, W i m F →
  (J.stop i F ∧ Q (.ref D) F) ∨ (J.go i F ∧ ∃ Nx : Hp → Prop, (∀ F', Nx F' → ∃ m', m' < m ∧ W (i + 1) m' F') ∧ ∀ x F', J.yld i F x F' → g x (wipe σ own) F' fun τ F2 => wipe τ own = wipe σ own ∧ tt τ F2 fun c F3 =>
    if c = true then tk τ F3 fun y F4 => tv τ F4 fun z F5 => ∃ es k b, y = .ref b ∧ F5 b = some (.tup (k.map kV)) ∧ F5 D = some (.dT es) ∧ es.length < sizeLine ∧ Nx (upd F5 D (.dT (putK es k z))) else Nx F3)
section
variable {X : Cx} {kx vx tg iter : Expr} {ifs : List Expr} {scope : Scope} {own : List (Str × Nat)} {pos : Pos} {src : TI} {g : TG} {tt : TT} {tk tv : TE}
theorem dcT_core {pins : List (Addr × Obj)} {s : Shared} {σ : L2.St} {H : Hp} {Q : VK} {pos' : Pos} {use : Option (Value → Sem Unit)} {Qf : Value → Shared → Prop} (I : Inv X pins σ H s)
    (hu : X.A.units + 64 < cLine) (hc : X.calm = true) (hN : X.N.Nodup) (hi : PI X tg iter src) (ok : BlkOk X.N X.env.scope scope own)
    (hg : ∀ (s : Shared) (G : Hp) (C : Addr) (cl : List (Str × Addr)) (fp : List Addr), PG (X.blk s G scope (compEnvC scope cl C X.env) fp) tg g)
    (ht : ∀ (s : Shared) (G : Hp) (C : Addr) (cl : List (Str × Addr)) (fp : List Addr), PTs (X.blk s G scope (compEnvC scope cl C X.env) fp) ifs tt)
    (hk : ∀ (s : Shared) (G : Hp) (C : Addr) (cl : List (Str × Addr)) (fp : List Addr), PE (X.blk s G scope (compEnvC scope cl C X.env) fp) kx tk)
    (hv : ∀ (s : Shared) (G : Hp) (C : Addr) (cl : List (Str × Addr)) (fp : List Addr), PE (X.blk s G scope (compEnvC scope cl C X.env) fp) vx tv)
    (hs : ∀ x, foldedSetIterable iter X.env x = pure x) (h : tDcT src g tt tk tv (own.map (·.2)) σ H Q)
    (hR : ∀ D C s' m F, Inv X pins σ F s' → Q (.ref D) F → s'.heap.Ns C m → FpOk X pins F C → compPost (model X.prog X.w) X.A X.xe use Qf (.ref D) C (.ok .next) s') :
    wpAny (model X.prog X.w) X.A (comprehension (.DictComp kx vx [⟨tg, iter, ifs, 0⟩] scope pos) scope X.env pos' newDict false (eval iter X.env) use) Qf X.xe s := by
  have fr : ∀ y ∈ scope.names, y.2 = .free → ∃ c, X.env.cells.lookup y.1 = some c := fun y hy e => (ok.free y hy e).elim (fun z => I.ok.has _ (.inl z)) fun z => I.ok.has _ (.inr z)
  refine wpAny_comprehension_free (use := use) rfl hs (closure_ok fr) ok.kind (fun y hy e => by rw [ok.uniq y hy, e]) (thn (hi.run pins s σ H _ I h) fun xv s1 hx => thn hx fun iv s2 a2 => ?_)
  obtain ⟨it, fp, tn, J, G, rfl, K2, T, t2, p2, q⟩ := a2
  refine wpAny_newObj_type (newEnv_comp ?_)
  obtain ⟨W, ⟨m0, w0⟩, turn⟩ := q s2.heap.objs.size (K2.hok.fresh (Nat.le_refl _))
  generalize eD : s2.heap.objs.size = D at w0 turn
  have nD : G D = none := K2.hok.fresh (Nat.le_of_eq eD)
  -- the new dict
  generalize e3 : ({ s2 with heap := s2.heap.push { cls := .type "dict", data := .dict #[] } } : Shared) = s3
  have K3 : Inv X pins σ (upd G D (.dT [])) s3 := by
    subst e3
    refine K2.laid (t' := s2.toks) (fun b o z => Heap.get?_push_of_some _ z) (Nat.le_of_eq eD) ?_
    subst eD
    exact dt_empty s2.heap K2.big
  have z3 : s3.heap = s2.heap.push { cls := .type "dict", data := .dict #[] } := by subst e3; rfl
  have p3 : ∀ b ∈ fp, FpOk X pins (upd G D (.dT [])) b ∧ b < s3.heap.objs.size := fun b hb => by
    obtain ⟨o, y, _⟩ := T.obj _ _ t2 b hb
    have lt : b < s2.heap.objs.size := Heap.lt_size y
    refine ⟨⟨?_, (p2 b hb).2⟩, by rw [z3, Heap.size_push]; exact Nat.lt_succ_of_lt lt⟩
    rw [upd_ne (by rw [← eD]; exact Nat.ne_of_lt lt)]
    exact (p2 b hb).1
  have t3 : tn 0 s3.heap := T.keep _ _ _ t2 fun b _ o y => by rw [z3]; exact Heap.get?_push_of_some _ y
  have K4 := block_start K3 ok hN p3
  have qg := hg s3 (upd G D (.dT [])) s3.heap.objs.size (cellsFrom (s3.heap.objs.size + 1) scope.names (cloFrom X.env.cells scope.names [])) fp
  have qt := ht s3 (upd G D (.dT [])) s3.heap.objs.size (cellsFrom (s3.heap.objs.size + 1) scope.names (cloFrom X.env.cells scope.names [])) fp
  have qk := hk s3 (upd G D (.dT [])) s3.heap.objs.size (cellsFrom (s3.heap.objs.size + 1) scope.names (cloFrom X.env.cells scope.names [])) fp
  have qv := hv s3 (upd G D (.dT [])) s3.heap.objs.size (cellsFrom (s3.heap.objs.size + 1) scope.names (cloFrom X.env.cells scope.names [])) fp
  have np : ∀ b ∈ fp, (upd G D (.dT [])) b = none := fun b hb => (p3 b hb).1.1
  show codeAny _ _ (.compStart (.DictComp kx vx [⟨tg, iter, ifs, 0⟩] scope pos) 0 (.ref it) (.ref D) (compEnvC scope (cellsFrom (s3.heap.objs.size + 1) scope.names (cloFrom X.env.cells scope.names [])) s3.heap.objs.size X.env)) (compPost (model X.prog X.w) X.A X.xe use _ (.ref D) s3.heap.objs.size) { s3 with heap := pushCells (s3.heap.push { cls := .type "dict", data := .dict #[] }) scope.names }
  generalize ec : compEnvC scope (cellsFrom (s3.heap.objs.size + 1) scope.names (cloFrom X.env.cells scope.names [])) s3.heap.objs.size X.env = ce at K4 qg qt qk qv ⊢
  have eL : ce.locals = s3.heap.objs.size := by subst ec; rfl
  generalize eG : upd G D (.dT []) = G3 at K3 K4 qg qt qk qv w0 np p3
  generalize e4 : ({ s3 with heap := pushCells (s3.heap.push { cls := .type "dict", data := .dict #[] }) scope.names } : Shared) = s4 at K4 ⊢
  have t4 : tn 0 s4.heap := T.keep _ _ _ t3 fun b _ o y => by subst e4; exact pushCells_keeps _ _ _ _ (Heap.get?_push_of_some _ y)
  have still : ∀ {τ : L2.St} {F : Hp} {s' : Shared}, Inv (X.blk s3 G3 scope ce fp) [] τ F s' → (∀ b ∈ fp, F b = none) → ∀ b ∈ fp, FpOk (X.blk s3 G3 scope ce fp) [] F b := fun {τ F s'} L n b hb =>
    ⟨n b hb, (L.ok.exf b hb).1, L.ok.exfs b hb, .inl hb, fun x c y => (L.ok.exf b hb).2 x c y, fun p hp => absurd (show p ∈ ([] : List (Addr × Obj)) ++ [] from hp) (by simp)⟩
  have go : codeAny (model X.prog X.w) X.A (.compLoop (.DictComp kx vx [⟨tg, iter, ifs, 0⟩] scope pos) 0 (.ref it) (.ref D) ce) (compPost (model X.prog X.w) X.A X.xe use Qf (.ref D) s3.heap.objs.size) s4 := by
    refine compLoop_anyD (fun n s' => ∃ i F, Inv (X.blk s3 G3 scope ce fp) [] (wipe σ (own.map (·.2))) F s' ∧ tn i s'.heap ∧ (∀ b ∈ fp, F b = none) ∧ W i n F) ?_ m0 ⟨0, G3, K4, t4, np, w0⟩
    rintro n s5 ⟨i, F, L, t5, n5, w5⟩
    rcases turn i n F w5 with ⟨stop, qq⟩ | ⟨hgo, Nx, hNx, step⟩
    · refine thnF (T.done (X.blk s3 G3 scope ce fp) rfl rfl rfl hc i [] s5 _ F (fun _ _ => False) L (still L n5) t5 stop) fun r s6 ⟨hr, L6⟩ => ?_
      subst hr
      have M : Inv X pins σ F s6 := K3.call' (ch := fp) L6.os L6.base L6.hok L6.bare fun b hb => ⟨(p3 b hb).1.2.2.2.1, (p3 b hb).1.2.1, (p3 b hb).1.2.2.2.2.1, (p3 b hb).1.2.2.2.2.2⟩
      have nC : F s3.heap.objs.size = none := eL ▸ L6.free
      obtain ⟨m, hn, _⟩ := L6.loc
      have hn' : s6.heap.Ns ce.locals m := hn
      rw [eL] at hn'
      exact hR D s3.heap.objs.size s6 m F M qq hn' (K3.fpOk (Nat.le_refl _) nC)
    · refine thnF (T.item (X.blk s3 G3 scope ce fp) rfl rfl rfl hc i [] s5 _ F (fun _ _ => False) L (still L n5) t5 hgo) fun r s6 ⟨u, hr, h6⟩ => ?_
      subst hr
      refine thnF h6 fun _ s7 ⟨x, F7, L7, r7, y7, t7, n7⟩ => ?_
      have L7' := L7.pinned (still L7 n7) (T.obj _ _ t7)
      refine thnF (qg.run _ s7 _ F7 x u _ L7' r7 (step x F7 y7)) fun _ s8 ⟨τ, F8, L8, hw, q8⟩ => ?_
      refine thnF (qt.run _ s8 τ F8 _ L8 q8) fun c s9 ⟨F9, L9, q9⟩ => ?_
      have fin : ∀ {s' : Shared} {F' : Hp}, Inv (X.blk s3 G3 scope ce fp) ([] ++ pinsAt fp s7.heap) τ F' s' → Nx F' → ∃ m, m < n ∧ ∃ i F', Inv (X.blk s3 G3 scope ce fp) [] (wipe σ (own.map (·.2))) F' s' ∧ tn i s'.heap ∧ (∀ b ∈ fp, F' b = none) ∧ W i m F' := fun {s' F'} L' nx => by
        obtain ⟨m', hm, w'⟩ := hNx F' nx
        have pin : ∀ b ∈ fp, ∀ o, s7.heap.get? b = some o → s'.heap.get? b = some o ∧ F' b = none := fun b hb o y =>
          have z := L'.pin (b, o) (List.mem_append_right _ (List.mem_append_right _ (mem_pinsAt hb y)))
          ⟨z.1, z.2.1⟩
        refine ⟨m', hm, i + 1, F', (L'.unpinned (pins := [])).weak (by rw [← hw, wipe_length]) (fun j v y => ?_), T.keep _ _ _ t7 fun b hb o y => (pin b hb o y).1, fun b hb => ?_, w'⟩
        · rw [← hw] at y
          exact (wipe_some y).1
        · obtain ⟨o, y, _⟩ := T.obj _ _ t7 b hb
          exact (pin b hb o y).2
      cases c with
      | false =>
        simp only [Bool.false_eq_true, if_false] at q9 ⊢
        exact fin L9 q9
      | true =>
        simp only [if_true] at q9 ⊢
        refine thnF (qk.run _ s9 τ F9 _ L9 q9) fun a1 s10 ⟨yk, F10, L10, r10, q10⟩ => ?_
        refine thnF (qv.run _ s10 τ F10 _ L10 q10) fun a2 s11 ⟨yv, F11, L11, r11, es, k, b, ek, hb, hD, hz, nx⟩ => ?_
        subst ek
        cases (show a1 = Value.ref b from r10)
        exact tput (X := X.blk s3 G3 scope ce fp) (by show X.A.units + 1 < cLine; omega) L11 hD hb hz r11 fun s12 L12 => fin L12 nx
  exact codeAny_compStart_dict go (T.self X.A 0 _ _ _ t4 go)
theorem pe_dcT (hu : X.A.units + 64 < cLine) (hc : X.calm = true) (hN : X.N.Nodup) (hi : PI X tg iter src) (ok : BlkOk X.N X.env.scope scope own)
    (hg : ∀ (s : Shared) (G : Hp) (C : Addr) (cl : List (Str × Addr)) (fp : List Addr), PG (X.blk s G scope (compEnvC scope cl C X.env) fp) tg g)
    (ht : ∀ (s : Shared) (G : Hp) (C : Addr) (cl : List (Str × Addr)) (fp : List Addr), PTs (X.blk s G scope (compEnvC scope cl C X.env) fp) ifs tt)
    (hk : ∀ (s : Shared) (G : Hp) (C : Addr) (cl : List (Str × Addr)) (fp : List Addr), PE (X.blk s G scope (compEnvC scope cl C X.env) fp) kx tk)
    (hv : ∀ (s : Shared) (G : Hp) (C : Addr) (cl : List (Str × Addr)) (fp : List Addr), PE (X.blk s G scope (compEnvC scope cl C X.env) fp) vx tv)
    (hs : ∀ x, foldedSetIterable iter X.env x = pure x := by intro _; rfl) : PE X (.DictComp kx vx [⟨tg, iter, ifs, 0⟩] scope pos) (tDcT src g tt tk tv (own.map (·.2))) := by
  refine ⟨fun pins s σ H Q I h => ?_⟩
  rw [arm_eval_DictComp]
  refine dcT_core I hu hc hN hi ok hg ht hk hv hs h fun D C s' m F J q hn f => ⟨m, hn, fun h'' sb => ?_⟩
  obtain ⟨y0, y1, y2, y3, y4, y5⟩ := f
  exact ⟨.ref D, F, J.turned (t' := s'.toks) (fun b o hb z => (sb.2 b hb).trans z) y0 y1 y3 y4 y5, rfl, q⟩
/-- what is stored behind a comprehension's frame -/
theorem dc_store {pins : List (Addr × Obj)} {σ : L2.St} {F : Hp} {s' : Shared} {i : Nat} {y : Str} {py : Pos} {D C : Addr} {m : Str → Option Value} {Ds : Ends} (hN : X.N.Nodup) (hy : X.N[i]? = some y) (hl : X.env.scope.names.lookup y = some .local) (J : Inv X pins σ F s')
    (q : gName i (.ref D) σ F Ds.nx) (hn : s'.heap.Ns C m) (f : FpOk X pins F C) :
    compPost (model X.prog X.w) X.A X.xe (some (assign (.Name y py) X.env)) (fun _ s'' => SP X pins Ds .next s'') (.ref D) C (.ok .next) s' := by
  show wpAny _ _ (assign (.Name y py) X.env (.ref D)) _ _ _
  refine wpAny_assign_Name (store_ok2 (v := V.ref D) J hN hy (.inl hl) rfl (fun s2 J2 ⟨a, sb, ha⟩ => ?_) (.inr hl))
  obtain ⟨y0, y1, y2, y3, y4, y5⟩ := f
  have ne : C ≠ a := by
    rcases ha with z | z
    · rw [z]; exact y1
    · exact fun e => y4 y a z e.symm
  exact ⟨m, hn.sameBut sb ne, fun h3 sb3 => ⟨_, F, J2.turned (t' := s2.toks) (fun b o hb z => (sb3.2 b hb).trans z) y0 y1 y3 y4 y5, q⟩⟩
theorem ps_setDcT {i : Nat} {y : Str} {py spos : Pos} (hy : X.N[i]? = some y) (hl : X.env.scope.names.lookup y = some .local) (hsw : swapsWith (.DictComp kx vx [⟨tg, iter, ifs, 0⟩] scope pos) (some (.Name y py)) spos.line X.env = pure true)
    (hu : X.A.units + 64 < cLine) (hc : X.calm = true) (hN : X.N.Nodup) (hi : PI X tg iter src) (ok : BlkOk X.N X.env.scope scope own)
    (hg : ∀ (s : Shared) (G : Hp) (C : Addr) (cl : List (Str × Addr)) (fp : List Addr), PG (X.blk s G scope (compEnvC scope cl C X.env) fp) tg g)
    (ht : ∀ (s : Shared) (G : Hp) (C : Addr) (cl : List (Str × Addr)) (fp : List Addr), PTs (X.blk s G scope (compEnvC scope cl C X.env) fp) ifs tt)
    (hk : ∀ (s : Shared) (G : Hp) (C : Addr) (cl : List (Str × Addr)) (fp : List Addr), PE (X.blk s G scope (compEnvC scope cl C X.env) fp) kx tk)
    (hv : ∀ (s : Shared) (G : Hp) (C : Addr) (cl : List (Str × Addr)) (fp : List Addr), PE (X.blk s G scope (compEnvC scope cl C X.env) fp) vx tv)
    (hs : ∀ x, foldedSetIterable iter X.env x = pure x := by intro _; rfl) : PS X (.Assign [.Name y py] (.DictComp kx vx [⟨tg, iter, ifs, 0⟩] scope pos) spos) (tAsg (tDcT src g tt tk tv (own.map (·.2))) (gName i)) := by
  refine ⟨fun pins s σ H Ds I h => ?_⟩
  rw [exec_Assign_Name_used _ _ _ _ hsw]
  refine wpAny_bind (wpAny_standAt (wpAny_bind ?_))
  show wpAny _ X.A (do let _ ← comprehension (.DictComp kx vx [⟨tg, iter, ifs, 0⟩] scope pos) scope X.env (firstIterPos [⟨tg, iter, ifs, 0⟩] pos) newDict false (eval iter X.env) (some (assign (.Name y py) X.env))) _ _ s
  have h' : tDcT src g tt tk tv (own.map (·.2)) σ H (fun x G => gName i x σ G Ds.nx) := h
  exact wpAny_bind (thn (dcT_core (Qf := fun _ s' => SP X pins Ds .next s') I hu hc hN hi ok hg ht hk hv hs h' fun D C s' m F J q hn f => dc_store hN hy hl J q hn f) fun _ s' hq => wpAny_pure (wpAny_pure hq))
theorem ps_setDcK {i : Nat} {y : Str} {py spos : Pos} (hy : X.N[i]? = some y) (hl : X.env.scope.names.lookup y = some .local) (hsw : swapsWith (.DictComp kx vx [⟨tg, iter, ifs, 0⟩] scope pos) (some (.Name y py)) spos.line X.env = pure true)
    (hc : X.calm = true) (hN : X.N.Nodup) (hi : PI X tg iter src) (ok : BlkOk X.N X.env.scope scope own)
    (hg : ∀ (s : Shared) (G : Hp) (C : Addr) (cl : List (Str × Addr)) (fp : List Addr), PG (X.blk s G scope (compEnvC scope cl C X.env) fp) tg g)
    (ht : ∀ (s : Shared) (G : Hp) (C : Addr) (cl : List (Str × Addr)) (fp : List Addr), PTs (X.blk s G scope (compEnvC scope cl C X.env) fp) ifs tt)
    (hk : ∀ (s : Shared) (G : Hp) (C : Addr) (cl : List (Str × Addr)) (fp : List Addr), PE (X.blk s G scope (compEnvC scope cl C X.env) fp) kx tk)
    (hv : ∀ (s : Shared) (G : Hp) (C : Addr) (cl : List (Str × Addr)) (fp : List Addr), PE (X.blk s G scope (compEnvC scope cl C X.env) fp) vx tv)
    (hs : ∀ x, foldedSetIterable iter X.env x = pure x := by intro _; rfl) : PS X (.Assign [.Name y py] (.DictComp kx vx [⟨tg, iter, ifs, 0⟩] scope pos) spos) (tAsg (tDc src g tt tk tv (own.map (·.2))) (gName i)) := by
  refine ⟨fun pins s σ H Ds I h => ?_⟩
  rw [exec_Assign_Name_used _ _ _ _ hsw]
  refine wpAny_bind (wpAny_standAt (wpAny_bind ?_))
  show wpAny _ X.A (do let _ ← comprehension (.DictComp kx vx [⟨tg, iter, ifs, 0⟩] scope pos) scope X.env (firstIterPos [⟨tg, iter, ifs, 0⟩] pos) newDict false (eval iter X.env) (some (assign (.Name y py) X.env))) _ _ s
  have h' : tDc src g tt tk tv (own.map (·.2)) σ H (fun x G => gName i x σ G Ds.nx) := h
  exact wpAny_bind (thn (dc_core (Qf := fun _ s' => SP X pins Ds .next s') hc hN I hi ok hg ht hk hv hs h' fun D C s' m F J q hn f => dc_store hN hy hl J q hn f) fun _ s' hq => wpAny_pure (wpAny_pure hq))
theorem sw_trueD {py : Pos} {y : Str} {l : Nat} {gs : List Comprehension} {env : Env} (hk : env.scope.kind = .function) (hy : env.scope.names.lookup y = some .local) (hl : (py.line == pos.line) = true)
    (ha : (scope.names.any fun (n, k) => n == y && (k == .local || k == .cell)) = false) : swapsWith (.DictComp kx vx gs scope pos) (some (.Name y py)) l env = pure true := by
  have e1 : env.kindOf y = some .local := hy
  have e2 : env.blockKind = .function := by unfold Env.blockKind; rw [hk]; rfl
  unfold swapsWith
  simp only [e2, e1, ha, Expr.pos, hl]
  rfl
theorem PE.or {e : Expr} {t t' : TE} (h : PE X e t) (h' : PE X e t') : PE X e (fun σ H Q => t σ H Q ∨ t' σ H Q) := ⟨fun pins s σ H Q I q => q.elim (h.run pins s σ H Q I) (h'.run pins s σ H Q I)⟩
theorem PS.or {st : Stmt} {t t' : TS} (h : PS X st t) (h' : PS X st t') : PS X st (fun D σ H => t D σ H ∨ t' D σ H) := ⟨fun pins s σ H D I q => q.elim (h.run pins s σ H D I) (h'.run pins s σ H D I)⟩
theorem PI.or {tg it : Expr} {t t' : TI} (h : PI X tg it t) (h' : PI X tg it t') : PI X tg it (fun σ H R => t σ H R ∨ t' σ H R) := ⟨fun pins s σ H R I q => q.elim (h.run pins s σ H R I) (h'.run pins s σ H R I)⟩
theorem pi_listK {K : PySem.W.Frag} {tg it : Expr} {tl : TE} (e : X.K = K) (h : PE X it tl) : PI X tg it (iList K tl) := by subst e; exact pi_list h
theorem pi_tupK {K : PySem.W.Frag} {tg it : Expr} {tl : TE} (e : X.K = K) (h : PE X it tl) : PI X tg it (iTup K tl) := by subst e; exact pi_tup h
theorem pa_starK {K : PySem.W.Frag} {e : Expr} {es : List Expr} {te : TE} {t : TA} {p : Pos} (hK : X.K = K) (he : PE X e te) (hr : PA X es t) (hs : starEach (.Starred e p :: es) X.env = (true, eval e X.env) :: starEach es X.env := by rfl) : PA X (.Starred e p :: es) (StX.tStar K te t) := by subst hK; exact StX.pa_star he hr hs
theorem pg_tupK {K : PySem.W.Frag} {es : List Expr} {k n : Nat} {p : Pos} {t : TGs} (hK : X.K = K) (hc : X.calm = true) (h : PGs X es t) (hn : (assignEach es X.env).length = n := by rfl) (hst : (assignEach es X.env).findIdx? (·.1) = none := by rfl) : PG X (.Tuple es k p) (gTup K n t) := by subst hK; exact pg_tup hc h hn hst
end
section
variable {J : It} {n : Nat} {G : Hp → Prop} {Y : Nat → Hp → V → Hp → Prop} {g : TG} {tt : TT} {tk tv : TE} {vs : List Nat} {σ : L2.St} {H1 : Hp} {D : Addr} {Qd : Hp → Prop}
theorem dT_it (w : Walk J n G Y) (Pv : Nat → Hp → Prop) (h0 : Pv 0 (upd H1 D (.dT []))) (hG : ∀ i H, i ≤ n → Pv i H → G H)
    (hs : ∀ i x H H', i < n → Pv i H → Y i H x H' → g x (wipe σ vs) H' fun τ F2 => wipe τ vs = wipe σ vs ∧ tt τ F2 fun c F3 =>
      if c = true then tk τ F3 fun y F4 => tv τ F4 fun z F5 => ∃ es k b, y = .ref b ∧ F5 b = some (.tup (k.map kV)) ∧ F5 D = some (.dT es) ∧ es.length < sizeLine ∧ Pv (i + 1) (upd F5 D (.dT (putK es k z))) else Pv (i + 1) F3) (hd : ∀ H, Pv n H → Qd H) :
    ∃ W : Nat → Nat → Hp → Prop, (∃ m, W 0 m (upd H1 D (.dT []))) ∧ ∀ i m F, W i m F → (J.stop i F ∧ Qd F) ∨ (J.go i F ∧ ∃ Nx : Hp → Prop, (∀ F', Nx F' → ∃ m', m' < m ∧ W (i + 1) m' F') ∧ ∀ x F', J.yld i F x F' → g x (wipe σ vs) F' fun τ F2 => wipe τ vs = wipe σ vs ∧ tt τ F2 fun c F3 =>
      if c = true then tk τ F3 fun y F4 => tv τ F4 fun z F5 => ∃ es k b, y = .ref b ∧ F5 b = some (.tup (k.map kV)) ∧ F5 D = some (.dT es) ∧ es.length < sizeLine ∧ Nx (upd F5 D (.dT (putK es k z))) else Nx F3) := by
  refine ⟨fun i m F => i + m = n ∧ Pv i F, ⟨n, by omega, h0⟩, fun i m F hW => ?_⟩
  obtain ⟨hm, p⟩ := hW
  have q := hG i F (by omega) p
  by_cases lt : i < n
  · exact .inr ⟨w.goes i F lt q, Pv (i + 1), fun F' p' => ⟨m - 1, by omega, by omega, p'⟩, fun x F' y => hs i x F F' lt p (w.yields i F x F' lt q y)⟩
  · obtain rfl : i = n := by omega
    exact .inl ⟨w.stops F q, hd F p⟩
theorem dK_it (w : Walk J n G Y) (Pv : Nat → Hp → Prop) (h0 : Pv 0 (upd H1 D (.dK []))) (hG : ∀ i H, i ≤ n → Pv i H → G H)
    (hs : ∀ i x H H', i < n → Pv i H → Y i H x H' → g x (wipe σ vs) H' fun τ F2 => wipe τ vs = wipe σ vs ∧ tt τ F2 fun c F3 =>
      if c = true then tk τ F3 fun y F4 => tv τ F4 fun z F5 => ∃ es k, y = kV k ∧ F5 D = some (.dK es) ∧ es.length < sizeLine ∧ Pv (i + 1) (upd F5 D (.dK (putK es k z))) else Pv (i + 1) F3) (hd : ∀ H, Pv n H → Qd H) :
    ∃ W : Nat → Nat → Hp → Prop, (∃ m, W 0 m (upd H1 D (.dK []))) ∧ ∀ i m F, W i m F → (J.stop i F ∧ Qd F) ∨ (J.go i F ∧ ∃ Nx : Hp → Prop, (∀ F', Nx F' → ∃ m', m' < m ∧ W (i + 1) m' F') ∧ ∀ x F', J.yld i F x F' → g x (wipe σ vs) F' fun τ F2 => wipe τ vs = wipe σ vs ∧ tt τ F2 fun c F3 =>
      if c = true then tk τ F3 fun y F4 => tv τ F4 fun z F5 => ∃ es k, y = kV k ∧ F5 D = some (.dK es) ∧ es.length < sizeLine ∧ Nx (upd F5 D (.dK (putK es k z))) else Nx F3) := by
  refine ⟨fun i m F => i + m = n ∧ Pv i F, ⟨n, by omega, h0⟩, fun i m F hW => ?_⟩
  obtain ⟨hm, p⟩ := hW
  have q := hG i F (by omega) p
  by_cases lt : i < n
  · exact .inr ⟨w.goes i F lt q, Pv (i + 1), fun F' p' => ⟨m - 1, by omega, by omega, p'⟩, fun x F' y => hs i x F F' lt p (w.yields i F x F' lt q y)⟩
  · obtain rfl : i = n := by omega
    exact .inl ⟨w.stops F q, hd F p⟩
end
end R1

namespace R1
open PySem PySem.Spec PyProof.Rows L2
/-! ### one lemma for every loop and comprehension -/
section
variable {J : It} {n : Nat} {G : Hp → Prop} {Y : Nat → Hp → V → Hp → Prop} {H0 : Hp} {Qd : Hp → Prop} {Body : V → Hp → (Hp → Prop) → Prop}
theorem walk_it (w : Walk J n G Y) (Pv : Nat → Hp → Prop) (h0 : Pv 0 H0) (hG : ∀ i H, i ≤ n → Pv i H → G H)
    (hs : ∀ i x H H', i < n → Pv i H → Y i H x H' → Body x H' (Pv (i + 1))) (hd : ∀ H, Pv n H → Qd H) :
    ∃ W : Nat → Nat → Hp → Prop, (∃ m, W 0 m H0) ∧ ∀ i m F, W i m F → (J.stop i F ∧ Qd F) ∨ (J.go i F ∧ ∃ Nx : Hp → Prop, (∀ F', Nx F' → ∃ m', m' < m ∧ W (i + 1) m' F') ∧ ∀ x F', J.yld i F x F' → Body x F' Nx) := by
  refine ⟨fun i m F => i + m = n ∧ Pv i F, ⟨n, by omega, h0⟩, fun i m F hW => ?_⟩
  obtain ⟨hm, p⟩ := hW
  have q := hG i F (by omega) p
  by_cases lt : i < n
  · exact .inr ⟨w.goes i F lt q, Pv (i + 1), fun F' p' => ⟨m - 1, by omega, by omega, p'⟩, fun x F' y => hs i x F F' lt p (w.yields i F x F' lt q y)⟩
  · obtain rfl : i = n := by omega
    exact .inl ⟨w.stops F q, hd F p⟩
end
/-! ### two lists alike, item by item -/
section
variable {α : Type} {R S : V → α → Prop}
def Al (R : V → α → Prop) (xs : List V) (rs : List α) : Prop := xs.length = rs.length ∧ ∀ (i : Nat) (x : V) (r : α), xs[i]? = some x → rs[i]? = some r → R x r
theorem Al.nil : Al R [] [] := ⟨rfl, fun i x r h => by simp at h⟩
theorem Al.mono {xs : List V} {rs : List α} (h : Al R xs rs) (f : ∀ x r, R x r → S x r) : Al S xs rs := ⟨h.1, fun i x r a b => f x r (h.2 i x r a b)⟩
theorem Al.snoc {xs : List V} {rs : List α} {x : V} {r : α} (h : Al R xs rs) (q : R x r) : Al R (xs ++ [x]) (rs ++ [r]) := by
  refine ⟨by simp [h.1], fun i y t hy ht => ?_⟩
  by_cases lt : i < xs.length
  · rw [List.getElem?_append_left lt] at hy
    rw [List.getElem?_append_left (by rw [← h.1]; exact lt)] at ht
    exact h.2 i y t hy ht
  · rw [List.getElem?_append_right (by omega)] at hy
    rw [List.getElem?_append_right (by rw [← h.1]; omega)] at ht
    rw [h.1] at hy
    have e : i - rs.length = 0 := by
      cases z : i - rs.length with
      | zero => rfl
      | succ k => rw [z] at hy; simp at hy
    rw [e] at hy ht
    cases hy; cases ht
    exact q
theorem Al.at {xs : List V} {rs : List α} (h : Al R xs rs) {i : Nat} {x : V} (hx : xs[i]? = some x) : ∃ r, rs[i]? = some r ∧ R x r := by
  have lt : i < xs.length := by
    by_cases z : i < xs.length
    · exact z
    · rw [List.getElem?_eq_none (by omega)] at hx; cases hx
  have e : rs[i]? = some (rs[i]'(by rw [← h.1]; exact lt)) := List.getElem?_eq_getElem _
  exact ⟨_, e, h.2 i x _ hx e⟩
theorem Al.one {x : V} {r : α} (q : R x r) : Al R [x] [r] := (Al.nil (R := R)).snoc q
end
end R1

namespace R1
open PySem PySem.Spec PyProof.Rows L2
/-! ### len(set(x)), x a list or a tuple of ints, any of them twice -/
def dist (ns : List Int) : List Int := ns.foldl step_dedup []
theorem firstMet_dist (ns : List Int) : firstMet (fun i => ns.getD i 0) ns.length = dist ns := by
  unfold firstMet dist
  congr 1
  apply List.ext_getElem?
  intro i
  rw [List.getElem?_map]
  by_cases h : i < ns.length
  · rw [List.getElem?_range h, List.getElem?_eq_getElem h]
    simp [List.getD, List.getElem?_eq_getElem h]
  · rw [List.getElem?_eq_none (by simpa using h), List.getElem?_eq_none (by omega)]
    rfl
theorem dist_go : ∀ (ns acc : List Int), acc.Nodup → ((ns.foldl step_dedup acc).Nodup ∧ ∀ k, k ∈ ns.foldl step_dedup acc ↔ k ∈ acc ∨ k ∈ ns)
  | [], acc, h => ⟨h, fun k => by simp⟩
  | n :: r, acc, h => by
    show ((r.foldl step_dedup (step_dedup acc n)).Nodup ∧ _)
    by_cases z : acc.any (· == n) = true
    · have e : step_dedup acc n = acc := by unfold step_dedup; rw [if_pos z]
      have m : n ∈ acc := by
        obtain ⟨u, hu, q⟩ := List.any_eq_true.mp z
        rw [← eq_of_beq q]; exact hu
      obtain ⟨a, b⟩ := dist_go r acc h
      refine ⟨by rw [e]; exact a, fun k => ?_⟩
      show k ∈ r.foldl step_dedup (step_dedup acc n) ↔ _
      rw [e, b k, List.mem_cons]
      constructor
      · rintro (q | q)
        · exact .inl q
        · exact .inr (.inr q)
      · rintro (q | q | q)
        · exact .inl q
        · exact .inl (q ▸ m)
        · exact .inr q
    · have e : step_dedup acc n = acc ++ [n] := by unfold step_dedup; rw [if_neg z]
      have m : n ∉ acc := fun hm => z (List.any_eq_true.mpr ⟨n, hm, beq_self_eq_true n⟩)
      have h2 : (acc ++ [n]).Nodup := by
        rw [List.nodup_append]
        refine ⟨h, by simp, fun u hu v hv q => m ?_⟩
        rw [← (by simpa using hv : v = n), ← q]; exact hu
      obtain ⟨a, b⟩ := dist_go r (acc ++ [n]) h2
      refine ⟨by rw [e]; exact a, fun k => ?_⟩
      show k ∈ r.foldl step_dedup (step_dedup acc n) ↔ _
      rw [e, b k, List.mem_append, List.mem_cons]
      simp [or_assoc]
theorem dist_nodup (ns : List Int) : (dist ns).Nodup := (dist_go ns [] List.nodup_nil).1
theorem dist_mem (ns : List Int) (k : Int) : k ∈ dist ns ↔ k ∈ ns := by
  have := (dist_go ns [] List.nodup_nil).2 k
  unfold dist
  simpa using this
section
variable {X : Cx}
def tLenSetX (K : PySem.W.Frag) (ta : TE) : TE := fun σ H Q => ta σ H fun x H1 => ∃ (l : Addr) (ns : List Int), x = V.ref l ∧ (SqL K H1 l (ns.map V.int) ∨ SqT K H1 l (ns.map V.int)) ∧ ns.length ≤ 1000 ∧ Q (.int (dist ns).length) H1
theorem pe_lenSetX {a : Expr} {ta : TE} {p p2 q pos : Pos} (hc : X.calm = true) (hg : Gl X "len") (hm : X.mg "len" = none) (hg2 : Gl X "set") (hm2 : X.mg "set" = none) (ha : PE X a ta)
    (na : starEach [a] X.env = (false, eval a X.env) :: starEach [] X.env := by rfl) : PE X (.Call (.Name "len" p) [.Call (.Name "set" p2) [a] [] q] [] pos) (tLenSetX X.K ta) := by
  refine ⟨fun pins s σ H Q I h => ?_⟩
  refine Call_ (ld_blt I hg hm PySem.boot_len ?_)
  refine PyProof.Rows.callWith_builtin1 (PyProof.Rows.args_cons ?_ rfl) rfl rfl
  refine Call_ (ld_blt I hg2 hm2 PyProof.Rows.boot_set ?_)
  refine PyProof.Rows.callWith_type1 (PyProof.Rows.args_cons (thn (ha.run pins s σ H _ I h) fun v s1 ⟨x, H1, I1, r1, q1⟩ => PyProof.Rows.args_nil ?_) na) na rfl
  obtain ⟨l, ns, rfl, hq, h1, q1⟩ := q1
  cases r1
  rcases hq with hq | hq
  · obtain ⟨its, r, pl, hz⟩ := I1.list hq
    have hl : its.toArray.size = ns.length := by rw [List.size_toArray, ← r.length, List.length_map]
    refine call_set_list (I1.ok.hd hc) pl.isList (ns := ns) (by simpa using r.ints) (by unfold scanBound; omega) fun h' tk hS hk => ?_
    rw [hl, firstMet_dist] at hS
    refine PyProof.Rows.args_nil ?_
    obtain ⟨o, es, ep, t, ho, hex, hd, _, _, hb, hf, hn⟩ := hS
    have hle : (dist ns).length ≤ ns.length := by rw [← firstMet_dist]; exact firstMet_length_le _ _
    have I2 : Inv X pins σ H1 { s1 with heap := h', toks := tk } := I1.kept fun b o e => hk b o (Heap.lt_size e) e
    exact call_len_set ho hex hd hf (by rw [hn] <;> omega) ⟨.int (dist ns).length, H1, I2.tok _, ⟨_, by rw [hn]⟩, q1⟩
  · obtain ⟨its, r, pl, hz⟩ := I1.tuple hq
    refine call_set_tupI ns (I1.ok.hd hc) pl (by simpa using r.ints) (by unfold scanBound; omega) fun h' tk c hS hc' hk => ?_
    refine PyProof.Rows.args_nil ?_
    obtain ⟨o, es, ep, t, ho, hex, hd, _, nd, me, _, hf, hn, _⟩ := hS
    have I2 : Inv X pins σ H1 { s1 with heap := h', toks := tk } := I1.kept fun b o e => hk b o e
    have e1 : (es.toList.map keyOf).length = (dist ns).length := by
      refine ((List.perm_ext_iff_of_nodup nd (dist_nodup ns)).mpr fun k => ?_).length_eq
      rw [← me k, dist_mem, decide_eq_true_eq]
    have hn' : es.size = (dist ns).length := by rw [← e1]; simp
    exact call_len_set ho hex hd hf (by omega) ⟨.int (dist ns).length, H1, I2.tok _, ⟨_, by rw [hn']⟩, q1⟩
/-! ### rules that name X.K, for a comprehension's block -/
theorem tuple_ofK {K : PySem.W.Frag} (hK : X.K = K) : CallR X (.type "tuple") (fun xs H Q => ∃ p ys, xs = [V.ref p] ∧ ((SqL K H p ys ∧ ∀ (l : Addr), H l = none → Q (V.ref l) (upd H l (HO.tup ys))) ∨ SqT K H p ys ∧ Q (V.ref p) H)) := by subst hK; exact call_tuple_of
theorem list_ofK {K : PySem.W.Frag} (hK : X.K = K) : CallR X (.type "list") (fun xs H Q => ∃ p ys, xs = [V.ref p] ∧ (SqL K H p ys ∨ SqT K H p ys) ∧ ∀ l, H l = none → Q (V.ref l) (upd H l (HO.lst ys))) := by subst hK; exact call_list_of
theorem op_catTK {K : PySem.W.Frag} (hK : X.K = K) : OpR X (binaryOp .Add) (rCatT K) := by subst hK; exact op_catT
end
end R1

/-! isinstance(e, C), e a caught error with fields: the answer may be False -/
namespace R1
open PySem PySem.Spec PyProof.Rows L2
def rIsX (K : PySem.W.Frag) (D a : Addr) (cls : Value) (d : Option Addr) : List V → Hp → VK → Prop := fun xs H Q => ∃ (c : Addr) (b : Bool) (dd : Addr) (fs : List (Str × V)), cls = .ref D ∧ d = some dd ∧ H dd = some (.xd fs) ∧ xs = [.ref a, .ref c] ∧ PySem.W.kitOne K (.ref D) (.ref c) = some b ∧ Q (.bl b) H
theorem call_isX {X : Cx} {K : PySem.W.Frag} {a D : Addr} {oe : Obj} {cls : Value} {d : Option Addr} {pn : List (Addr × Obj)} (hK : X.K = K) (C : ExcC K D) (hz : Zc cls d oe) (hf : ∃ vs, oe.data = .fields vs) : CallR (X.suite a ((a, oe) :: pn)) (.builtin "isinstance") (rIsX K D a cls d) := by
  subst hK
  intro pins s σ H xs us Q I r h
  obtain ⟨c, b, dd, fs, rfl, rfl, ea, rfl, e, q⟩ := h
  obtain ⟨u1, u2, rfl, r1, r2⟩ := vals2 r
  cases (show u1 = Value.ref a from r1)
  cases (show u2 = Value.ref c from r2)
  obtain ⟨hget, _⟩ := I.pin (a, oe) (List.mem_append.mpr (.inl List.mem_cons_self))
  obtain ⟨vs, hd⟩ := hf
  have hx : ObjOk X.prog X.w H s.heap dd (.xd fs) := I.hok dd _ ea
  obtain ⟨mA, hns, hr⟩ := hx
  obtain ⟨od, ho, hl⟩ := lookIn_ns hns
  have J : PySem.W.InstAt s.heap a oe D (some od) := ⟨hget, hz.1, by unfold PySem.W.notCls; rw [hd] <;> rfl, by rw [hz.2]; exact ho⟩
  obtain ⟨cd, hc, _⟩ := PySem.W.any_some C.hd
  exact PySem.W.kia_one (PySem.W.kitx_exc (by rw [hc]; rfl) C.hg C.hk C.hs C.ha C.hn C.ht C.hm) I.kIn J e (fun z => nomatch z) fun tk => ⟨.bl b, H, I.tok tk, rfl, q⟩
end R1

namespace R1
open PySem PySem.Spec PyProof.Rows L2
section
variable {K : PySem.W.Frag} {a b : Addr} {xs ys : List V}
theorem walk_zipT {n : Nat} (hn : n = min xs.length ys.length) : Walk (RZ.ItzT K a b) n (fun H => SqT K H a xs ∧ SqT K H b ys) (YPair (fun i => xs[i]?) (fun i => ys[i]?)) := by
  subst hn
  refine ⟨fun i _ hi q => ?_, fun _ q => ⟨xs, ys, q.1, q.2, by omega⟩, fun i H v H' _ q y => ?_⟩
  · have h1 : i < xs.length := by omega
    have h2 : i < ys.length := by omega
    exact ⟨xs, ys, xs[i], ys[i], q.1, q.2, by simp [h1], by simp [h2]⟩
  · obtain ⟨T, x, z, h1, h2, h3, h4, h5⟩ := y
    exact ⟨T, x, z, h1, h2, h3, h4 xs q.1, h5 ys q.2⟩
end
end R1

/-! enumerate(t), t a tuple -/
namespace PySem
open PySem.Spec PyProof.Rows PySem.W
theorem meets_enum1 {v : Value} {o : Obj} {H : Heap → Prop} (B : Begins v o H) :
    Meets (Builtin.«enumerate.__new__» ⟨[.type "enumerate", v], []⟩) (fun _ R s => H s.heap ∧
      R (.ok (.ret (.ref (s.heap.push o).objs.size))) { s with heap := (s.heap.push o).push { cls := .type "enumerate", data := .fields #[.none, .bool false, .ref s.heap.objs.size, rawInt 0, .none, .none] } }) :=
  .of_wp fun prog w A R s h => by
    obtain ⟨hp, g, d, tk, os⟩ := s; obtain ⟨h1, h⟩ := h
    have hsub := sub_enumerate
    have q1 : ∀ {A' : Around} {E : Value → Shared → Prop} {Q : Value → Shared → Prop}, Q (.ref hp.objs.size) ⟨hp.push o, g, d, tk, os⟩ → wpAny (model prog w) A' (pyIter v) Q E ⟨hp, g, d, tk, os⟩ :=
      fun q => B.iter prog w _ _ ⟨hp, g, d, tk, os⟩ _ h1 q
    wp_walk using q1
    refine wpAny_stack_any fun st => wpAny_pure ?_
    split
    · rename_i c _ _ _ _ _
      cases (c == Value.type "enumerate")
      · wp_walk using q1
        exact ⟨_, rfl, h⟩
      · wp_walk using q1
        exact ⟨_, rfl, h⟩
    · wp_walk using q1
      exact ⟨_, rfl, h⟩
section
variable {prog : Program} {w : World} {A : Around} {E : Value → Shared → Prop} {s : Shared}
theorem enum1 {v : Value} {o : Obj} {H : Heap → Prop} {Q : Value → Shared → Prop} (B : Begins v o H) (h1 : H s.heap)
    (h : ∀ h', IsEnum h' (s.heap.objs.size + 1) s.heap.objs.size 0 .none → h'.get? s.heap.objs.size = some o → h'.objs.size = s.heap.objs.size + 2 →
      (∀ b o, s.heap.get? b = some o → h'.get? b = some o) → Q (.ref (s.heap.objs.size + 1)) { s with heap := h' }) :
    wpAny (model prog w) A (call (.type "enumerate") [v]) Q E s := by
  refine callType_new F.called_enumerate (by decide) (F.typeCall_enumerate_1 _) (F.newCall_enumerate_1 _) (fun obj => F.args_object_init_2 obj _) F.entry_enumerate_new
    (meets_enum1 B) ⟨h1, ?_⟩
  have hz : (s.heap.push o).objs.size = s.heap.objs.size + 1 := Heap.size_push ..
  show _ ∧ _
  rw [hz]
  have he : IsEnum ((s.heap.push o).push { cls := .type "enumerate", data := .fields #[.none, .bool false, .ref s.heap.objs.size, rawInt 0, .none, .none] }) (s.heap.objs.size + 1) s.heap.objs.size 0 .none := by
    have := Heap.get?_push_size (s.heap.push o) (o := { cls := .type "enumerate", data := .fields #[.none, .bool false, .ref s.heap.objs.size, rawInt 0, .none, .none] }) rfl
    rw [hz] at this; exact this
  exact ⟨⟨_, he, rfl⟩, h _ he (Heap.get?_push_of_some _ (Heap.get?_push_size _ B.free)) (by rw [Heap.size_push, hz]) fun b o x => Heap.get?_push_of_some _ (Heap.get?_push_of_some _ x)⟩
end
end PySem

namespace PySem
section
variable {prog : Program} {w : World} {A : Around} {E : Value → Shared → Prop} {s : Shared}
theorem enum_endT {e it l : Addr} {i : Nat} {items : Array Value} {old : Value} {Q : Option Value → Shared → Prop} (hh : A.handled = none)
    (he : IsEnum s.heap e it i old) (hit : s.heap.IsTupleIter it l i) (hl : s.heap.IsTuple l items) (hx : items[i]? = none)
    (hQ : ∀ h', Heap.ExtBut it s.heap h' → Q none { s with heap := h' }) : wpAny (model prog w) A (pyNext (.ref e)) Q E s := by
  have hT : s.TypeIs (.ref e) "enumerate" := ⟨_, he, rfl⟩
  unfold pyNext
  refine wpAny_bind (wpAny_attempt (wpAny_callSpecial?_slot (name := Str.ofString "__next__") hT F.slot_enumerate_next
    (wpAny_call_entry F.slot_enumerate_next hT F.entry_enumerate_next ?_ (F.args_enumerate_next_1 _))))
  show wpAny _ _ (field (.ref e) 2 >>= _) _ _ _
  refine wpAny_bind (wpAny_field he rfl (x := .ref it) rfl ?_)
  refine wpAny_bind (wpAny_nextOf_tuple_end hh hit hl hx fun h' x he' hx' => ?_)
  obtain ⟨o, ho, hc⟩ := hx'
  refine wpAny_bind (wpAny_isInstance (T := "StopIteration") (b := true) ⟨o, ho, hc⟩ isSubtype_stop ?_)
  exact wpAny_pure (hQ _ he')
end
end PySem
namespace R1
open PySem PySem.Spec PyProof.Rows L2
def IteT (K : PySem.W.Frag) (a : Addr) : It :=
  ⟨fun i H => ∃ (xs : List V) (x : V), SqT K H a xs ∧ xs[i]? = some x, fun i H v H' => ∃ T x, v = .ref T ∧ H T = none ∧ H' = upd H T (.tup [.int (i : Nat), x]) ∧ ∀ xs, SqT K H a xs → xs[i]? = some x, fun i H => ∃ xs : List V, SqT K H a xs ∧ xs.length ≤ i⟩
theorem turn_enumT {P : Program} {w : World} {K : PySem.W.Frag} {elts : List Expr} {kk : Nat} {tpos : Pos} (a e it : Addr) :
    Turn P w K (.Tuple elts kk tpos) (IteT K a) [e, it] e (fun i h => (∃ old, IsEnum h e it ((i : Nat) : Int) old) ∧ h.IsTupleIter it a i ∧ e ≠ it ∧ a ≠ it ∧ a ≠ e) where
  mem := by simp
  obj := fun i h st b hb => by
    obtain ⟨⟨old, he⟩, ⟨o, ho, hc, hd⟩, _⟩ := st
    have e' : b = e ∨ b = it := by simpa using hb
    rcases e' with z | z
    · rw [z]; exact ⟨_, he, fun v q => nomatch q⟩
    · rw [z]; exact ⟨o, ho, fun v q => by rw [hd] at q; cases q⟩
  keep := fun i h h' st k => let ⟨⟨old, he⟩, hi, hne⟩ := st; ⟨⟨old, k e (by simp) _ he⟩, hi.at fun o q => k it (by simp) o q, hne⟩
  item := by
    intro X hP hw hK hc i pins s σ H E I hf st hg
    subst hP hw hK
    obtain ⟨⟨old, he⟩, hit, hne, hai, hae⟩ := st
    obtain ⟨xs, x, hq, hx⟩ := hg
    obtain ⟨its, rv, p, hz⟩ := I.tuple hq
    obtain ⟨u, hu, ru⟩ := rv.get hx
    have hel : e < s.heap.objs.size := Heap.lt_size he
    have hil : it < s.heap.objs.size := by obtain ⟨_, q, _⟩ := hit; exact Heap.lt_size q
    have hli : i < its.toArray.size := by
      have := rv.length
      have h2 : i < xs.length := by
        by_cases z : i < xs.length
        · exact z
        · rw [List.getElem?_eq_none (by omega)] at hx; cases hx
      simp; omega
    refine wpAny_pyNext_enum_itemD (PySem.Draws.tuple (show X.A.in1.handled = none from I.ok.hd hc) it a hai its.toArray) he ⟨hit, p⟩ hli hne (by simp [hne, Ne.symm hae]) fun x' h' tk hP' ho hst' hT hsz hk => ?_
    have ex : x' = u := by
      rw [List.getElem?_toArray, hu] at hP'
      exact (Option.some.inj hP').symm
    subst ex
    refine ⟨_, rfl, wpAny_letOwnedTupleGo_enum (s := { s with heap := h', toks := tk + 1 }) ho fun h'' he' sb => ?_⟩
    have hT2 : h''.get? s.heap.objs.size = some { cls := .type "tuple", data := .seq #[.int i tk, x'] } := (sb.2 _ (Nat.ne_of_gt hel)).trans hT
    have new : ObjOk X.prog X.w (upd H s.heap.objs.size (.tup [.int (i : Nat), x])) h'' s.heap.objs.size (.tup [.int (i : Nat), x]) :=
      ⟨by show 2 ≤ sizeLine; decide, [.int i tk, x'], .cons ⟨_, rfl⟩ (.cons ru .nil), ⟨_, hT2, rfl, _, rfl⟩⟩
    have I1 : Inv X pins σ (upd H s.heap.objs.size (.tup [.int (i : Nat), x])) { s with heap := h'', toks := tk + 1 } :=
      I.turnedNew (ch := [e, it]) (fun b ob hb q => (sb.2 b (fun z => hb (by simp [z]))).trans (hk b ob (fun z => hb (by simp [z])) (fun z => hb (by simp [z])) q)) hf (Nat.le_refl _) new
    refine ⟨.ref s.heap.objs.size, _, I1, rfl, ⟨_, x, rfl, I.hok.fresh (Nat.le_refl _), rfl, fun ys hy => by rw [I.tuple_inj hy hq]; exact hx⟩, ⟨⟨x', ?_⟩, hst'.1.at fun o q => (sb.2 it (Ne.symm hne)).trans q, hne, hai, hae⟩, fun b hb => ?_⟩
    · have e1 : ((i + 1 : Nat) : Int) = (i : Int) + 1 := by omega
      rw [e1]; exact he'
    · have hb' : b < s.heap.objs.size := by
        have e' : b = e ∨ b = it := by simpa using hb
        rcases e' with z | z
        · rw [z]; exact hel
        · rw [z]; exact hil
      rw [upd_ne (Nat.ne_of_lt hb')]
      exact (hf b hb).1
  done := by
    intro X hP hw hK hc i pins s σ H E I hf st hg
    subst hP hw hK
    obtain ⟨⟨old, he⟩, hit, hne, hai, hae⟩ := st
    obtain ⟨xs, hq, hx⟩ := hg
    obtain ⟨its, rv, p, hz⟩ := I.tuple hq
    obtain ⟨f0, f1, f2, f3, f4, f5⟩ := hf it (by simp)
    have hl := rv.length
    exact enum_endT (I.ok.hd hc) he hit p (by simp; omega) fun h' eb => ⟨rfl, I.turned (t' := s.toks) (fun b o hb q => eb b o hb q) f0 f1 f3 f4 f5⟩
  self := fun A i s Q E st h => let ⟨⟨_, he⟩, _⟩ := st; wpAny_pyIter_enum he h
end R1

namespace R1
open PySem PySem.Spec PyProof.Rows L2
def iEnumT (K : PySem.W.Frag) (ta : TA) : TI := fun σ H R => ta σ H fun vs H1 => ∃ a xs, vs = [.ref a] ∧ SqT K H1 a xs ∧ R (IteT K a) H1
theorem pi_enumT {X : Cx} {e : Expr} {ta : TA} {p pos tpos : Pos} {elts : List Expr} {kk : Nat} (hg : Gl X "enumerate") (hm : X.mg "enumerate" = none) (ha : PA X [e] ta) (hs : starEach [e] X.env = [(false, eval e X.env)] := by rfl) :
    PI X (.Tuple elts kk tpos) (.Call (.Name "enumerate" p) [e] [] pos) (iEnumT X.K ta) := by
  refine ⟨fun pins s σ H R I h => ?_⟩
  refine Call_ (ld_blt I hg hm boot_enumerate (PyProof.Rows.callWith_type1 (thn (ha.run pos pins s σ H _ I h) fun us s1 ⟨vs, H1, I1, r1, q1⟩ => ?_) hs rfl))
  obtain ⟨a, xs, ex, hq, q⟩ := q1
  subst ex
  cases r1 with
  | cons r rr =>
    cases rr
    cases r
    obtain ⟨its, rv, p', hz⟩ := I1.tuple hq
    have hla : a < s1.heap.objs.size := by
      obtain ⟨o, ho, _⟩ := id p'
      exact Heap.lt_size ho
    refine enum1 (begins_tuple a its.toArray) p' fun h' he hit hsz hk => wpAny_pyIter_enum he ?_
    have I2 : Inv X pins σ H1 { s1 with heap := h' } := I1.kept (t' := s1.toks) hk
    refine ⟨s1.heap.objs.size + 1, [s1.heap.objs.size + 1, s1.heap.objs.size], _, _, H1, rfl, I2, turn_enumT a (s1.heap.objs.size + 1) s1.heap.objs.size, ⟨⟨.none, he⟩, ⟨_, hit, rfl, rfl⟩, Nat.succ_ne_self _, Nat.ne_of_lt hla, Nat.ne_of_lt (Nat.lt_succ_of_lt hla)⟩, fun b hb => ?_, q⟩
    have e' : b = s1.heap.objs.size + 1 ∨ b = s1.heap.objs.size := by simpa using hb
    have hle : s1.heap.objs.size ≤ b := by
      rcases e' with z | z
      · rw [z]; exact Nat.le_add_right _ _
      · rw [z]; exact Nat.le_refl _
    exact I1.fpOk hle (I1.hok.fresh hle)
section
variable {K : PySem.W.Frag} {a : Addr} {xs : List V}
theorem walk_enumT : Walk (IteT K a) xs.length (fun H => SqT K H a xs) (YPair (fun i => some (.int (i : Nat))) (fun i => xs[i]?)) := by
  refine ⟨fun i _ hi q => ⟨xs, xs[i], q, by simp [hi]⟩, fun _ q => ⟨xs, q, Nat.le_refl _⟩, fun i H v H' _ q y => ?_⟩
  obtain ⟨T, x, h1, h2, h3, h4⟩ := y
  exact ⟨T, .int (i : Nat), x, h1, h2, h3, rfl, h4 xs q⟩
end
end R1

namespace R1
open PySem PySem.Spec PyProof.Rows L2
section
variable {P : Program} {w : World} {K : PySem.W.Frag} {mg : Str → Option Value} {base : Heap} {CX : CXT} {k : Nat} {f : Addr} {fd : FuncData} {ps : List Str}
/-- one def, two contracts -/
theorem fn_or {sp sp' : Sp} (F : FnOk P w K mg base CX k f fd ps sp) (G : FnOk P w K mg base CX k f fd ps sp') : FnOk P w K mg base CX k f fd ps (fun vs H Q E => sp vs H Q E ∨ sp' vs H Q E) :=
  ⟨fun vs H Q E q => q.elim (F.len vs H Q E) (G.len vs H Q E), fun A outer s H args us vs Q E hr he hb hv hs => hs.elim (F.run A outer s H args us vs Q E hr he hb hv) (G.run A outer s H args us vs Q E hr he hb hv)⟩
end
end R1

namespace R1
open PySem PySem.Spec PyProof.Rows L2
/-! ### what sorted leaves, by the items' own rows -/
section
variable {κ : Type} {R : V → κ → Prop} (enc : κ → PyData)
def sortK (rs : List κ) : List κ := rs.mergeSort (PySem.W.dataLe false enc)
theorem zip_al : ∀ {xs : List V} {rs : List κ}, xs.length = rs.length → (xs.zip rs).map Prod.fst = xs ∧ (xs.zip rs).map Prod.snd = rs
  | [], [], _ => ⟨rfl, rfl⟩
  | x :: xs, r :: rs, h => by
    obtain ⟨a, b⟩ := zip_al (Nat.succ.inj h)
    exact ⟨by rw [List.zip_cons_cons, List.map_cons, a], by rw [List.zip_cons_cons, List.map_cons, b]⟩
theorem sort_al {xs : List V} {rs : List κ} (h : Al R xs rs) : Al R (R0.sortV xs (rs.map enc)) (sortK enc rs) := by
  obtain ⟨e1, e2⟩ := zip_al h.1
  obtain ⟨zs, hzs⟩ : ∃ zs, zs = (xs.zip rs).mergeSort (PySem.W.dataLe false fun z : V × κ => enc z.2) := ⟨_, rfl⟩
  have hz : xs.zip (rs.map enc) = (xs.zip rs).map fun z => (z.1, enc z.2) := by
    rw [List.zip_map_right]
    exact List.map_congr_left fun z _ => rfl
  have hs1 : R0.sortV xs (rs.map enc) = zs.map Prod.fst := by
    unfold R0.sortV
    rw [hz, ← List.map_mergeSort (f := fun z : V × κ => (z.1, enc z.2)) (r := PySem.W.dataLe false fun z : V × κ => enc z.2) (s := PySem.W.dataLe false Prod.snd) (fun a _ b _ => rfl), List.map_map, hzs]
    rfl
  have hs2 : sortK enc rs = zs.map Prod.snd := by
    unfold sortK
    rw [hzs, List.map_mergeSort (r := PySem.W.dataLe false fun z : V × κ => enc z.2) (s := PySem.W.dataLe false enc) (fun a _ b _ => rfl), e2]
  rw [hs1, hs2]
  refine ⟨by simp, fun i x r hx hr => ?_⟩
  rw [List.getElem?_map] at hx hr
  cases e : zs[i]? with
  | none => rw [e] at hx; cases hx
  | some z =>
    rw [e] at hx hr
    obtain rfl : z.1 = x := Option.some.inj hx
    obtain rfl : z.2 = r := Option.some.inj hr
    have hm : z ∈ xs.zip rs := by
      have := List.mem_of_getElem? e
      rw [hzs, List.mem_mergeSort] at this
      exact this
    obtain ⟨j, hj⟩ := List.mem_iff_getElem?.mp hm
    have hj' := List.getElem?_zip_eq_some.mp hj
    exact h.2 j z.1 z.2 hj'.1 hj'.2
end
end R1

/-! list(zip(a, b)), a and b tuples of one length -/
namespace R1
open PySem PySem.Spec PyProof.Rows L2
theorem lt1000 {k : Nat} (h : k ≤ 1000) : k < sizeLine := by
  have : (1000 : Nat) < sizeLine := by decide
  omega
theorem zip_has_no_len : typeLookup (.type "zip") "__len__" = pure none := am_miss_of_fast (by decide +kernel)
theorem zip_has_no_hint : typeLookup (.type "zip") "__length_hint__" = pure none := am_miss_of_fast (by decide +kernel)
section
variable {prog : Program} {w : World} {A : Around} {E : Value → Shared → Prop} {s : Shared} {z TI TO T i1 i2 a b S : Addr} {f : Bool} {oT : Obj} {i n : Nat} {xs ys : Array Value} {x y : Value}
theorem zheld_item {Q : Value → Shared → Prop} (D : ZipApart z TI TO i1 i2 a b) (hz : IsZipHeld s.heap z TI TO T f) (hT : s.heap.get? T = some oT) (ti : IsPair s.heap TI (.ref i1) (.ref i2))
    (t1 : s.heap.IsTupleIter i1 a i) (t2 : s.heap.IsTupleIter i2 b i) (ha : s.heap.IsTuple a xs) (hb : s.heap.IsTuple b ys) (hx : xs[i]? = some x) (hy : ys[i]? = some y)
    (q : ∀ h', IsZipHeld h' z TI TO T true → h'.IsTupleIter i1 a (i + 1) → h'.IsTupleIter i2 b (i + 1) → IsPair h' s.heap.objs.size x y →
      (∀ c o, c ≠ z → c ≠ i1 → c ≠ i2 → s.heap.get? c = some o → h'.get? c = some o) → Q (.ref s.heap.objs.size) { s with heap := h' }) :
    wpAny (model prog w) A (Builtin.«zip.__next__» ⟨[.ref z], []⟩) (fun r s2 => ∃ u, r = .done (.ret u) ∧ Q u s2) E s := by
  show wpAny _ _ (field (.ref z) 2 >>= _) _ _ s
  refine wpAny_bind (wpAny_field hz rfl (x := .bool false) rfl ?_); show wpAny _ _ (field (.ref z) 3 >>= _) _ _ s
  refine wpAny_bind (wpAny_field hz rfl (x := .ref TI) rfl ?_); refine wpAny_bind (wpAny_seqItems ti rfl ?_)
  show wpAny _ _ (Builtin.SmallTypes.ownedTupleIsFree (.ref z) >>= _) _ _ s
  refine wpAny_bind (wpAny_tupleHeld_zip hz hT fun g1 z1 k1 => ?_); simp only [Bool.false_eq_true, if_false]
  refine wpAny_bind ?_; rw [← Array.forIn_toList]; simp only [List.forIn_cons, List.forIn_nil]
  refine wpAny_bind (wpAny_bind (wpAny_holding ?_)); show wpAny _ _ (Builtin.SmallTypes.nextOf (.ref i1) >>= _) _ _ _
  refine wpAny_bind (RZ.nextOf_tuple_item (s := { s with heap := g1 }) (t1.extBut k1.extBut D.i1z) (ha.extBut k1.extBut D.l1z) hx fun g2 t1' k2 => wpAny_pure (wpAny_pure ?_))
  refine wpAny_bind (wpAny_bind (wpAny_holding ?_)); show wpAny _ _ (Builtin.SmallTypes.nextOf (.ref i2) >>= _) _ _ _
  refine wpAny_bind (RZ.nextOf_tuple_item (s := { s with heap := g2 }) ((t2.extBut k1.extBut D.i2z).extBut k2.extBut D.i12.symm) ((hb.extBut k1.extBut D.l2z).extBut k2.extBut D.l2i1) hy fun g3 t2' k3 => wpAny_pure (wpAny_pure (wpAny_pure ?_)))
  show wpAny _ _ (newTuple [x, y] >>= _) _ _ _
  refine wpAny_bind (wpAny_newTuple (wpAny_pure ⟨_, rfl, ?_⟩))
  have e0 : g3.objs.size = s.heap.objs.size := by rw [k3.1, k2.1, k1.1]
  have z3 : IsZipHeld g3 z TI TO T true := k3.extBut _ _ D.i2z.symm (k2.extBut _ _ D.i1z.symm z1)
  have up : ∀ c o, c ≠ z → c ≠ i1 → c ≠ i2 → s.heap.get? c = some o → g3.get? c = some o := fun c o n1 n2 n3 e => k3.extBut _ _ n3 (k2.extBut _ _ n2 (k1.extBut _ _ n1 e))
  have t13 : g3.IsTupleIter i1 a (i + 1) := t1'.extBut k3.extBut D.i12
  have new : IsPair (g3.push { cls := .type "tuple", data := .seq #[x, y] }) g3.objs.size x y := Heap.get?_push_size _ rfl
  show Q (.ref g3.objs.size) _
  rw [e0] at new ⊢
  exact q _ (Heap.get?_push_of_some _ z3) (t13.at fun o e => Heap.get?_push_of_some _ e) (t2'.at fun o e => Heap.get?_push_of_some _ e) new fun c o n1 n2 n3 e => Heap.get?_push_of_some _ (up c o n1 n2 n3 e)
theorem zheld_end {Q : Fin → Shared → Prop} (hh : A.handled = none) (D : ZipApart z TI TO i1 i2 a b) (hz : IsZipHeld s.heap z TI TO T f) (hT : s.heap.get? T = some oT) (ti : IsPair s.heap TI (.ref i1) (.ref i2))
    (t1 : s.heap.IsTupleIter i1 a i) (ha : s.heap.IsTuple a xs) (hx : xs[i]? = none)
    (q : ∀ h' e, (∀ c o, c ≠ z → c ≠ i1 → c ≠ i2 → s.heap.get? c = some o → h'.get? c = some o) → (∃ o, h'.get? e = some o ∧ o.cls = .type "StopIteration") → E (.ref e) { s with heap := h' }) :
    wpAny (model prog w) A (Builtin.«zip.__next__» ⟨[.ref z], []⟩) Q E s := by
  show wpAny _ _ (field (.ref z) 2 >>= _) _ _ s
  refine wpAny_bind (wpAny_field hz rfl (x := .bool false) rfl ?_); show wpAny _ _ (field (.ref z) 3 >>= _) _ _ s
  refine wpAny_bind (wpAny_field hz rfl (x := .ref TI) rfl ?_); refine wpAny_bind (wpAny_seqItems ti rfl ?_)
  show wpAny _ _ (Builtin.SmallTypes.ownedTupleIsFree (.ref z) >>= _) _ _ s
  refine wpAny_bind (wpAny_tupleHeld_zip hz hT fun g1 z1 k1 => ?_); simp only [Bool.false_eq_true, if_false]
  refine wpAny_bind ?_; rw [← Array.forIn_toList]; simp only [List.forIn_cons, List.forIn_nil]
  refine wpAny_bind (wpAny_bind (wpAny_holding ?_)); show wpAny _ _ (Builtin.SmallTypes.nextOf (.ref i1) >>= _) _ _ _
  exact wpAny_bind (RZ.nextOf_tuple_end (s := { s with heap := g1 }) hh (t1.extBut k1.extBut D.i1z) (ha.extBut k1.extBut D.l1z) hx fun g2 e k2 he => q g2 e (fun c o n1 n2 _ v => k2 _ _ n2 (k1.extBut _ _ n1 v)) he)
theorem znext_item {Q : Option Value → Shared → Prop} (D : ZipApart z TI TO i1 i2 a b) (hz : IsZipHeld s.heap z TI TO T f) (hT : s.heap.get? T = some oT) (ti : IsPair s.heap TI (.ref i1) (.ref i2))
    (t1 : s.heap.IsTupleIter i1 a i) (t2 : s.heap.IsTupleIter i2 b i) (ha : s.heap.IsTuple a xs) (hb : s.heap.IsTuple b ys) (hx : xs[i]? = some x) (hy : ys[i]? = some y)
    (q : ∀ h', IsZipHeld h' z TI TO T true → h'.IsTupleIter i1 a (i + 1) → h'.IsTupleIter i2 b (i + 1) → IsPair h' s.heap.objs.size x y →
      (∀ c o, c ≠ z → c ≠ i1 → c ≠ i2 → s.heap.get? c = some o → h'.get? c = some o) → Q (some (.ref s.heap.objs.size)) { s with heap := h' }) :
    wpAny (model prog w) A (pyNext (.ref z)) Q E s := by
  have ty : s.TypeIs (.ref z) "zip" := ⟨_, hz, rfl⟩
  unfold pyNext
  exact wpAny_bind (wpAny_attempt (wpAny_callSpecial?_slot (name := Str.ofString "__next__") ty F.slot_zip_next (wpAny_call_entry F.slot_zip_next ty F.entry_zip_next (zheld_item D hz hT ti t1 t2 ha hb hx hy fun h' c1 c2 c3 c4 c5 => wpAny_pure (q h' c1 c2 c3 c4 c5)) (F.args_zip_next_1 _))))
theorem znext_end {Q : Option Value → Shared → Prop} (hh : A.handled = none) (D : ZipApart z TI TO i1 i2 a b) (hz : IsZipHeld s.heap z TI TO T f) (hT : s.heap.get? T = some oT) (ti : IsPair s.heap TI (.ref i1) (.ref i2))
    (t1 : s.heap.IsTupleIter i1 a i) (ha : s.heap.IsTuple a xs) (hx : xs[i]? = none)
    (q : ∀ h', (∀ c o, c ≠ z → c ≠ i1 → c ≠ i2 → s.heap.get? c = some o → h'.get? c = some o) → Q none { s with heap := h' }) : wpAny (model prog w) A (pyNext (.ref z)) Q E s := by
  have ty : s.TypeIs (.ref z) "zip" := ⟨_, hz, rfl⟩
  unfold pyNext
  refine wpAny_bind (wpAny_attempt (wpAny_callSpecial?_slot (name := Str.ofString "__next__") ty F.slot_zip_next (wpAny_call_entry F.slot_zip_next ty F.entry_zip_next (zheld_end hh D hz hT ti t1 ha hx fun h' e k ⟨o, ho, hc⟩ => ?_) (F.args_zip_next_1 _))))
  exact wpAny_bind (wpAny_isInstance (T := "StopIteration") (b := true) ⟨o, ho, hc⟩ isSubtype_stop (wpAny_pure (q _ k)))
/-- where the iterator stands, i pairs given out -/
structure ZAt (h : Heap) (z TI TO i1 i2 a b : Addr) (i : Nat) : Prop where
  ti : IsPair h TI (.ref i1) (.ref i2)
  t1 : h.IsTupleIter i1 a i
  t2 : h.IsTupleIter i2 b i
  out : (IsZip h z TI TO .none ∧ ∃ u v, IsPair h TO u v) ∨ ∃ T f oT, IsZipHeld h z TI TO T f ∧ h.get? T = some oT ∧ T ≠ z ∧ T ≠ i1 ∧ T ≠ i2 ∧ T ≠ S
/-- the pairs given out -/
structure Prs (h : Heap) (lo : Addr) (xs ys : Array Value) (as : List Addr) : Prop where
  rise : as.Pairwise (· < ·)
  above : ∀ c ∈ as, lo ≤ c
  pair : ∀ (j : Nat) (c : Addr), as[j]? = some c → ∃ x y, xs[j]? = some x ∧ ys[j]? = some y ∧ IsPair h c x y
theorem Prs.there {h : Heap} {lo : Addr} {as : List Addr} (g : Prs h lo xs ys as) {c : Addr} (hc : c ∈ as) : c < h.objs.size := by
  obtain ⟨j, hj⟩ := List.mem_iff_getElem?.mp hc
  obtain ⟨_, _, _, _, e⟩ := g.pair j c hj
  exact Heap.lt_size e
theorem zat_item {Q : Option Value → Shared → Prop} (D : ZipApart z TI TO i1 i2 a b) (Z : ZAt (S := S) s.heap z TI TO i1 i2 a b i) (hS : S < s.heap.objs.size) (ha : s.heap.IsTuple a xs) (hb : s.heap.IsTuple b ys) (hx : xs[i]? = some x) (hy : ys[i]? = some y)
    (q : ∀ h', ZAt (S := S) h' z TI TO i1 i2 a b (i + 1) → IsPair h' s.heap.objs.size x y → (∀ c o, c ≠ z → c ≠ TO → c ≠ i1 → c ≠ i2 → s.heap.get? c = some o → h'.get? c = some o) → Q (some (.ref s.heap.objs.size)) { s with heap := h' }) :
    wpAny (model prog w) A (pyNext (.ref z)) Q E s := by
  have l1 : i1 < s.heap.objs.size := by obtain ⟨_, e, _⟩ := Z.t1; exact Heap.lt_size e
  have l2 : i2 < s.heap.objs.size := by obtain ⟨_, e, _⟩ := Z.t2; exact Heap.lt_size e
  rcases Z.out with ⟨hz, u, v, hO⟩ | ⟨T, f, oT, hz, hT, n1, n2, n3, n4⟩
  · have lz : z < s.heap.objs.size := Heap.lt_size hz
    refine RZ.pyNext_zipT_item D hz Z.ti hO Z.t1 Z.t2 ha hb hx hy fun h' z' o' t1' t2' hN _ k => q h' ⟨k _ _ D.TIz D.TITO D.TIi1 D.TIi2 Z.ti, t1', t2', .inr ⟨s.heap.objs.size, false, _, z', hN, Nat.ne_of_gt lz, Nat.ne_of_gt l1, Nat.ne_of_gt l2, Nat.ne_of_gt hS⟩⟩ hN k
  · refine znext_item D hz hT Z.ti Z.t1 Z.t2 ha hb hx hy fun h' z' t1' t2' hN k => q h' ⟨k _ _ D.TIz D.TIi1 D.TIi2 Z.ti, t1', t2', .inr ⟨T, true, oT, z', k _ _ n1 n2 n3 hT, n1, n2, n3, n4⟩⟩ hN fun c o m1 _ m3 m4 e => k c o m1 m3 m4 e
theorem zat_end {Q : Option Value → Shared → Prop} (hh : A.handled = none) (D : ZipApart z TI TO i1 i2 a b) (Z : ZAt (S := S) s.heap z TI TO i1 i2 a b i) (ha : s.heap.IsTuple a xs) (hb : s.heap.IsTuple b ys) (hx : xs[i]? = none)
    (q : ∀ h', (∀ c o, c ≠ z → c ≠ TO → c ≠ i1 → c ≠ i2 → s.heap.get? c = some o → h'.get? c = some o) → Q none { s with heap := h' }) : wpAny (model prog w) A (pyNext (.ref z)) Q E s := by
  rcases Z.out with ⟨hz, u, v, hO⟩ | ⟨T, f, oT, hz, hT, n1, n2, n3, n4⟩
  · exact RZ.pyNext_zipT_end hh D hz Z.ti hO Z.t1 Z.t2 ha hb (.inl hx) fun h' k => q h' k
  · exact znext_end hh D hz hT Z.ti Z.t1 ha hx fun h' k => q h' fun c o m1 _ m3 m4 e => k c o m1 m3 m4 e
theorem ZAt.keep {h h' : Heap} (Z : ZAt (S := S) h z TI TO i1 i2 a b i) (k : ∀ c o, c ≠ S → h.get? c = some o → h'.get? c = some o) (m1 : z ≠ S) (m2 : TI ≠ S) (m3 : TO ≠ S) (m4 : i1 ≠ S) (m5 : i2 ≠ S) : ZAt (S := S) h' z TI TO i1 i2 a b i :=
  ⟨k _ _ m2 Z.ti, Z.t1.at fun o e => k _ o m4 e, Z.t2.at fun o e => k _ o m5 e, Z.out.elim (fun ⟨hz, u, v, hO⟩ => .inl ⟨k _ _ m1 hz, u, v, k _ _ m3 hO⟩) fun ⟨T, f, oT, hz, hT, n1, n2, n3, n4⟩ => .inr ⟨T, f, oT, k _ _ m1 hz, k _ _ n4 hT, n1, n2, n3, n4⟩⟩
/-- all five cells and the list lie below lo -/
structure ZLow (lo S z TI TO i1 i2 a b : Addr) : Prop where
  fs : S < lo
  fz : z < lo
  fo : TO < lo
  f1 : i1 < lo
  f2 : i2 < lo
  nz : z ≠ S
  nI : TI ≠ S
  nO : TO ≠ S
  n1 : i1 ≠ S
  n2 : i2 ≠ S
  na : a ≠ S
  nb : b ≠ S
theorem zloop {R : Result → Shared → Prop} {lo : Addr} {h1 : Heap} (hh : A.handled = none) (D : ZipApart z TI TO i1 i2 a b) (L : ZLow lo S z TI TO i1 i2 a b) (ex : xs.size = n) (ey : ys.size = n) (hn : n ≤ 1000) (res : Value)
    (hR : ∀ h' acc c as, (∀ d o, d ≠ S → d ≠ z → d ≠ TO → d ≠ i1 → d ≠ i2 → h1.get? d = some o → h'.get? d = some o) → h'.get? S = some { cls := .type "list", dict := none, data := .seq acc c, slots := #[] } → as.length = n → Prs h' lo xs ys as →
      acc.toList = as.map Value.ref → R (.ok (.ret res)) { s with heap := h' }) :
    ∀ (k i : Nat) (h : Heap) (c : Nat) (acc : Array Value) (as : List Addr), n - i = k → i ≤ n → ZAt (S := S) h z TI TO i1 i2 a b i → h.IsTuple a xs → h.IsTuple b ys → (∀ d o, d ≠ S → d ≠ z → d ≠ TO → d ≠ i1 → d ≠ i2 → h1.get? d = some o → h.get? d = some o) →
      h.get? S = some { cls := .type "list", dict := none, data := .seq acc c, slots := #[] } → acc.toList = as.map Value.ref → as.length = i → Prs h lo xs ys as → lo ≤ h.objs.size →
      codeAny (model prog w) A (.builtin "list.extend.loop" ⟨[.ref S, .ref z, res], []⟩) R { s with heap := h } := by
  intro k
  induction k with
  | zero =>
    intro i h c acc as hk hi Z ha hb kp hS hacc hal G hlo
    refine codeAny_builtin PySem.F.entry_extend_loop ?_; rw [Around.under_plainId PySem.F.plain_extend_loop _]
    show wpAny _ A.in1 (pyNext (.ref z) >>= _) _ _ _
    refine wpAny_bind (zat_end (s := { s with heap := h }) (A := A.in1) hh D Z ha hb (Array.getElem?_eq_none (by omega)) fun h' k' => wpAny_pure ?_)
    refine hR h' acc c as (fun d o d0 d1 d2 d3 d4 e => k' d o d1 d2 d3 d4 (kp d o d0 d1 d2 d3 d4 e)) (k' _ _ L.nz.symm L.nO.symm L.n1.symm L.n2.symm hS) (by omega) ⟨G.rise, G.above, fun j d hj => ?_⟩ hacc
    obtain ⟨u, v, e1, e2, e3⟩ := G.pair j d hj
    have ge := G.above d (List.mem_of_getElem? hj)
    exact ⟨u, v, e1, e2, k' d _ (Nat.ne_of_gt (Nat.lt_of_lt_of_le L.fz ge)) (Nat.ne_of_gt (Nat.lt_of_lt_of_le L.fo ge)) (Nat.ne_of_gt (Nat.lt_of_lt_of_le L.f1 ge)) (Nat.ne_of_gt (Nat.lt_of_lt_of_le L.f2 ge)) e3⟩
  | succ k ih =>
    intro i h c acc as hk hi Z ha hb kp hS hacc hal G hlo
    have lt : i < n := by omega
    have hx : xs[i]? = some (xs[i]'(by omega)) := Array.getElem?_eq_getElem _
    have hy : ys[i]? = some (ys[i]'(by omega)) := Array.getElem?_eq_getElem _
    have hsz : acc.size = i := by rw [← Array.length_toList, hacc, List.length_map, hal]
    refine codeAny_builtin PySem.F.entry_extend_loop ?_; rw [Around.under_plainId PySem.F.plain_extend_loop _]
    show wpAny _ A.in1 (pyNext (.ref z) >>= _) _ _ _
    refine wpAny_bind (zat_item (s := { s with heap := h }) (S := S) D Z (Heap.lt_size hS) ha hb hx hy fun h' Z' hN k' => ?_)
    dsimp only at hN k' ⊢
    have hS' := k' S _ L.nz.symm L.nO.symm L.n1.symm L.n2.symm hS
    have up : ∀ d o, d ≠ S → h'.get? d = some o → (h'.update S (Obj.mapSeq (·.push (Value.ref h.objs.size)))).get? d = some o := fun d o hd e => (Heap.get?_update_other _ _ (Ne.symm hd)).trans e
    have lS : S < h.objs.size := Heap.lt_size hS
    show wpAny _ A.in1 (updateSeq S (·.push (Value.ref h.objs.size)) >>= _) _ _ _
    refine wpAny_bind (wpAny_updateSeq hS' rfl (wpAny_pure ⟨plainId_quiet PySem.F.plain_extend_loop _, ih (i + 1) _ _ (acc.push (Value.ref h.objs.size)) (as ++ [h.objs.size]) (by omega) lt (Z'.keep up L.nz L.nI L.nO L.n1 L.n2)
      (ha.at fun o e => up a o L.na (k' a o D.l1z D.l1TO D.l1i1 D.l1i2 e)) (hb.at fun o e => up b o L.nb (k' b o D.l2z D.l2TO D.l2i1 D.l2i2 e)) (fun d o d0 d1 d2 d3 d4 e => up d o d0 (k' d o d1 d2 d3 d4 (kp d o d0 d1 d2 d3 d4 e)))
      (Heap.get?_update_self _ hS' rfl) (by rw [Array.toList_push, hacc, List.map_append]; rfl) (by rw [List.length_append, hal]; rfl) ⟨?_, ?_, ?_⟩ ?_⟩) ?_ ?_)
    · exact List.pairwise_append.mpr ⟨G.rise, List.pairwise_singleton _ _, fun u hu v hv => by rw [List.mem_singleton.mp hv]; exact G.there hu⟩
    · intro u hu
      rcases List.mem_append.mp hu with hu | hu
      · exact G.above u hu
      · rw [List.mem_singleton.mp hu]; exact hlo
    · intro j d hj
      by_cases h1 : j < as.length
      · rw [List.getElem?_append_left h1] at hj
        obtain ⟨u, v, e1, e2, e3⟩ := G.pair j d hj
        have ge := G.above d (List.mem_of_getElem? hj)
        exact ⟨u, v, e1, e2, up d _ (Nat.ne_of_gt (Nat.lt_of_lt_of_le L.fs ge)) (k' d _ (Nat.ne_of_gt (Nat.lt_of_lt_of_le L.fz ge)) (Nat.ne_of_gt (Nat.lt_of_lt_of_le L.fo ge)) (Nat.ne_of_gt (Nat.lt_of_lt_of_le L.f1 ge)) (Nat.ne_of_gt (Nat.lt_of_lt_of_le L.f2 ge)) e3)⟩
      · rw [List.getElem?_append_right (by omega)] at hj
        have e0 : j - as.length = 0 := by
          cases e : j - as.length with
          | zero => rfl
          | succ m => rw [e] at hj; simp at hj
        rw [e0] at hj
        have hd : h.objs.size = d := by simpa using hj
        have hji : j = i := by omega
        subst hd
        subst hji
        exact ⟨_, _, hx, hy, up _ _ (Nat.ne_of_gt lS) hN⟩
    · have e : (h'.update S (Obj.mapSeq (·.push (Value.ref h.objs.size)))).get? h.objs.size = _ := up _ _ (Nat.ne_of_gt lS) hN
      exact Nat.le_trans hlo (Nat.le_of_lt (Heap.lt_size e))
    · rw [hsz]; exact Nat.le_of_lt (lt1000 (by omega))
    · show (acc.push (Value.ref h.objs.size)).size ≤ sizeLine + 1
      rw [Array.size_push, hsz]
      have := lt1000 (show i ≤ 1000 by omega)
      omega
end
end R1

namespace R1
open PySem PySem.Spec PyProof.Rows L2
section
variable {prog : Program} {w : World} {A : Around} {E : Value → Shared → Prop} {s : Shared} {z TI TO i1 i2 a b S : Addr} {n : Nat} {xs ys : Array Value} {u v : Value}
theorem zip_hint (hz : s.TypeIs (.ref z) "zip") {Q : Bool → Shared → Prop} (q : Q true s) : wpAny (model prog w) A (Builtin.List.listLengthHint (.ref z)) Q E s := by
  unfold Builtin.List.listLengthHint
  refine wpAny_bind (wpAny_specialOf hz zip_has_no_len ?_)
  show wpAny _ A (specialOf (Value.ref z) (Str.ofString "__length_hint__") >>= _) _ _ _
  exact wpAny_bind (wpAny_specialOf hz zip_has_no_hint (wpAny_pure q))
def ZKept (S z TO i1 i2 : Addr) (h h' : Heap) : Prop := ∀ d o, d ≠ S → d ≠ z → d ≠ TO → d ≠ i1 → d ≠ i2 → h.get? d = some o → h'.get? d = some o
theorem zextend {R : Result → Shared → Prop} {c0 : Nat} (hh : A.handled = none) (D : ZipApart z TI TO i1 i2 a b) (L : ZLow s.heap.objs.size S z TI TO i1 i2 a b) (hz : IsZip s.heap z TI TO .none) (ti : IsPair s.heap TI (.ref i1) (.ref i2)) (hO : IsPair s.heap TO u v)
    (t1 : s.heap.IsTupleIter i1 a 0) (t2 : s.heap.IsTupleIter i2 b 0) (ha : s.heap.IsTuple a xs) (hb : s.heap.IsTuple b ys) (ex : xs.size = n) (ey : ys.size = n) (hn : n ≤ 1000) (res : Value) (hS : s.heap.get? S = some { cls := .type "list", data := .seq #[] c0 })
    (hR : ∀ h' acc c as, ZKept S z TO i1 i2 s.heap h' → h'.get? S = some { cls := .type "list", dict := none, data := .seq acc c, slots := #[] } → as.length = n → Prs h' s.heap.objs.size xs ys as → acc.toList = as.map Value.ref → R (.ok (.ret res)) { s with heap := h' }) :
    wpAny (model prog w) A.in1 (Builtin.List.listExtendWith (.ref S) (.ref z) res)
      (fun r s' => match r with | .done f => R (.ok f) s' | .again c' => c'.quiet = true ∧ codeAny (model prog w) A c' R s') (fun e s' => R (.error e) s') s := by
  have ty : s.TypeIs (.ref z) "zip" := ⟨_, hz, rfl⟩
  have n1 : Builtin.List.listSameRef (.ref S) (.ref z) = false := by simp [Builtin.List.listSameRef, L.nz.symm]
  have n2 : (Value.type "zip" == Value.type "list") = false := by decide
  have n3 : (Value.type "zip" == Value.type "tuple") = false := by decide
  unfold Builtin.List.listExtendWith
  refine wpAny_bind (wpAny_typeOf ty ?_); simp only [n1, n2, n3, Bool.or_false, Bool.false_eq_true, if_false]
  refine wpAny_bind (wpAny_pyIter_zip hz ?_); refine wpAny_bind (wpAny_holding (zip_hint ty ?_)); simp only [Bool.true_or, if_true]
  refine wpAny_bind (wpAny_rule ?_)
  refine wpAny_bind ?_; show wpAny _ A.in1 (updateSeq S (·.push .none) >>= fun _ => updateSeq S (·.pop)) _ _ s
  refine wpAny_bind (wpAny_updateSeq hS rfl ?_)
  have g2 := Heap.get?_update_self (Obj.mapSeq (·.push Value.none)) hS rfl
  refine wpAny_updateSeq (hz := by seq_fits) g2 rfl ?_
  have g3 := Heap.get?_update_self (Obj.mapSeq (·.pop)) g2 rfl
  have ot : ∀ d o, d ≠ S → s.heap.get? d = some o → ((s.heap.update S (Obj.mapSeq (·.push Value.none))).update S (Obj.mapSeq (·.pop))).get? d = some o := fun d o hd e =>
    (Heap.get?_update_other _ _ (Ne.symm hd)).trans ((Heap.get?_update_other _ _ (Ne.symm hd)).trans e)
  generalize eh : (s.heap.update S (Obj.mapSeq (·.push Value.none))).update S (Obj.mapSeq (·.pop)) = hf at g3 ot ⊢
  have sz : s.heap.objs.size ≤ hf.objs.size := by rw [← eh]; simp [Heap.update]
  have Z0 : ZAt (S := S) s.heap z TI TO i1 i2 a b 0 := ⟨ti, t1, t2, .inl ⟨hz, u, v, hO⟩⟩
  exact wpAny_pure ⟨plainId_quiet PySem.F.plain_extend_loop _, zloop (s := s) (h1 := s.heap) hh D L ex ey hn res (fun h' acc c as kp hS' hl G hacc => hR h' acc c as kp hS' hl G hacc) n 0 hf _ _ [] (Nat.sub_zero _) (Nat.zero_le _) (Z0.keep ot L.nz L.nI L.nO L.n1 L.n2)
    (ha.at fun o e => ot a o L.na e) (hb.at fun o e => ot b o L.nb e) (fun d o d0 _ _ _ _ e => ot d o d0 e) g3 rfl rfl ⟨List.Pairwise.nil, (fun _ h => nomatch h), fun j c hj => by simp at hj⟩ sz⟩
theorem zcall {Q : Value → Shared → Prop} (hh : A.handled = none) (D : ZipApart z TI TO i1 i2 a b) (hz : IsZip s.heap z TI TO .none) (ti : IsPair s.heap TI (.ref i1) (.ref i2)) (hO : IsPair s.heap TO u v)
    (t1 : s.heap.IsTupleIter i1 a 0) (t2 : s.heap.IsTupleIter i2 b 0) (ha : s.heap.IsTuple a xs) (hb : s.heap.IsTuple b ys) (ex : xs.size = n) (ey : ys.size = n) (hn : n ≤ 1000)
    (q : ∀ h' acc c as, (∀ d o, d ≠ z → d ≠ TO → d ≠ i1 → d ≠ i2 → s.heap.get? d = some o → h'.get? d = some o) → h'.get? s.heap.objs.size = some { cls := .type "list", dict := none, data := .seq acc c, slots := #[] } → as.length = n → Prs h' (s.heap.objs.size + 1) xs ys as →
      acc.toList = as.map Value.ref → Q (.ref s.heap.objs.size) { s with heap := h' }) : wpAny (model prog w) A (call (.type "list") [.ref z]) Q E s := by
  have lz : z < s.heap.objs.size := Heap.lt_size hz
  have lI : TI < s.heap.objs.size := Heap.lt_size ti
  have lO : TO < s.heap.objs.size := Heap.lt_size hO
  have l1 : i1 < s.heap.objs.size := by obtain ⟨_, e, _⟩ := t1; exact Heap.lt_size e
  have l2 : i2 < s.heap.objs.size := by obtain ⟨_, e, _⟩ := t2; exact Heap.lt_size e
  have la : a < s.heap.objs.size := by obtain ⟨_, e, _⟩ := id ha; exact Heap.lt_size e
  have lb : b < s.heap.objs.size := by obtain ⟨_, e, _⟩ := id hb; exact Heap.lt_size e
  refine callType_codes (Q₁ := fun obj s2 => obj = .ref s.heap.objs.size ∧ s2 = { s with heap := s.heap.push { cls := .type "list", data := .seq #[] } }) PySem.F.called_list (PySem.F.typeCall_list_1 _) PySem.F.entry_list_init (code_list_new _ ⟨rfl, rfl⟩) fun obj s2 h2 => ?_
  obtain ⟨rfl, rfl⟩ := h2
  have hS : (s.heap.push { cls := .type "list", data := .seq #[] }).get? s.heap.objs.size = some { cls := .type "list", data := .seq #[] } := Heap.get?_push_size _ rfl
  have pz : (s.heap.push { cls := .type "list", data := .seq #[] }).objs.size = s.heap.objs.size + 1 := Heap.size_push ..
  have up : ∀ d o, s.heap.get? d = some o → (s.heap.push { cls := .type "list", data := .seq #[] }).get? d = some o := fun d o e => Heap.get?_push_of_some _ e
  generalize eg : s.heap.push { cls := .type "list", data := .seq #[] } = g at hS pz up ⊢
  refine ⟨⟨_, hS, rfl⟩, PySem.F.args_list_init_2 _ _, ?_⟩
  show wpAny _ _ (do let old ← Builtin.List.listItems (.ref s.heap.objs.size); Builtin.List.listUpdate (.ref s.heap.objs.size) (fun _ => #[]); letGo old.toList.reverse; Builtin.List.listExtendWith (.ref s.heap.objs.size) (.ref z) .none) _ _ _
  refine wpAny_bind ?_; unfold Builtin.List.listItems
  refine wpAny_bind (wpAny_seqItems hS rfl (wpAny_pure ?_))
  show wpAny _ _ (updateSeq s.heap.objs.size (fun _ => #[]) >>= fun _ => letGo (#[] : Array Value).toList.reverse >>= fun _ => Builtin.List.listExtendWith (.ref s.heap.objs.size) (.ref z) .none) _ _ _
  refine wpAny_bind (wpAny_updateSeq hS rfl ?_)
  have hS2 := Heap.get?_update_self (Obj.mapSeq (fun _ => (#[] : Array Value))) hS rfl
  have ot : ∀ d o, d ≠ s.heap.objs.size → g.get? d = some o → (g.update s.heap.objs.size (Obj.mapSeq (fun _ => (#[] : Array Value)))).get? d = some o := fun d o hd e => (Heap.get?_update_other _ _ (Ne.symm hd)).trans e
  have sz2 : (g.update s.heap.objs.size (Obj.mapSeq (fun _ => (#[] : Array Value)))).objs.size = s.heap.objs.size + 1 := by rw [← pz]; simp [Heap.update]
  refine wpAny_bind (wpAny_letGo ?_)
  generalize g.update s.heap.objs.size (Obj.mapSeq (fun _ => (#[] : Array Value))) = g2 at hS2 ot sz2 ⊢
  have k2 : ∀ d o, s.heap.get? d = some o → g2.get? d = some o := fun d o e => ot d o (Nat.ne_of_lt (Heap.lt_size e)) (up d o e)
  refine zextend (A := A.in1) (R := wants (fun r s₂ => r = Value.none ∧ Q (Value.ref s.heap.objs.size) s₂) E) (s := { s with heap := g2 }) (n := n) hh D ⟨?_, ?_, ?_, ?_, ?_, Nat.ne_of_lt lz, Nat.ne_of_lt lI, Nat.ne_of_lt lO, Nat.ne_of_lt l1, Nat.ne_of_lt l2, Nat.ne_of_lt la, Nat.ne_of_lt lb⟩ (k2 _ _ hz) (k2 _ _ ti) (k2 _ _ hO)
    (t1.at fun o e => k2 _ o e) (t2.at fun o e => k2 _ o e) (ha.at fun o e => k2 _ o e) (hb.at fun o e => k2 _ o e) ex ey hn .none hS2 fun h' acc c as kp hS' hl G hacc => ⟨rfl, q h' acc c as (fun d o d1 d2 d3 d4 e => kp d o (Nat.ne_of_lt (Heap.lt_size e)) d1 d2 d3 d4 (k2 d o e)) hS' hl (by rw [← sz2]; exact G) hacc⟩
  all_goals (show _ < g2.objs.size; rw [sz2])
  · exact Nat.lt_succ_self _
  · exact Nat.lt_succ_of_lt lz
  · exact Nat.lt_succ_of_lt lO
  · exact Nat.lt_succ_of_lt l1
  · exact Nat.lt_succ_of_lt l2
end
/-! ### tracked -/
def putP : Hp → List Addr → List (V × V) → Hp
  | H, c :: cs, p :: ps => putP (upd H c (.tup [p.1, p.2])) cs ps
  | H, _, _ => H
theorem putP_off {d : Addr} : ∀ (cs : List Addr) (ps : List (V × V)) (H : Hp), d ∉ cs → putP H cs ps d = H d
  | [], _, _, _ => rfl
  | _ :: _, [], _, _ => rfl
  | c :: cs, p :: ps, H, h => by
    have h2 : d ≠ c ∧ d ∉ cs := ⟨fun e => h (e ▸ List.mem_cons_self), fun e => h (List.mem_cons_of_mem _ e)⟩
    show putP (upd H c (.tup [p.1, p.2])) cs ps d = H d
    rw [putP_off cs ps _ h2.2, upd_ne h2.1]
theorem putP_at : ∀ (cs : List Addr) (ps : List (V × V)) (H : Hp), cs.Nodup → ∀ (j : Nat) (c : Addr) (p : V × V), cs[j]? = some c → ps[j]? = some p → putP H cs ps c = some (.tup [p.1, p.2])
  | [], _, _, _, _, _, _, h, _ => by simp at h
  | _ :: _, [], _, _, _, _, _, _, h => by simp at h
  | c :: cs, p :: ps, H, nd, 0, d, r, h1, h2 => by
    cases h1; cases h2
    show putP (upd H c (.tup [p.1, p.2])) cs ps c = _
    rw [putP_off cs ps _ (List.nodup_cons.mp nd).1, upd_same]
  | c :: cs, p :: ps, H, nd, j + 1, d, r, h1, h2 => putP_at cs ps _ (List.nodup_cons.mp nd).2 j d r (by simpa using h1) (by simpa using h2)
theorem refs_vals : ∀ as : List Addr, Vals (as.map V.ref) (as.map Value.ref)
  | [] => .nil
  | _ :: as => .cons rfl (refs_vals as)
theorem LiI_get : ∀ {vs : List V} {us : List Value}, Vals vs us → ∀ {j : Nat} {u : Value}, us[j]? = some u → ∃ v, vs[j]? = some v ∧ RelV v u
  | _, _, .nil, j, u, h => by simp at h
  | _, _, .cons r t, 0, u, h => by cases h; exact ⟨_, rfl, r⟩
  | _, _, .cons r t, j + 1, u, h => by simpa using LiI_get t (by simpa using h)
section
variable {X : Cx}
theorem zip_laid {pins : List (Addr × Obj)} {σ : L2.St} {H : Hp} {s : Shared} {h' : Heap} {l : Addr} {acc : Array Value} {c tk : Nat} {as : List Addr} {vs ws : List V} {us rs : List Value} (I : Inv X pins σ H s) (rv : Vals vs us) (rw' : Vals ws rs) (hl : as.length ≤ 1000) (hk : ∀ d o, s.heap.get? d = some o → h'.get? d = some o)
    (ll : s.heap.objs.size ≤ l) {lw : Addr} (hlw : l < lw) (hS : h'.get? l = some { cls := .type "list", dict := none, data := .seq acc c, slots := #[] }) (G : Prs h' lw us.toArray rs.toArray as) (hacc : acc.toList = as.map Value.ref) :
    ∃ H' : Hp, Same H H' ∧ H l = none ∧ H' l = some (.lst (as.map V.ref)) ∧ (∀ (j : Nat) (d : Addr) (x y : V), as[j]? = some d → vs[j]? = some x → ws[j]? = some y → H' d = some (.tup [x, y])) ∧ Inv X pins σ H' { s with heap := h', toks := tk } := by
  have nd : as.Nodup := List.Pairwise.imp (fun {d e} (h : d < e) => Nat.ne_of_lt h) G.rise
  have lo : ∀ d ∈ as, s.heap.objs.size ≤ d ∧ d ≠ l := fun d hd => by
    have q : l < d := Nat.lt_of_lt_of_le hlw (G.above d hd)
    exact ⟨Nat.le_of_lt (Nat.lt_of_le_of_lt ll q), Nat.ne_of_gt q⟩
  have nl : H l = none := I.hok.fresh ll
  have nw : ∀ d ∈ as, H d = none := fun d hd => I.hok.fresh (lo d hd).1
  have zl : (vs.zip ws).length = min vs.length ws.length := List.length_zip
  have gz : ∀ (j : Nat) (x y : V), vs[j]? = some x → ws[j]? = some y → (vs.zip ws)[j]? = some (x, y) := fun j x y h1 h2 => List.getElem?_zip_eq_some.mpr ⟨h1, h2⟩
  generalize eH : putP (upd H l (.lst (as.map V.ref))) as (vs.zip ws) = H'
  have off : ∀ d, d ∉ as → d ≠ l → H' d = H d := fun d h1 h2 => by rw [← eH, putP_off as _ _ h1, upd_ne h2]
  have atl : H' l = some (.lst (as.map V.ref)) := by rw [← eH, putP_off as _ _ (fun z => (lo l z).2 rfl), upd_same]
  have att : ∀ (j : Nat) (d : Addr) (x y : V), as[j]? = some d → vs[j]? = some x → ws[j]? = some y → H' d = some (.tup [x, y]) := fun j d x y h1 h2 h3 => by
    rw [← eH]; exact putP_at as _ _ nd j d (x, y) h1 (gz j x y h2 h3)
  have kp : Same H H' := fun d o e => by
    rw [off d (fun z => by rw [nw d z] at e; cases e) (fun z => by rw [z, nl] at e; cases e)]; exact e
  refine ⟨H', kp, nl, atl, att, I.call' (ch := []) rfl ⟨fun d o e _ _ _ => hk d o e, fun d o e _ _ _ => ⟨o.slots, hk d o e⟩, fun d o e n _ => ?_, fun d o e _ => ⟨o, hk d o e⟩, fun d r e => kp d _ e, fun d o r e => kp d _ e, fun d r e => ⟨#[], by rw [kp d _ e]; simp⟩⟩ (fun d o e => ?_) I.bare fun d z => by simp at z⟩
  · have q := Heap.lt_size e
    rw [off d (fun z => absurd q (Nat.not_lt.mpr (lo d z).1)) (fun z => absurd q (Nat.not_lt.mpr (z ▸ ll)))]; exact n
  · by_cases hd : d ∈ as
    · obtain ⟨j, hj⟩ := List.mem_iff_getElem?.mp hd
      obtain ⟨x, y, e1, e2, e3⟩ := G.pair j d hj
      obtain ⟨p, hp, rp⟩ := LiI_get rv (by simpa using e1)
      obtain ⟨r, hr, rr⟩ := LiI_get rw' (by simpa using e2)
      rw [att j d p r hj hp hr] at e
      cases e
      exact ⟨by show 2 ≤ sizeLine; decide, [x, y], .cons rp (.cons rr .nil), ⟨_, e3, rfl, _, rfl⟩⟩
    · by_cases h2 : d = l
      · subst h2
        rw [atl] at e
        cases e
        refine ⟨by rw [List.length_map]; exact Nat.le_of_lt (lt1000 hl), acc.toList, c, by rw [hacc]; exact refs_vals as, ?_⟩
        rw [Array.toArray_toList]; exact hS
      · rw [off d hd h2] at e
        exact (I.hok d o e).stay (fun g v _ y => hk g v y) (fun g y => kp g _ y) fun g r y => kp g _ y
def tListZip (K : PySem.W.Frag) (ta : TA) : TE := fun σ H Q => ta σ H fun vs H1 => ∃ a b xs ys, vs = [.ref a, .ref b] ∧ SqT K H1 a xs ∧ SqT K H1 b ys ∧ xs.length = ys.length ∧ xs.length ≤ 1000 ∧
  ∀ (H2 : Hp) (l : Addr) (as : List Addr), Same H1 H2 → H1 l = none → as.length = xs.length → H2 l = some (.lst (as.map V.ref)) → (∀ (j : Nat) (d : Addr) (x y : V), as[j]? = some d → xs[j]? = some x → ys[j]? = some y → H2 d = some (.tup [x, y])) → Q (.ref l) H2
theorem pe_listZip {e e2 : Expr} {ta : TA} {p p2 pos pos2 : Pos} (hc : X.calm = true) (hg : Gl X "list") (hm : X.mg "list" = none) (hg2 : Gl X "zip") (hm2 : X.mg "zip" = none) (ha : PA X [e, e2] ta)
    (na : starEach [.Call (.Name "zip" p2) [e, e2] [] pos2] X.env = (false, eval (.Call (.Name "zip" p2) [e, e2] [] pos2) X.env) :: starEach [] X.env := by rfl)
    (hs : starEach [e, e2] X.env = (false, eval e X.env) :: starEach [e2] X.env := by rfl) (hpl : (backTo pos2 (starEach [e2] X.env)).any (·.1) = false := by rfl) :
    PE X (.Call (.Name "list" p) [.Call (.Name "zip" p2) [e, e2] [] pos2] [] pos) (tListZip X.K ta) := by
  refine ⟨fun pins s σ H Q I h => ?_⟩
  refine Call_ (ld_blt I hg hm PyProof.Rows.boot_list ?_)
  refine PyProof.Rows.callWith_type1 (PyProof.Rows.args_cons ?_ na) na rfl
  refine Call_ (ld_blt I hg2 hm2 PyProof.Rows.boot_zip (PyProof.Rows.callWith_type1 (thn (ha.run pos2 pins s σ H _ I h) fun us s1 ⟨vs, H1, I1, r1, q1⟩ => ?_) hs hpl))
  obtain ⟨a, b, xs, ys, rfl, hqx, hqy, hl, hl2, q⟩ := q1
  obtain ⟨u1, u2, rfl, e1, e2⟩ := vals2 r1
  obtain rfl : u1 = Value.ref a := e1
  obtain rfl : u2 = Value.ref b := e2
  obtain ⟨its, rv, p1, _⟩ := I1.tuple hqx
  obtain ⟨its2, rv2, p2', _⟩ := I1.tuple hqy
  obtain ⟨o1, ho1, _⟩ := id p1
  obtain ⟨o2, ho2, _⟩ := id p2'
  have y1 := rv.length
  have y2 := rv2.length
  refine RZ.call_zipT (show s1.heap.IsTuple a its.toArray from p1) (show s1.heap.IsTuple b its2.toArray from p2') fun h' hz hTI hTO h1 h2 hsz hk => ?_
  refine PyProof.Rows.args_nil ?_
  refine zcall (s := { s1 with heap := h' }) (n := xs.length) (xs := its.toArray) (ys := its2.toArray) (I1.ok.hd hc) (PySem.W.ktu_apart s1.heap.objs.size a b (Heap.lt_size ho1) (Heap.lt_size ho2)) hz hTI hTO h1 h2 (let ⟨o, ho, r⟩ := p1; ⟨o, hk a o ho, r⟩) (let ⟨o, ho, r⟩ := p2'; ⟨o, hk b o ho, r⟩) (by rw [List.size_toArray]; omega) (by rw [List.size_toArray]; omega) hl2 fun h3 acc c as k3 hS hal G hacc => ?_
  have I2 : Inv X pins σ H1 { s1 with heap := h' } := I1.kept (t' := s1.toks) hk
  have ne : ∀ d o, s1.heap.get? d = some o → h3.get? d = some o := fun d o e => by
    have q := Heap.lt_size e
    have nq : ∀ m : Nat, d ≠ s1.heap.objs.size + m := fun m z => absurd q (Nat.not_lt.mpr (z ▸ Nat.le_add_right _ _))
    exact k3 d o (nq 4) (nq 3) (nq 0) (nq 1) (hk d o e)
  obtain ⟨H2, sm, n0, at0, att, J⟩ := zip_laid (tk := s1.toks) I1 rv rv2 (by omega) ne (by rw [hsz]; omega) (Nat.lt_succ_self _) hS G hacc
  exact ⟨.ref h'.objs.size, H2, J, rfl, q H2 _ as sm n0 hal at0 att⟩
end
end R1

/-! text * int, the int any count -/
namespace R1
open PySem PySem.Spec PyProof.Rows L2
def repT (n : Nat) (z : List Nat) : List Nat := (List.replicate n z).flatten
theorem rep_fold (z : Array Nat) : ∀ (n : Nat) (b : Array Nat), ((List.replicate n z).foldl (· ++ ·) b).toList = b.toList ++ (List.replicate n z.toList).flatten
  | 0, b => by simp
  | n + 1, b => by
    rw [List.replicate_succ, List.foldl_cons, rep_fold z n, Array.toList_append, List.replicate_succ, List.flatten_cons, List.append_assoc]
theorem rep_len (z : List Nat) : ∀ n : Nat, (repT n z).length = n * z.length
  | 0 => by simp [repT]
  | n + 1 => by
    have := rep_len z n
    unfold repT at *
    rw [List.replicate_succ, List.flatten_cons, List.length_append, this, Nat.add_mul]
    omega
theorem op_rep {X : Cx} : OpR X (binaryOp .Mult) (fun x y H Q => ∃ (z : List Nat) (n : Nat), x = .str ⟨z.toArray⟩ ∧ y = .int n ∧ n ≤ 1000 ∧ 1 ≤ z.length ∧ z.length ≤ 1000 ∧ Q (.str ⟨(repT n z).toArray⟩) H) := by
  intro pins s σ H x y v u Q I rx ry h
  obtain ⟨z, n, rfl, rfl, h2, h3, h4, q⟩ := h
  obtain ⟨t, rfl⟩ := rx
  obtain ⟨t', rfl⟩ := ry
  have ez : (⟨z.toArray⟩ : Str).length = z.length := by show z.toArray.size = _; simp
  have e24 : sizeLine = 16777216 := by decide
  have hm : z.length * n ≤ 1000 * 1000 := Nat.mul_le_mul h4 h2
  refine PySem.P.mul_str ?_ (fun h1 _ => ?_) (fun _ _ => ?_) ?_
  · rw [decide_eq_false (by omega), decide_eq_false (by omega)]
    rfl
  · have : (1000 : Int) ≤ (2 ^ 63 - 1) / (n : Int) := by
      rw [Int.le_ediv_iff_mul_le (by omega)]
      omega
    rw [ez]
    omega
  · refine decide_eq_false ?_
    rw [e24, ez, Int.toNat_natCast]
    omega
  · have fin : ∀ s' : Shared, s' = { s with toks := s.toks + 1 } → EP X pins σ Q (.str ⟨(repT n z).toArray⟩ s.toks) s' := fun s' e => by
      subst e
      exact ⟨.str ⟨(repT n z).toArray⟩, H, I.tok _, ⟨_, rfl⟩, q⟩
    by_cases h0 : n = 0
    · subst h0
      rw [if_pos (by decide)]
      exact ⟨by decide, fin _ rfl⟩
    · rw [if_neg (by omega)]
      by_cases h1 : n = 1
      · subst h1
        rw [if_pos (by rfl)]
        have e1 : repT 1 z = z := by simp [repT]
        rw [e1] at q
        exact ⟨.str ⟨z.toArray⟩, H, I, ⟨_, rfl⟩, q⟩
      · have c1 : ((n : Int) == 1 || (⟨z.toArray⟩ : Str).length == 0) = false := by
          rw [Bool.or_eq_false_iff, ez]
          exact ⟨by rw [beq_eq_false_iff_ne]; omega, by rw [beq_eq_false_iff_ne]; omega⟩
        rw [c1, if_neg Bool.false_ne_true]
        have eq : (⟨(List.replicate (n : Int).toNat (⟨z.toArray⟩ : Str).cps).foldl (· ++ ·) #[]⟩ : Str) = ⟨(repT n z).toArray⟩ := by
          congr 1
          apply Array.toList_inj.mp
          rw [rep_fold, Int.toNat_natCast]
          simp [repT]
        rw [eq]
        refine ⟨?_, fin _ rfl⟩
        show (repT n z).toArray.size ≤ sizeLine
        rw [e24, List.size_toArray, rep_len, Nat.mul_comm]
        omega
end R1

/-! t[::-1], t a tuple -/
namespace R1
open PySem PySem.Spec PyProof.Rows L2 HT
section
variable {prog : Program} {w : World} {A : Around} {E : Value → Shared → Prop} {s : Shared}
theorem adjust_rev (n : Nat) : Builtin.Slice.sliceAdjust none none (-1) (n : Int) = ((n : Int) - 1, -1) := by
  unfold Builtin.Slice.sliceAdjust
  simp
theorem places_rev (n : Nat) : Builtin.Slice.slicePlaces ((n : Int) - 1) (-1) (-1) = n := by
  unfold Builtin.Slice.slicePlaces
  have h1 : ¬ ((-1 : Int) > 0) := by decide
  simp only [h1, if_false]
  split
  · rw [show (-(-1 : Int)) = 1 by decide, Int.ediv_one]
    omega
  · omega
theorem applied_rev {sl : Addr} {v : Value} {n : Nat} {Q : Int × Int × Nat → Shared → Prop} (hs : s.heap.IsSliceOf sl .none .none v) (p : IsPart v (some (-1))) (q : Q ((n : Int) - 1, -1, n) s) : wpAny (model prog w) A (Builtin.Slice.sliceApplied (.ref sl) (pure (n : Int))) Q E s := by
  obtain ⟨os, hos, hcs, hds⟩ := id hs
  unfold Builtin.Slice.sliceApplied Builtin.Slice.sliceFields
  refine wpAny_bind (wpAny_bind (wpAny_field hos hds (x := .none) rfl (wpAny_bind (wpAny_field hos hds (x := .none) rfl (wpAny_bind (wpAny_field hos hds (x := v) rfl (wpAny_pure ?_)))))))
  refine wpAny_bind (slicePart_ p ?_)
  show wpAny _ _ (if ((-1 : Int) == 0) = true then _ else _) _ _ s
  rw [if_neg (by decide)]
  refine wpAny_bind (slicePart_none (wpAny_bind (slicePart_none (wpAny_bind (wpAny_pure ?_)))))
  show wpAny _ _ (match Builtin.Slice.sliceAdjust none none (-1) (n : Int) with | (l, u) => pure (l, (-1 : Int), Builtin.Slice.slicePlaces l u (-1))) _ _ s
  rw [adjust_rev n]
  show wpAny _ _ (pure ((n : Int) - 1, (-1 : Int), Builtin.Slice.slicePlaces ((n : Int) - 1) (-1) (-1))) _ _ s
  rw [places_rev]
  exact wpAny_pure q
theorem pick_rev (xs : Array Value) : ((List.range xs.size).filterMap fun (m : Nat) => xs[(((xs.size : Int) - 1) + (m : Int) * (-1)).toNat]?).toArray = xs.toList.reverse.toArray := by
  congr 1
  have e : (fun (m : Nat) => xs[(((xs.size : Int) - 1) + (m : Int) * (-1)).toNat]?) = fun m => xs[xs.size - 1 - m]? := by
    funext m
    have : (((xs.size : Int) - 1) + (m : Int) * (-1)).toNat = xs.size - 1 - m := by omega
    rw [this]
  rw [e]
  have f : (List.range xs.size).filterMap (fun m => xs[xs.size - 1 - m]?) = ((List.range xs.size).map fun k => xs.size - 1 - k).filterMap (xs[·]?) := by
    rw [List.filterMap_map]; rfl
  rw [f, PySem.W.krv_range, List.filterMap_reverse, PySem.W.krv_all]
theorem getItem_rev {t sl : Addr} {items : Array Value} {v : Value} {Q : Value → Shared → Prop} (ht : IsTup s.heap t items) (hs : s.heap.IsSliceOf sl .none .none v) (p : IsPart v (some (-1)))
    (h : Q (.ref s.heap.objs.size) { s with heap := s.heap.push { cls := .type "tuple", data := .seq items.toList.reverse.toArray } }) (hz : items.size ≤ sizeLine) : wpAny (model prog w) A (getItem (.ref t) (.ref sl)) Q E s := by
  have hz2 : sizeOk (.seq items.toList.reverse.toArray) := by
    show items.toList.reverse.toArray.size ≤ sizeLine
    rw [List.size_toArray, List.length_reverse, Array.length_toList]; exact hz
  obtain ⟨os, hos, hcs, hds⟩ := id hs
  have ty : s.TypeIs (.ref sl) "slice" := ⟨os, hos, hcs⟩
  unfold getItem
  try with_reducible refine wpAny_holding ?_
  first | refine wpAny_bind (wpAny_pure ?_) | skip
  refine wpAny_bind (wpAny_sequenceKey ht.typeIs (by decide) ?_)
  refine wpAny_bind (wpAny_callSpecial?_slot (name := Str.ofString "__getitem__") ht.typeIs PyProof.Rows.slot_tuple_getitem (wpAny_call_entry PyProof.Rows.slot_tuple_getitem ht.typeIs entry_tuple_getitem ?_ (args_tuple_getitem _ _)))
  show wpAny _ _ (Builtin.Tuple.tupleItemsOf (.ref t) >>= _) _ _ s
  refine wpAny_bind (tupleItemsOf_ ht ?_)
  refine wpAny_bind (wpAny_typeOf ty ?_)
  rw [if_pos (by decide)]
  refine wpAny_bind (applied_rev hs p ?_)
  have hno : ¬ ((((items.size : Int) - 1) == 0 && (-1 : Int) == 1 && items.size == items.size) = true) := by
    rw [show ((-1 : Int) == 1) = false from by decide]
    simp
  show wpAny _ _ (if (((items.size : Int) - 1) == 0 && (-1 : Int) == 1 && items.size == items.size) = true then _ else _) _ _ s
  rw [if_neg hno, pick_rev]
  first
    | exact wpAny_bind (m := Builtin.Tuple.tupleExact _) (wpAny_newObj_type (wpAny_pure ⟨_, rfl, wpAny_pure h⟩) hz2)
    | exact wpAny_bind (m := Builtin.Tuple.tupleExact _) (wpAny_newObj_type (wpAny_bind (wpAny_pure (wpAny_pure ⟨_, rfl, wpAny_pure h⟩))) hz2)
    | exact wpAny_bind (wpAny_bind (m := Builtin.Tuple.tupleExact _) (wpAny_newObj_type (wpAny_pure (wpAny_pure ⟨_, rfl, wpAny_pure h⟩)) hz2))
    | exact wpAny_bind (wpAny_bind (m := Builtin.Tuple.tupleExact _) (wpAny_newObj_type (wpAny_pure ⟨_, rfl, wpAny_pure h⟩) hz2))
end
def tRevT (K : PySem.W.Frag) (te : TE) : TE := fun σ H Q => te σ H fun x H1 => ∃ a xs, x = .ref a ∧ SqT K H1 a xs ∧ ∀ p, H1 p = none → Q (.ref p) (upd H1 p (.tup xs.reverse))
theorem pe_revT {X : Cx} {e : Expr} {te : TE} {k : Nat} {p1 p2 p3 pos : Pos} (he : PE X e te) : PE X (.Subscript e (.Slice none none (some (.UnaryOp .USub (.Constant (.int 1) k p1) p2)) p3) pos) (tRevT X.K te) := by
  refine ⟨fun pins s σ H Q I h => Subscript_ (thn (he.run pins s σ H _ I h) fun v s1 ⟨x, H1, I1, r1, a, xs, ex, hx, q⟩ => ?_)⟩
  subst ex
  cases r1
  have ps : PO X (some (.UnaryOp .USub (.Constant (.int 1) k p1) p2)) (tPart (tUn (rU fun i => .int (-i)) (tC (.int 1)))) := po_some (pe_un un_neg pe_int)
  refine wpAny_Slice (thn (po_none.run pins s1 σ H1 (fun o F => o = none ∧ F = H1) I1 ⟨rfl, rfl⟩) fun vl s2 ⟨l, H2, I2, pl, el, e2⟩ => ?_)
  subst el e2
  refine thn (po_none.run pins s2 σ H2 (fun o F => o = none ∧ F = H2) I2 ⟨rfl, rfl⟩) fun vu s3 ⟨u, H3, I3, pu, eu, e3⟩ => ?_
  subst eu e3
  refine thn (ps.run pins s3 σ H3 (fun o F => o = some (-1) ∧ F = H3) I3 ⟨1, rfl, -1, rfl, rfl, rfl⟩) fun vs s4 ⟨o, H4, I4, pp, eo, e4⟩ => ?_
  subst eo e4
  cases pl
  cases pu
  have J : Inv X pins σ H4 { s4 with heap := s4.heap.push { cls := .type "slice", data := .fields #[.none, .none, vs] } } := I4.kept (t' := s4.toks) fun b ob q => Heap.get?_push_of_some _ q
  obtain ⟨its, r, ht, hz⟩ := J.tuple hx
  have hl := r.length
  show wpAny (model X.prog X.w) X.A (subscriptTail e (.Slice none none (some (.UnaryOp .USub (.Constant (.int 1) k p1) p2)) p3) (.ref a) (.ref s4.heap.objs.size)) (EP X pins σ Q) X.xe { s4 with heap := s4.heap.push { cls := .type "slice", data := .fields #[.none, .none, vs] } }
  refine tail_any (ops := [.ref a, .ref s4.heap.objs.size]) ht.typeIs (PyProof.Rows.slot_tuple_getitem.lookup) ?_ (by with_unfolding_all rfl)
  refine getItem_rev ht (Heap.IsSliceOf.new _ .none .none vs) pp ?_ (by rw [List.size_toArray]; omega)
  refine ⟨.ref _, _, J.laid (t' := s4.toks) (o := .tup xs.reverse) (fun b ob q => Heap.get?_push_of_some _ q) (Nat.le_refl _) ?_, rfl, q _ (J.hok.fresh (Nat.le_refl _))⟩
  exact ⟨by rw [List.length_reverse]; exact hz, _, r.reverse, IsTup.new _ _⟩
end R1

/-! dict(d), a copy -/
namespace R1
open PySem PySem.Spec PyProof.Rows L2
theorem call_dict_of {X : Cx} : CallR X (.type "dict") (fun xs H Q => ∃ (a : Addr) (kvs : List (Key × V)), xs = [.ref a] ∧ H a = some (.dK kvs) ∧ ∀ p, H p = none → Q (.ref p) (upd H p (.dK kvs))) := by
  intro pins s σ H xs us Q I r h
  obtain ⟨a, kvs, rfl, ha, q⟩ := h
  obtain ⟨u, rfl, rx⟩ := vals1 r
  cases rx
  exact d_copyOf I (.inl ha) fun p s' np J => ⟨.ref p, _, J, rfl, q p np⟩
end R1

/-! C.m(..), m a staticmethod of the class at C -/
namespace R1
open PySem PySem.Spec PyProof.Rows L2 ClX
structure SMet (K : PySem.W.Frag) (C : Addr) (mc : Value) (m : Str) (p g : Addr) : Prop where
  at_ : PySem.W.findCls K (.ref C) mc m = some (.get (.builtin "staticmethod.__get__") (.ref p) .none (.ref C))
  rc : ∃ rest, PySem.W.recIn K p "staticmethod" = some (.ref g :: rest)
  kp : PySem.W.keepIn K (.ref g) = true
section
variable {X : Cx} {pins : List (Addr × Obj)} {σ : L2.St} {H : Hp} {s : Shared} {C p g : Addr} {mc : Value} {m : Str} {A : Around} {E : Value → Shared → Prop}
theorem getmethsm_ok {pl : Sem Bool} {Q : Value × List Value → Shared → Prop} (I : Inv X pins σ H s) (r : CRead X.K C mc) (k : SMet X.K C mc m p g) (h : ∀ s', Inv X pins σ H s' → Q (.ref g, []) s') : wpAny (model X.prog X.w) A (getMethod (.ref C) m pl) Q E s := by
  obtain ⟨rest, hp⟩ := k.rc
  refine PySem.W.method_cls I.kIn r.ga (PySem.W.cls_bind I.kIn r.rd k.at_ (wpAny_call (PySem.W.sm_get (s := { s with toks := s.toks + 1 }) I.kIn hp (PySem.W.handed_on rfl ?_))))
  exact h _ (I.tok _)
end
def tSMeth (C : Addr) (sp : Sp) (E : XK) (ta : TE) (t : TA) : TE := fun σ H Q => ta σ H fun x H1 => x = .ref C ∧ t σ H1 fun vs H2 => sp vs H2 Q E
section
variable {X : Cx} {CX : CXT} {k : Nat} {C p g : Addr} {mc : Value} {sp : Sp} {E : XK} {o e : Expr} {es : List Expr} {f m : Str} {pos apos : Pos} {ta : TE} {t : TA} {pl : Sem Bool}
theorem pe_smeth (he : PE X o ta) (r : CRead X.K C mc) (c : SMet X.K C mc m p g) (F : FnR X.prog X.w X.K X.mg X.base CX k g sp) (hr : Room k X.A) (hx : Passes CX X E) (ha : PA X (e :: es) t)
    (hst : starEach (e :: es) X.env = (false, eval e X.env) :: starEach es X.env := by rfl) (hpl : (backTo pos (starEach es X.env)).any (·.1) = false := by rfl)
    (ht : eval (.Call (.Attribute o m apos) (e :: es) [] pos) X.env = (do
      let ov ← eval o X.env
      standAt apos.atName
      let (f, first) ← holding [ov] (getMethod ov m pl)
      callWith pos f first (backTo pos (starEach (e :: es) X.env)) (backToKw pos (keywordEach [] X.env))) := by rfl) :
    PE X (.Call (.Attribute o m apos) (e :: es) [] pos) (tSMeth C sp E ta t) := by
  refine ⟨fun pins s σ H Q I h => ?_⟩
  refine PySem.W.methodCall_KW (pl := pl) (thn (he.run pins s σ H _ I h) fun u s1 ⟨x, H1, I1, rx, ex, q⟩ => ?_) ht
  subst ex
  obtain rfl : u = Value.ref C := rx
  refine getmethsm_ok I1 r c fun s2 I2 => ?_
  refine PySem.W.callWith_K (first := []) (h₀ := X.base) I.ok.mod.kin c.kp (thn (ha.run pos pins s2 σ H1 _ I2 q) fun us s3 ⟨vs, H2, I3, rv, q2⟩ => ⟨I3.kIn, ?_⟩) hst hpl
  exact wpAny_call (run_fnR F hr hx I3 rv q2)
theorem pe_smeth0 (he : PE X o ta) (r : CRead X.K C mc) (c : SMet X.K C mc m p g) (F : FnR X.prog X.w X.K X.mg X.base CX k g sp) (hr : Room k X.A) (hx : Passes CX X E)
    (ht : eval (.Call (.Attribute o m apos) [] [] pos) X.env = (do
      let ov ← eval o X.env
      standAt apos.atName
      let (f, first) ← holding [ov] (getMethod ov m pl)
      callWith pos f first (backTo pos (starEach [] X.env)) (backToKw pos (keywordEach [] X.env))) := by rfl) :
    PE X (.Call (.Attribute o m apos) [] [] pos) (tSMeth C sp E ta tNil) := by
  refine ⟨fun pins s σ H Q I h => ?_⟩
  refine PySem.W.methodCall_KW (pl := pl) (thn (he.run pins s σ H _ I h) fun u s1 ⟨x, H1, I1, rx, ex, q⟩ => ?_) ht
  subst ex
  obtain rfl : u = Value.ref C := rx
  refine getmethsm_ok I1 r c fun s2 I2 => ?_
  exact PySem.W.callWith_K0 (first := []) I2.kIn c.kp (wpAny_call (run_fnR (us := []) (vs := []) F hr hx I2 .nil q))
end
end R1

/-! len(x), k in x, x[k] by the own defs of x's class -/
namespace R1
open PySem PySem.Spec PyProof.Rows L2
section
variable {X : Cx} {CX : CXT} {n : Nat} {C g : Addr} {sp : Sp} {E : XK}
theorem run_fnR1 {pins : List (Addr × Obj)} {σ : L2.St} {H : Hp} {s : Shared} {Q : VK} {us : List Value} {vs : List V} (F : FnR X.prog X.w X.K X.mg X.base CX n g sp) (hr : Room (n + 1) X.A) (hx : Passes CX X E) (I : Inv X pins σ H s) (r : Vals vs us) (h : sp vs H Q E) :
    codeAny (model X.prog X.w) X.A.in1 (.call (.ref g) ⟨us, []⟩) (fun r s' => match r with | .ok (.ret v) => EP X pins σ Q v s' | .ok _ => False | .error e => X.xe e s') s := by
  refine codeAny_mono (F X.A.in1 X.stack s H us vs Q E hr.in1 I.env0.in1 r h) fun r s' hq => ?_
  cases r with
  | error e => exact hx pins σ H s e s' I hq
  | ok fl =>
    cases fl with
    | ret u => exact I.after hq
    | next => exact False.elim hq
    | brk => exact False.elim hq
    | cont => exact False.elim hq
def rLenO (C : Addr) (sp : Sp) (E : XK) : List V → Hp → VK → Prop := fun xs H Q => ∃ a dx fs, xs = [.ref a] ∧ H a = some (.ins C dx fs) ∧ sp [.ref a] H (fun v H' => ∃ k : Nat, v = .int k ∧ k < 1000000 ∧ Q (.int k) H') E
theorem call_lenO (hs : PySem.W.findIn X.K (.ref C) "__len__" = some (some (.ref g))) (hf : PySem.W.isFn X.K (.ref g) = true) (F : FnR X.prog X.w X.K X.mg X.base CX n g sp) (hr : Room (n + 1) X.A) (hx : Passes CX X E) : CallR X (.builtin "len") (rLenO C sp E) := by
  intro pins s σ H xs us Q I r h
  obtain ⟨a, dx, fs, rfl, ha, q⟩ := h
  obtain rfl := Vals.ref1 r
  obtain ⟨mA, O, _, _, _, _⟩ := ins_get I.hok ha
  obtain ⟨od, J, _⟩ := O.look
  obtain ⟨m, hF⟩ := I.fr
  refine PySem.W.len_K hF I.ok.mod.kin J hs hf (wpAny_mono (wpAny_call (run_fnR1 (us := [.ref a]) (vs := [.ref a]) F hr hx I (.cons rfl .nil) q)) (fun v s' z => ?_) fun _ _ x => x)
  obtain ⟨x, H', I', rx, k, rfl, hk, q'⟩ := z
  obtain ⟨t, rfl⟩ := rx
  exact ⟨⟨by omega, by omega⟩, .int k, H', I'.tok _, ⟨_, rfl⟩, q'⟩
def rInO (C : Addr) (sp : Sp) (E : XK) (neg : Bool) : R2 := fun x y H Q => ∃ a dx fs, y = .ref a ∧ H a = some (.ins C dx fs) ∧ sp [.ref a, x] H (fun v H' => ∃ b, v = .bl b ∧ Q (.bl (if neg then !b else b)) H') E
theorem op_inO (hs : PySem.W.findIn X.K (.ref C) "__contains__" = some (some (.ref g))) (hf : PySem.W.isFn X.K (.ref g) = true) (F : FnR X.prog X.w X.K X.mg X.base CX n g sp) (hr : Room n X.A) (hx : Passes CX X E) : OpR X (compareOp .In) (rInO C sp E false) := by
  intro pins s σ H x y v u Q I rx ry h
  obtain ⟨a, dx, fs, rfl, ha, q⟩ := h
  cases (show u = Value.ref a from ry)
  obtain ⟨mA, O, _, _, _, _⟩ := ins_get I.hok ha
  obtain ⟨od, J, _⟩ := O.look
  obtain ⟨m, hF⟩ := I.fr
  refine PySem.W.in_K hF I.ok.mod.kin J hs hf (wpAny_mono (wpAny_call (run_fnR (us := [.ref a, v]) (vs := [.ref a, x]) F hr hx I (.cons rfl (.cons rx .nil)) q)) (fun w s' z => ?_) fun _ _ x => x)
  obtain ⟨z', H', I', rz, b, rfl, q'⟩ := z
  cases (show w = Value.bool b from rz)
  exact wpAny_pure ⟨.bl b, H', I', rfl, q'⟩
theorem op_notInO (hs : PySem.W.findIn X.K (.ref C) "__contains__" = some (some (.ref g))) (hf : PySem.W.isFn X.K (.ref g) = true) (F : FnR X.prog X.w X.K X.mg X.base CX n g sp) (hr : Room n X.A) (hx : Passes CX X E) : OpR X (compareOp .NotIn) (rInO C sp E true) := by
  intro pins s σ H x y v u Q I rx ry h
  obtain ⟨a, dx, fs, rfl, ha, q⟩ := h
  cases (show u = Value.ref a from ry)
  obtain ⟨mA, O, _, _, _, _⟩ := ins_get I.hok ha
  obtain ⟨od, J, _⟩ := O.look
  obtain ⟨m, hF⟩ := I.fr
  refine PySem.W.notIn_K hF I.ok.mod.kin J hs hf (wpAny_mono (wpAny_call (run_fnR (us := [.ref a, v]) (vs := [.ref a, x]) F hr hx I (.cons rfl (.cons rx .nil)) q)) (fun w s' z => ?_) fun _ _ x => x)
  obtain ⟨z', H', I', rz, b, rfl, q'⟩ := z
  cases (show w = Value.bool b from rz)
  exact wpAny_pure ⟨.bl (!b), H', I', rfl, q'⟩
/-- x[k] -/
def rIxO (C : Addr) (sp : Sp) (E : XK) : R2 := fun x y H Q => ∃ a dx fs, x = .ref a ∧ H a = some (.ins C dx fs) ∧ sp [.ref a, y] H Q E
theorem op_ixO (hq : PySem.W.noSeq X.K C = true) (hs : PySem.W.findIn X.K (.ref C) "__getitem__" = some (some (.ref g))) (hf : PySem.W.isFn X.K (.ref g) = true) (F : FnR X.prog X.w X.K X.mg X.base CX n g sp) (hr : Room n X.A) (hx : Passes CX X E) : OpR X getItem (rIxO C sp E) := by
  intro pins s σ H x y v u Q I rx ry h
  obtain ⟨a, dx, fs, rfl, ha, q⟩ := h
  cases (show v = Value.ref a from rx)
  obtain ⟨mA, O, _, _, _, _⟩ := ins_get I.hok ha
  obtain ⟨od, J, _⟩ := O.look
  obtain ⟨m, hF⟩ := I.fr
  exact PySem.W.getItem_K hF I.ok.mod.kin J hq hs hf (wpAny_call (run_fnR (us := [.ref a, u]) (vs := [.ref a, y]) F hr hx I (.cons rfl (.cons ry .nil)) q))
end
end R1

/-! iter(t) of a tuple; list(o), o of a class whose __iter__ gives such an iterator and whose __len__ gives a number -/
namespace RI
open PySem PySem.Spec PyProof.Rows L2
/-- an iterator over the tuple at t, at its first place -/
def ItTO (t it : Addr) : HO := .ext fun h => h.IsTupleIter it t 0
theorem itTO_ok {P : Program} {w : World} {H : Hp} {h : Heap} {t it : Addr} (e : h.IsTupleIter it t 0) (e2 : ∃ o, h.get? it = some o) : ObjOk P w H h it (ItTO t it) := ⟨e, e2, fun h1 h2 q k => q.at k⟩
/-- whatever stands there -/
def AnyO (it : Addr) : HO := .ext fun h => ∃ o, h.get? it = some o
theorem anyO_ok {P : Program} {w : World} {H : Hp} {h : Heap} {it : Addr} (e : ∃ o, h.get? it = some o) : ObjOk P w H h it (AnyO it) := ⟨e, e, fun h1 h2 q k => let ⟨o, z⟩ := q; ⟨o, k o z⟩⟩
section
variable {X : Cx}
theorem call_iterT : CallR X (.builtin "iter") (fun xs H Q => ∃ (t : Addr) (zs : List V), xs = [.ref t] ∧ SqT X.K H t zs ∧ ∀ it, H it = none → Q (.ref it) (upd H it (ItTO t it))) := by
  intro pins s σ H xs us Q I r h
  obtain ⟨t, zs, rfl, hq, q⟩ := h
  obtain ⟨u, rfl, rx⟩ := vals1 r
  cases rx
  obtain ⟨its, rv, pl, hz⟩ := I.tuple hq
  refine Calls.call_function_entry (by decide +kernel) (by decide +kernel) PySem.W.kdk_entry_iter (PySem.W.kdk_args_iter _) ?_
  unfold Builtin.«iter»
  refine wpAny_bind (m := someArgs "iter" 1 2 _) (wpAny_of_eq (a := [Value.ref t]) (by first | rfl | kernel_rfl!) ?_)
  show wpAny _ _ (pyIter (.ref t) >>= _) _ _ _
  refine wpAny_bind (wpAny_pyIter_tuple pl ?_)
  have hI : (s.heap.push { cls := .type "tuple_iterator", data := .fields #[.ref t, .int 0 0] }).IsTupleIter s.heap.objs.size t 0 := ⟨_, Heap.get?_push_size _ rfl, rfl, rfl⟩
  exact wpAny_pure ⟨_, rfl, .ref s.heap.objs.size, _, I.laid (t' := s.toks) (fun b u e => Heap.get?_push_of_some _ e) (Nat.le_refl _) (itTO_ok hI ⟨_, Heap.get?_push_size _ rfl⟩), rfl, q _ (I.hok.fresh (Nat.le_refl _))⟩
end
/-- what the class must have -/
structure ItL (K : PySem.W.Frag) (C fi fl : Addr) : Prop where
  it : PySem.W.findIn K (.ref C) "__iter__" = some (some (.ref fi))
  itF : PySem.W.isFn K (.ref fi) = true
  ln : PySem.W.findIn K (.ref C) "__len__" = some (some (.ref fl))
  lnF : PySem.W.isFn K (.ref fl) = true
/-- the heap behind the walk: the list is filled, the iterator is done -/
def behind (H : Hp) (q it : Addr) (xs : List V) : Hp := upd (upd H q (.lst xs)) it (AnyO it)
def rListO (K : PySem.W.Frag) (C : Addr) (spI spL : Sp) : List V → Hp → VK → Prop := fun vs H Q => ∃ (a dx : Addr) (fs : List (Str × V)), vs = [.ref a] ∧ H a = some (.ins C dx fs) ∧
  ∀ q, H q = none → spI [.ref a] (upd H q (.lst [])) (fun v H1 => ∃ (it t : Addr) (xs : List V), v = .ref it ∧ H1 it = some (ItTO t it) ∧ it ≠ t ∧ H1 q = some (.lst []) ∧ H1 a = some (.ins C dx fs) ∧
    spL [.ref a] H1 (fun v H2 => ∃ k : Nat, v = .int k ∧ k < 1000000 ∧ H2 it = some (ItTO t it) ∧ SqT K H2 t xs ∧ xs.length ≤ 1000 ∧ H2 q = some (.lst []) ∧ Q (.ref q) (behind H2 q it xs)) (fun _ _ _ => False)) (fun _ _ _ => False)
section
variable {X : Cx} {C fi fl : Addr} {spI spL : Sp} {n : Nat} {pins : List (Addr × Obj)} {σ : L2.St} {H : Hp} {s : Shared} {a q dx : Addr} {fs : List (Str × V)}
/-- the heap in which one object is given -/
theorem put_mid {h h' : Heap} {q it : Addr} {o : Obj} {o1 : Obj} (hq : h.get? q = some o1) (hne : q ≠ it) (hq' : h'.get? q = some o) (hk : ∀ b u, b ≠ q → b ≠ it → h.get? b = some u → h'.get? b = some u) :
    ∃ m : Heap, m.get? q = some o ∧ Heap.SameBut q h m ∧ ∀ b u, b ≠ it → m.get? b = some u → h'.get? b = some u := by
  have hf : o.isFreed = false := (Heap.get?_some_iff.mp hq').2
  refine ⟨h.update q (fun _ => o), Heap.get?_update_self (fun _ => o) hq hf, Heap.SameBut.update .., fun b u hb e => ?_⟩
  by_cases c : b = q
  · subst c
    have e2 : (h.update b (fun _ => o)).get? b = some o := Heap.get?_update_self (fun _ => o) hq hf
    rw [e2] at e
    cases e
    exact hq'
  · exact hk b u c hb ((Heap.get?_update_other _ _ (Ne.symm c)).symm.trans e)
theorem tup_done {it t : Addr} {i : Nat} {its : Array Value} {A : Around} {prog : Program} {w : World} {E : Value → Shared → Prop} {Qn : Option Value → Shared → Prop} (hA : A.handled = none)
    (hI : s.heap.IsTupleIter it t i) (hT : s.heap.IsTuple t its) (hn : its[i]? = none)
    (hq : ∀ h', (∀ b o, b ≠ it → s.heap.get? b = some o → h'.get? b = some o) → (∃ o, h'.get? it = some o) → Qn none { s with heap := h' }) : wpAny (model prog w) A (pyNext (.ref it)) Qn E s := by
  have hI2 := hI
  obtain ⟨⟨oc, od, odat, osl⟩, a1, a2, a3⟩ := hI2
  have a2' : oc = .type "tuple_iterator" := a2
  have a3' : odat = .fields #[.ref t, .int i 0] := a3
  subst a2' a3'
  obtain ⟨ot, b1, b2, nt, b3⟩ := hT
  have up := Heap.get?_update_self (Obj.mapFields (·.setIfInBounds 0 Value.none)) a1 (by first | rfl | simp [Obj.isFreed, Obj.mapFields])
  unfold pyNext; refine wpAny_bind (wpAny_attempt (wpAny_callSpecial?_slot (name := Str.ofString "__next__") hI.typeIs PySem.F.slot_tuple_iterator_next (wpAny_call_entry PySem.F.slot_tuple_iterator_next hI.typeIs PySem.F.entry_tuple_iterator_next ?_ (PySem.F.args_tuple_iterator_next_1 _))))
  show wpAny _ _ (field (.ref it) 0 >>= _) _ _ _; refine wpAny_bind (wpAny_field a1 a3 (x := .ref t) rfl ?_)
  show wpAny _ _ (if (Value.ref t == Value.none) = true then _ else _) _ _ _; refine PySem.W.KFB.if_not rfl ?_
  show wpAny _ _ (field (.ref it) 1 >>= _) _ _ _; refine wpAny_bind (wpAny_field a1 a3 (x := .int i 0) rfl ?_)
  show wpAny _ _ (seqItems? (.ref t) >>= _) _ _ _; refine wpAny_bind (wpAny_seqItems b1 b3 ?_); simp only [Int.toNat_natCast, hn]
  refine wpAny_bind (wpAny_rule (wpAny_bind (wpAny_setField a1 a3 (by simp) ?_)))
  show wpAny _ _ (newExc (.type "StopIteration") [] >>= _) _ _ _; refine wpAny_bind ?_; simp only [newExc, newTuple]
  refine wpAny_bind (wpAny_newObj_type ?_ (by size_fits)); refine wpAny_bind (m := firstArgMember _ _) (wpAny_of_eq (a := Value.none) (by first | rfl | (simp only [firstArgMember]; rfl)) ?_)
  refine wpAny_newObj_type ?_ (by size_fits); simp only [raiseNew]; refine wpAny_bind (wpAny_handled ?_); rw [show A.in1.handled = none from hA]
  refine wpAny_bind (wpAny_pure (wpAny_throw ?_)); refine wpAny_bind (wpAny_isInstance (T := "StopIteration") (b := true) ⟨_, Heap.get?_push_size _ rfl, rfl⟩ isSubtype_stop ?_)
  exact wpAny_pure (hq _ (fun b o hb e => Heap.get?_push_of_some _ (Heap.get?_push_of_some _ ((Heap.get?_update_other _ _ (Ne.symm hb)).trans e))) ⟨_, Heap.get?_push_of_some _ (Heap.get?_push_of_some _ up)⟩)
/-- the rest of the tuple is put behind the list at q -/
theorem tup_rest {it t q : Addr} {its : List Value} {A : Around} {prog : Program} {w : World} {Rs : Result → Shared → Prop} {h0 : Heap} (hA : A.handled = none) (hqi : q ≠ it) (hti : t ≠ it) (htq : t ≠ q) (hz : its.length ≤ 1000) (res : Value)
    (hq : ∀ h' c, (∀ b o, b ≠ q → b ≠ it → h0.get? b = some o → h'.get? b = some o) → (∃ o, h'.get? it = some o) → h'.get? q = some { cls := .type "list", dict := none, data := .seq its.toArray c, slots := #[] } → ∀ tk, Rs (.ok (.ret res)) { s with heap := h', toks := tk }) :
    ∀ (k i : Nat) (h : Heap) (tk c : Nat), its.length - i = k → i ≤ its.length → h.IsTupleIter it t i → h.IsTuple t its.toArray → (∀ b o, b ≠ q → b ≠ it → h0.get? b = some o → h.get? b = some o) →
      h.get? q = some { cls := .type "list", dict := none, data := .seq (its.take i).toArray c, slots := #[] } → codeAny (model prog w) A (.builtin "list.extend.loop" ⟨[.ref q, .ref it, res], []⟩) Rs { s with heap := h, toks := tk } := by
  intro k
  induction k with
  | zero =>
    intro i h tk c hk hi hI hT kp hS
    obtain rfl : i = its.length := by omega
    refine codeAny_builtin PySem.F.entry_extend_loop ?_; rw [Around.under_plainId PySem.F.plain_extend_loop _]; show wpAny _ A.in1 (pyNext (.ref it) >>= _) _ _ _
    refine wpAny_bind (tup_done (s := { s with heap := h, toks := tk }) (A := A.in1) hA hI hT (by simp) fun h' kp2 ex => ?_)
    rw [List.take_length] at hS
    exact wpAny_pure (hq h' c (fun b o h1 h2 e => kp2 b o h2 (kp b o h1 h2 e)) ex (kp2 q _ hqi hS) tk)
  | succ k ih =>
    intro i h tk c hk hi hI hT kp hS
    have lt : i < its.length := by omega
    have gx : its[i]? = some its[i] := List.getElem?_eq_getElem lt
    refine codeAny_builtin PySem.F.entry_extend_loop ?_; rw [Around.under_plainId PySem.F.plain_extend_loop _]; show wpAny _ A.in1 (pyNext (.ref it) >>= _) _ _ _
    refine wpAny_bind (wpAny_pyNext_tuple_item (s := { s with heap := h, toks := tk }) hI hT (x := its[i]) (by simpa using gx) fun h' hI' sb => ?_)
    have hS' : h'.get? q = _ := (sb.2 q hqi).trans hS
    show wpAny _ A.in1 (updateSeq q (·.push its[i]) >>= _) _ _ _
    have et : ((its.take i).toArray.push its[i]) = (its.take (i + 1)).toArray := by
      rw [List.take_add_one, gx]
      simp
    obtain ⟨c', z⟩ : ∃ c', (h'.update q (Obj.mapSeq (·.push its[i]))).get? q = some { cls := .type "list", dict := none, data := .seq (its.take (i + 1)).toArray c', slots := #[] } := ⟨_, by rw [← et]; exact Heap.get?_update_self (Obj.mapSeq (·.push its[i])) hS' rfl⟩
    refine wpAny_bind (wpAny_updateSeq hS' rfl (wpAny_pure ⟨plainId_quiet PySem.F.plain_extend_loop _, ih (i + 1) _ tk c' (by omega) lt ?_ ?_ (fun b o h1 h2 e => ?_) z⟩) (by rw [List.size_toArray, List.length_take, sizeLine_eq]; omega) (by show ((its.take i).toArray.push its[i]).size ≤ sizeLine + 1; rw [et, List.size_toArray, List.length_take, sizeLine_eq]; omega))
    · exact hI'.at fun o e => (Heap.get?_update_other _ _ hqi).trans e
    · obtain ⟨o, e, r⟩ := hT
      exact ⟨o, (Heap.get?_update_other _ _ (Ne.symm htq)).trans ((sb.2 t hti).trans e), r⟩
    · exact (Heap.get?_update_other _ _ (Ne.symm h1)).trans ((sb.2 b h2).trans (kp b o h1 h2 e))
theorem ext_listO {Qh : Hp → Prop} {Rs : Result → Shared → Prop} (hc : X.calm = true) (c : ItL X.K C fi fl) (FI : FnR X.prog X.w X.K X.mg X.base CX0 n fi spI) (FL : FnR X.prog X.w X.K X.mg X.base CX0 n fl spL) (hr : Room (n + 4) X.A)
    (I : Inv X pins σ H s) (ha : H a = some (.ins C dx fs)) (hq : H q = some (.lst []))
    (hsp : spI [.ref a] H (fun v H1 => ∃ (it t : Addr) (xs : List V), v = .ref it ∧ H1 it = some (ItTO t it) ∧ it ≠ t ∧ H1 q = some (.lst []) ∧ H1 a = some (.ins C dx fs) ∧
      spL [.ref a] H1 (fun v H2 => ∃ k : Nat, v = .int k ∧ k < 1000000 ∧ H2 it = some (ItTO t it) ∧ SqT X.K H2 t xs ∧ xs.length ≤ 1000 ∧ H2 q = some (.lst []) ∧ Qh (behind H2 q it xs)) (fun _ _ _ => False)) (fun _ _ _ => False))
    (hR : ∀ s' H', Inv X pins σ H' s' → Qh H' → Rs (.ok (.ret .none)) s') :
    wpAny (model X.prog X.w) X.A.in1.in1 (Builtin.List.listExtendWith (.ref q) (.ref a) .none)
      (fun fin s' => match fin with | .done f => Rs (.ok f) s' | .again c' => c'.quiet = true ∧ codeAny (model X.prog X.w) X.A.in1 c' Rs s') (fun e s' => Rs (.error e) s') s := by
  have hne : q ≠ a := ne_of hq ha (fun z => nomatch z)
  obtain ⟨mA, J, _⟩ := ins_get I.hok ha
  obtain ⟨od, J, _⟩ := J.look
  obtain ⟨m0, hF⟩ := I.fr
  unfold Builtin.List.listExtendWith
  refine wpAny_bind (J.type.here ?_)
  have h1 : Builtin.List.listSameRef (.ref q) (.ref a) = false := by simp [Builtin.List.listSameRef, hne]
  have h2 : (Value.ref C == Value.type "list") = false := rfl
  have h3 : (Value.ref C == Value.type "tuple") = false := rfl
  simp only [h1, h2, h3, Bool.or_false, Bool.false_eq_true, if_false]
  refine wpAny_bind (PySem.W.owit_iter hF I.ok.mod.kin J c.it c.itF ?_)
  have r4 : Room n X.A.in1.in1 := ((hr.mono (Nat.le_refl _)).in1.in1).mono (by omega)
  refine wpAny_call (codeAny_mono (FI X.A.in1.in1 X.stack s H [.ref a] [.ref a] _ _ r4 I.env0.in1.in1 (.cons rfl .nil) hsp) fun r s' hq' => ?_)
  cases r with
  | error e => exact False.elim hq'
  | ok f =>
    cases f with
    | next => exact False.elim hq'
    | brk => exact False.elim hq'
    | cont => exact False.elim hq'
    | ret u =>
      obtain ⟨v, H1, I1, rv, it, t, xs, ev, hit, hnt, hq1, ha1, hl⟩ := I.after hq'
      subst ev
      cases rv
      have hI : s'.heap.IsTupleIter it t 0 := (I1.hok it _ hit).1
      show PySem.W.OwitIt _ _ _ _ _ _
      unfold PySem.W.OwitIt
      refine wpAny_specialOf hI.typeIs PySem.F.slot_tuple_iterator_next.lookup ?_
      obtain ⟨mA1, J1, _⟩ := ins_get I1.hok ha1
      obtain ⟨od1, J1, _⟩ := J1.look
      obtain ⟨m1, hF1⟩ := I1.fr
      refine wpAny_bind (wpAny_holding ?_)
      unfold Builtin.List.listLengthHint
      refine wpAny_bind (wpAny_bind (J1.type.here ((PySem.W.looks_findIn I1.kIn c.ln).here ?_)))
      refine PySem.W.KFB.if_not rfl ?_
      refine PySem.W.KFB.if_so rfl ?_
      refine wpAny_bind (wpAny_rule ?_)
      have r5 : Room n X.A.in1.in1.in1 := ((hr.mono (Nat.le_refl _)).in1.in1.in1).mono (by omega)
      refine wpAny_bind (wpAny_attempt (PySem.W.len_K hF1 I1.ok.mod.kin J1 c.ln c.lnF ?_))
      refine wpAny_call (codeAny_mono (FL X.A.in1.in1.in1 X.stack s' H1 [.ref a] [.ref a] _ _ r5 I1.env0.in1.in1.in1 (.cons rfl .nil) hl) fun r s2 hq2 => ?_)
      cases r with
      | error e => exact False.elim hq2
      | ok f =>
        cases f with
        | next => exact False.elim hq2
        | brk => exact False.elim hq2
        | cont => exact False.elim hq2
        | ret u2 =>
          obtain ⟨v2, H2, I2, rv2, k, ev2, hk, hit2, ht2, hl2, hq2', hQ⟩ := I1.after hq2
          subst ev2
          obtain ⟨tk, rfl⟩ := rv2
          refine ⟨⟨by omega, by omega⟩, ?_⟩
          refine wpAny_bind (wpAny_pure ?_)
          refine PySem.W.KFB.if_not (decide_eq_false (by rw [sizeLine_eq]; omega)) (wpAny_pure ?_)
          have I3 := I2.tok (s2.toks + 1)
          have hqi : q ≠ it := ne_of hq2' hit2 (fun z => nomatch z)
          have key : ∀ (s4 : Shared), Inv X pins σ H2 s4 → codeAny (model X.prog X.w) X.A.in1 (.builtin "list.extend.loop" ⟨[.ref q, .ref it, .none], []⟩) Rs s4 := by
            intro s4 I4
            obtain ⟨z, its0, c0, r3, hl3, e3⟩ := I4.lstM hq2'
            cases r3
            have hI4 : s4.heap.IsTupleIter it t 0 := (I4.hok it _ hit2).1
            obtain ⟨its, rvt, plt, hzt⟩ := I4.tuple ht2
            have lz := rvt.length
            have htq : t ≠ q := by
              rintro rfl
              obtain ⟨o, e, f, _⟩ := plt
              rw [e3] at e
              cases e
              exact nomatch (show Value.type "list" = Value.type "tuple" from f)
            refine tup_rest (A := X.A.in1) (s := s4) (h0 := s4.heap) (its := its) (I4.ok.hd hc) hqi (Ne.symm hnt) htq (by omega) .none (fun h' c kp ex hS tk => ?_) its.length 0 s4.heap s4.toks c0 (by omega) (Nat.zero_le _) hI4 plt (fun b o _ _ e => e) (by simpa using e3)
            obtain ⟨m, e1, sb, kp2⟩ := put_mid e3 hqi hS kp
            have I5 : Inv X pins σ (upd H2 q (.lst xs)) { s4 with heap := m, toks := s4.toks } := I4.write (x := q) (e := q) (by rw [hq2']; exact True.intro) (.inl rfl) (fun b u hb e => (sb.2 b hb).trans e) ⟨_, e1⟩ ⟨hzt, its, c, rvt, e1⟩
            have g : upd H2 q (.lst xs) it = some (ItTO t it) := by rw [upd_ne (Ne.symm hqi)]; exact hit2
            have I6 : Inv X pins σ (behind H2 q it xs) { s4 with heap := h', toks := tk } := I5.write (x := it) (e := it) (by rw [g]; exact True.intro) (.inl rfl) kp2 ex (anyO_ok ex)
            exact hR _ _ I6 hQ
          refine wpAny_ite_split (fun _ => ?_) (fun _ => wpAny_pure ⟨plainId_quiet PySem.F.plain_extend_loop _, key _ I3⟩)
          obtain ⟨z, its0, c0, r3, hl3, e3⟩ := I3.lstM hq2'
          cases r3
          refine wpAny_bind (wpAny_rule (wpAny_bind ?_)); show wpAny _ _ (updateSeq q (·.push .none) >>= fun _ => updateSeq q (·.pop)) _ _ _
          have J2 := I3.lset (f := (·.push Value.none)) (its' := [Value.none]) (ys := [.non]) (t' := s2.toks + 1) hq2' e3 (by simp) (.cons rfl .nil) (by show 1 ≤ sizeLine; rw [sizeLine_eq]; decide)
          obtain ⟨z4, its4, k4, r4', hl4, e4⟩ := J2.lstM upd_same
          obtain ⟨u4, rfl, ru4⟩ := r4'.one
          refine wpAny_bind (wpAny_updateSeq e3 rfl (wpAny_updateSeq e4 rfl (wpAny_pure ⟨plainId_quiet PySem.F.plain_extend_loop _, key _ ?_⟩) (by show 1 ≤ sizeLine; rw [sizeLine_eq]; decide) (by show 0 ≤ sizeLine + 1; exact Nat.zero_le _)))
          have J3 := J2.lset (f := (·.pop)) (its := [u4]) (its' := []) (ys := []) (t' := s2.toks + 1) upd_same e4 (by rfl) .nil (Nat.zero_le _)
          have eH : upd (upd H2 q (.lst [.non])) q (.lst []) = H2 := by
            funext b
            by_cases hb : b = q
            · rw [hb, upd_same, hq2']
            · rw [upd_ne hb, upd_ne hb]
          rw [eH] at J3
          exact J3
/-- list(o) -/
theorem call_listO (hc : X.calm = true) (c : ItL X.K C fi fl) (FI : FnR X.prog X.w X.K X.mg X.base CX0 n fi spI) (FL : FnR X.prog X.w X.K X.mg X.base CX0 n fl spL) (hr : Room (n + 4) X.A) : CallR X (.type "list") (rListO X.K C spI spL) := by
  intro pins s σ H vs us Q I r h
  obtain ⟨a, dx, fs, rfl, ha, hq⟩ := h
  obtain ⟨u, rfl, ru⟩ := vals1 r
  cases ru
  have fr : H s.heap.objs.size = none := I.hok.fresh (Nat.le_refl _)
  have hp := hq _ fr
  have I1 : Inv X pins σ (upd H s.heap.objs.size (.lst [])) { s with heap := s.heap.push { cls := .type "list", data := .seq #[] } } := I.lnew (its := []) (t' := s.toks) .nil (Nat.zero_le _)
  have ha1 : upd H s.heap.objs.size (.lst []) a = some (.ins C dx fs) := by rw [upd_ne (ne_of_none ha fr)]; exact ha
  have hS : (s.heap.push { cls := .type "list", data := .seq #[] }).get? s.heap.objs.size = some { cls := .type "list", data := .seq #[] } := Heap.get?_push_size _ rfl
  refine callType_codes (Q₁ := fun obj s₁ => obj = .ref s.heap.objs.size ∧ s₁ = { s with heap := s.heap.push { cls := .type "list", data := .seq #[] } }) PySem.F.called_list (PySem.F.typeCall_list_1 _) PySem.F.entry_list_init (code_list_new _ ⟨rfl, rfl⟩) fun obj s₁ h₁ => ?_
  obtain ⟨rfl, rfl⟩ := h₁
  refine ⟨⟨_, hS, rfl⟩, PySem.F.args_list_init_2 _ _, ?_⟩
  show wpAny _ _ (do let old ← Builtin.List.listItems (.ref s.heap.objs.size); Builtin.List.listUpdate (.ref s.heap.objs.size) (fun _ => #[]); letGo old.toList.reverse; Builtin.List.listExtendWith (.ref s.heap.objs.size) (.ref a) .none) _ _ _
  refine wpAny_bind ?_; unfold Builtin.List.listItems; refine wpAny_bind (wpAny_seqItems hS rfl (wpAny_pure ?_))
  show wpAny _ _ (updateSeq s.heap.objs.size (fun _ => #[]) >>= fun _ => letGo (#[] : Array Value).toList.reverse >>= fun _ => Builtin.List.listExtendWith (.ref s.heap.objs.size) (.ref a) .none) _ _ _
  have J1 := I1.lset (f := fun _ => #[]) (its := []) (its' := []) (ys := []) (t' := s.toks) upd_same hS rfl .nil (Nat.zero_le _)
  rw [upd_upd] at J1
  refine wpAny_bind (wpAny_updateSeq hS rfl (wpAny_bind (wpAny_letGo ?_)))
  exact ext_listO (Qh := fun H' => Q (.ref s.heap.objs.size) H') (Rs := wants (fun r s₂ => r = .none ∧ EP X pins σ Q (.ref s.heap.objs.size) s₂) X.xe) hc c FI FL hr J1 ha1 upd_same hp fun s' H' I' hR => ⟨rfl, .ref s.heap.objs.size, H', I', rfl, hR⟩
end
end RI

/-! dicts whose keys are nested tuples: what stands in the heap -/
namespace RN
open PySem PySem.Spec PyProof.Rows L2
/-! ### data as keys -/
mutual
def nk : PyData → NestedKey
  | .none => .none
  | .bool b => .num (if b = true then 1 else 0)
  | .int i => .num i
  | .str x => .text x
  | .tuple ds => .tup (nks ds)
  | .list _ => .none
  | .dict _ => .none
def nks : List PyData → List NestedKey
  | [] => []
  | d :: ds => nk d :: nks ds
end
mutual
def kb : PyData → Bool
  | .tuple ds => kbs ds
  | .list _ => false
  | .dict _ => false
  | _ => true
def kbs : List PyData → Bool
  | [] => true
  | d :: ds => kb d && kbs ds
end
section
variable {X : Cx} {pins : List (Addr × Obj)} {σ : L2.St} {H : Hp} {s : Shared}
mutual
theorem nested_of (I : Inv X pins σ H s) : ∀ (d : PyData) (v : V) (u : Value), Dp X.K H v d → RelV v u → kb d = true → NestedIs s.heap (nk d) u
  | .none, _, _, h, r, _ => by cases h; cases r; exact .none
  | .bool b, _, _, h, r, _ => by cases h; cases r; exact .bool rfl
  | .int i, _, _, h, r, _ => by cases h; obtain ⟨t, rfl⟩ := r; exact .int i t
  | .str x, _, _, h, r, _ => by cases h; obtain ⟨t, rfl⟩ := r; exact .text x t
  | .tuple ds, _, _, h, r, k => by
    cases h with
    | tup hs ha =>
      cases r
      obtain ⟨its, rv, ⟨o, ho, hc, n, hd⟩, _⟩ := I.tuple hs
      exact .tup ho hc hd (by simpa using nesteds_of I ds _ its ha rv k)
  | .list _, _, _, _, _, k => by cases k
  | .dict _, _, _, _, _, k => by cases k
theorem nesteds_of (I : Inv X pins σ H s) : ∀ (ds : List PyData) (vs : List V) (us : List Value), DpAll X.K H vs ds → Vals vs us → kbs ds = true → NestedAll s.heap (nks ds) us
  | [], _, _, h, r, _ => by cases h; cases r; exact .nil
  | d :: ds, _, _, h, r, k => by
    cases h with
    | cons h1 h2 =>
      cases r with
      | cons r1 r2 =>
        have k' : (kb d && kbs ds) = true := k
        rw [Bool.and_eq_true] at k'
        exact .cons (nested_of I d _ _ h1 r1 k'.1) (nesteds_of I ds _ _ h2 r2 k'.2)
end
end
/-- the key k is at b -/
def KeyAt (K : PySem.W.Frag) (H : Hp) (k : NestedKey) (b : Addr) : Prop := ∃ d, Dp K H (.ref b) d ∧ kb d = true ∧ nk d = k ∧ k.depth ≤ 8
theorem key_is {X : Cx} {pins : List (Addr × Obj)} {σ : L2.St} {H : Hp} {s : Shared} {k : NestedKey} {b : Addr} (I : Inv X pins σ H s) (h : KeyAt X.K H k b) : (nestedKind X.prog X.w).is s.heap k b := by
  obtain ⟨d, h1, h2, rfl, h4⟩ := h
  exact ⟨nested_of I d _ _ h1 rfl h2, h4⟩
/-! ### entries: key, where it stands, value -/
abbrev Ent := NestedKey × Addr × V
def getN (es : List Ent) (k : NestedKey) : Option V := (es.find? fun p => decide (p.1 = k)).map fun p => p.2.2
def putN (es : List Ent) (k : NestedKey) (b : Addr) (v : V) : List Ent :=
  if (getN es k).isSome = true then es.map fun p => if p.1 = k then (p.1, p.2.1, v) else p else es ++ [(k, b, v)]
theorem putN_len (es : List Ent) (k : NestedKey) (b : Addr) (v : V) : (putN es k b v).length ≤ es.length + 1 := by
  unfold putN
  split
  · rw [List.length_map]; omega
  · rw [List.length_append]; exact Nat.le_refl _
abbrev RE : List Ent → List (NestedKey × Addr × Value) → Prop := Paired fun p q => p.1 = q.1 ∧ p.2.1 = q.2.1 ∧ RelV p.2.2 q.2.2
theorem re_get {es : List Ent} {xs : List (NestedKey × Addr × Value)} (r : RE es xs) (k : NestedKey) : RelO (getN es k) ((atKey xs k).map (·.2)) := by
  induction r with
  | nil => exact True.intro
  | @cons p q ps qs h t ih =>
    by_cases e : p.1 = k
    · have e2 : q.1 = k := h.1.symm.trans e
      have a1 : getN (p :: ps) k = some p.2.2 := by simp [getN, List.find?_cons, e]
      have a2 : atKey (q :: qs) k = some q.2 := by simp [atKey, List.find?_cons, e2]
      rw [a1, a2]
      exact h.2.2
    · have e2 : ¬ q.1 = k := fun z => e (h.1.trans z)
      have a1 : getN (p :: ps) k = getN ps k := by simp [getN, List.find?_cons, e]
      have a2 : atKey (q :: qs) k = atKey qs k := by simp [atKey, List.find?_cons, e2]
      rw [a1, a2]
      exact ih
theorem re_some {es : List Ent} {xs : List (NestedKey × Addr × Value)} (r : RE es xs) (k : NestedKey) : (getN es k).isSome = (atKey xs k).isSome := by
  rw [(re_get r k).isSome_eq, Option.isSome_map]
theorem re_map {es : List Ent} {xs : List (NestedKey × Addr × Value)} (r : RE es xs) (k : NestedKey) {v : V} {u : Value} (rv : RelV v u) :
    RE (es.map fun p => if p.1 = k then (p.1, p.2.1, v) else p) (xs.map (putAt k u)) := by
  induction r with
  | nil => exact .nil
  | @cons p q ps qs h t ih =>
    refine .cons ?_ ih
    unfold putAt
    dsimp only
    by_cases e : p.1 = k
    · rw [if_pos e, if_pos (h.1.symm.trans e)]
      exact ⟨h.1, h.2.1, rv⟩
    · rw [if_neg e, if_neg fun z => e (h.1.trans z)]
      exact h
theorem re_put {es : List Ent} {xs : List (NestedKey × Addr × Value)} (r : RE es xs) (k : NestedKey) (b : Addr) {v : V} {u : Value} (rv : RelV v u) : RE (putN es k b v) (storedH xs k b u) := by
  unfold putN storedH
  rw [re_some r k]
  by_cases q : (atKey xs k).isSome = true
  · rw [if_pos q, if_pos q]
    exact re_map r k rv
  · rw [if_neg q, if_neg q]
    exact Paired.snoc r ⟨rfl, rfl, rv⟩
theorem re_keys {es : List Ent} {xs : List (NestedKey × Addr × Value)} (r : RE es xs) {P : NestedKey → Addr → Prop} (h : ∀ p ∈ es, P p.1 p.2.1) : ∀ x ∈ xs, P x.1 x.2.1 := by
  induction r with
  | nil => intro x hx; cases hx
  | @cons p q ps qs e t ih =>
    intro x hx
    rcases List.mem_cons.mp hx with rfl | hx
    · have := h p List.mem_cons_self
      rw [e.1, e.2.1] at this
      exact this
    · exact ih (fun p hp => h p (List.mem_cons_of_mem _ hp)) x hx
theorem putN_keys {P : NestedKey → Addr → Prop} {es : List Ent} {k : NestedKey} {b : Addr} {v : V} (h : ∀ p ∈ es, P p.1 p.2.1) (hb : P k b) : ∀ p ∈ putN es k b v, P p.1 p.2.1 := by
  intro p hp
  unfold putN at hp
  split at hp
  · obtain ⟨q, hq, rfl⟩ := List.mem_map.mp hp
    split
    · exact h q hq
    · exact h q hq
  · rcases List.mem_append.mp hp with hp | hp
    · exact h p hp
    · rw [List.mem_singleton.mp hp]
      exact hb
/-! ### the object -/
def phiN (w : World) (d : Addr) (es : List Ent) (h : Heap) : Prop := es.length ≤ sizeLine ∧ (d == sysModules) = false ∧ ∃ xs : List (NestedKey × Addr × Value), RE es xs ∧ (xs.map (·.1)).Nodup ∧
  ∃ (o : Obj) (arr : Array DictEntry) (ep : Nat), h.get? d = some o ∧ o.ExactDict ∧ o.data = .dict arr ep ∧ arr.toList = xs.map fun x => (⟨x.1.hash w, .ref x.2.1, x.2.2⟩ : DictEntry)
def dN (w : World) (d : Addr) (es : List Ent) : HO := .ext (phiN w d es)
def KeysAt (K : PySem.W.Frag) (H : Hp) (es : List Ent) : Prop := ∀ p ∈ es, KeyAt K H p.1 p.2.1
theorem dN_ok {P : Program} {w : World} {H : Hp} {h : Heap} {d : Addr} {es : List Ent} (x : phiN w d es h) : ObjOk P w H h d (dN w d es) := by
  obtain ⟨_, _, _, _, _, o, _, _, ho, _⟩ := id x
  refine ⟨x, ⟨o, ho⟩, fun h1 h2 y k => ?_⟩
  obtain ⟨a1, a2, xs, a3, a4, o, arr, ep, b1, b2, b3, b4⟩ := y
  exact ⟨a1, a2, xs, a3, a4, o, arr, ep, k o b1, b2, b3, b4⟩
theorem dN_empty {P : Program} {w : World} {H : Hp} (h : Heap) (hb : sysModules < h.objs.size) : ObjOk P w H (h.push { cls := .type "dict", data := .dict #[] }) h.objs.size (dN w h.objs.size []) :=
  dN_ok ⟨Nat.zero_le _, beq_eq_false_iff_ne.mpr (Ne.symm (Nat.ne_of_lt hb)), [], .nil, List.nodup_nil, _, #[], 0, Heap.get?_push_size _ rfl, ⟨rfl, rfl, rfl⟩, rfl, rfl⟩
section
variable {X : Cx} {pins : List (Addr × Obj)} {σ : L2.St} {H : Hp} {s : Shared} {d b : Addr} {es : List Ent} {k : NestedKey} {A : Around} {E : Value → Shared → Prop}
theorem dN_of (I : Inv X pins σ H s) (hd : H d = some (dN X.w d es)) (hk : KeysAt X.K H es) :
    es.length ≤ sizeLine ∧ (d == sysModules) = false ∧ ∃ xs, RE es xs ∧ s.heap.DictOfH (nestedKind X.prog X.w) d xs := by
  obtain ⟨⟨a1, a2, xs, a3, a4, o, arr, ep, b1, b2, b3, b4⟩, _, _⟩ := (show ObjOk X.prog X.w H s.heap d (dN X.w d es) from I.hok d _ hd)
  exact ⟨a1, a2, xs, a3, o, arr, ep, b1, b2, b3, b4, re_keys a3 (P := fun k b => (nestedKind X.prog X.w).is s.heap k b) fun p hp => key_is I (hk p hp), a4⟩
end
/-! ### tuples stay -/
def Tk (H H' : Hp) : Prop := ∀ a xs, Rd H a (.tup xs) → Rd H' a (.tup xs)
theorem Tk.rfl' {H : Hp} : Tk H H := fun _ _ h => h
theorem Tk.trans {H H1 H2 : Hp} (h : Tk H H1) (g : Tk H1 H2) : Tk H H2 := fun a xs z => g a xs (h a xs z)
theorem tk_all {H H' : Hp} (h : ∀ a o, H a = some o → H' a = some o) : Tk H H' := fun a xs z => by
  rcases z with z | ⟨o, z⟩
  · exact .inl (h _ _ z)
  · exact .inr ⟨o, h _ _ z⟩
/-- not a tuple -/
def NoTup : HO → Prop
  | .tup _ => False
  | .frz _ (.tup _) => False
  | _ => True
theorem tk_but {H H' : Hp} {d : Addr} {o : HO} (hd : H d = some o) (ho : NoTup o) (h : ∀ a o, a ≠ d → H a = some o → H' a = some o) : Tk H H' := fun a xs z => by
  have ne : a ≠ d := by
    rintro rfl
    rcases z with z | ⟨o', z⟩
    · rw [hd] at z; cases z; exact ho
    · rw [hd] at z; cases z; exact ho
  rcases z with z | ⟨o', z⟩
  · exact .inl (h _ _ ne z)
  · exact .inr ⟨o', h _ _ ne z⟩
theorem tk_upd {H : Hp} {d : Addr} {o o' : HO} (hd : H d = some o) (ho : NoTup o) : Tk H (upd H d o') := tk_but hd ho fun a u ne z => by rw [upd_ne ne]; exact z
theorem tk_new {H : Hp} {d : Addr} {o' : HO} (hd : H d = none) : Tk H (upd H d o') := tk_all fun a o z => by rw [upd_ne (ne_of_none z hd)]; exact z
theorem sqT_tk {K : PySem.W.Frag} {H H' : Hp} {a : Addr} {xs : List V} (t : Tk H H') (h : SqT K H a xs) : SqT K H' a xs := by
  rcases h with h | h
  · exact .inl (t _ _ h)
  · exact .inr h
section
variable {K : PySem.W.Frag} {H H' : Hp}
mutual
theorem dp_tk (t : Tk H H') : ∀ (d : PyData) (v : V), Dp K H v d → kb d = true → Dp K H' v d
  | .none, _, h, _ => by cases h; exact .non
  | .bool _, _, h, _ => by cases h; exact .bl _
  | .int _, _, h, _ => by cases h; exact .int _
  | .str _, _, h, _ => by cases h; exact .str _
  | .tuple ds, _, h, k => by
    cases h with
    | tup hs ha => exact .tup (sqT_tk t hs) (dps_tk t ds _ ha k)
  | .list _, _, _, k => by cases k
  | .dict _, _, _, k => by cases k
theorem dps_tk (t : Tk H H') : ∀ (ds : List PyData) (vs : List V), DpAll K H vs ds → kbs ds = true → DpAll K H' vs ds
  | [], _, h, _ => by cases h; exact .nil
  | d :: ds, _, h, k => by
    cases h with
    | cons h1 h2 =>
      have k' : (kb d && kbs ds) = true := k
      rw [Bool.and_eq_true] at k'
      exact .cons (dp_tk t d _ h1 k'.1) (dps_tk t ds _ h2 k'.2)
end
theorem KeyAt.tk {k : NestedKey} {b : Addr} (t : Tk H H') (h : KeyAt K H k b) : KeyAt K H' k b := by
  obtain ⟨d, h1, h2, h3⟩ := h
  exact ⟨d, dp_tk t d _ h1 h2, h2, h3⟩
theorem KeysAt.tk {es : List Ent} (t : Tk H H') (h : KeysAt K H es) : KeysAt K H' es := fun p hp => (h p hp).tk t
end
/-! ### one entry more, and the reads -/
section
variable {X : Cx} {pins : List (Addr × Obj)} {σ : L2.St} {H : Hp} {s : Shared} {d b : Addr} {es : List Ent} {k : NestedKey} {A : Around} {E : Value → Shared → Prop} {z : V} {r : Value}
theorem room_n {A : Around} {w : World} {P : Program} (hu : A.units + 16 < cLine) : (nestedKind P w).room A := by show A.units + 8 < cLine; omega
theorem room_n1 {A : Around} {w : World} {P : Program} (hu : A.units + 16 < cLine) : (nestedKind P w).room A.in1 := by
  show A.in1.units + 8 < cLine
  simp only [Around.in1_units]
  omega
/-- what is written back -/
theorem back_n {h' : Heap} {tk : Nat} {xs : List (NestedKey × Addr × Value)} (I : Inv X pins σ H s) (hd : H d = some (dN X.w d es)) (hz : es.length < sizeLine) (hm : (d == sysModules) = false) (re : RE es xs) (rz : RelV z r)
    (dd : h'.DictOfH (nestedKind X.prog X.w) d (storedH xs k b r)) (sb : Heap.SameBut d s.heap h') : Inv X pins σ (upd H d (dN X.w d (putN es k b z))) { s with heap := h', toks := tk } := by
  obtain ⟨o, arr, ep, b1, b2, b3, b4, _, b5⟩ := dd
  have := putN_len es k b z
  exact d_write (t' := tk) I (by rw [hd]; exact True.intro) sb ⟨o, b1⟩ (dN_ok ⟨by omega, hm, _, re_put re k b rz, b5, o, arr, ep, b1, b2, b3, b4⟩)
theorem set_n {Q : Unit → Shared → Prop} (hu : X.A.units + 16 < cLine) (I : Inv X pins σ H s) (hd : H d = some (dN X.w d es)) (hk : KeysAt X.K H es) (hb : KeyAt X.K H k b) (hz : es.length < sizeLine) (rz : RelV z r)
    (h : ∀ s', Inv X pins σ (upd H d (dN X.w d (putN es k b z))) s' → Q () s') : wpAny (model X.prog X.w) X.A (dictSet d (.ref b) r) Q E s := by
  obtain ⟨z1, z2, xs, re, dd⟩ := dN_of I hd hk
  have hl : xs.length ≤ sizeLine := by rw [← Paired.length re]; exact z1
  exact wpAny_dictSet_heap (hsz := hl) (room_n hu) (key_is I hb) dd fun h' d' sb => h _ (back_n I hd hz z2 re rz d' sb)
theorem setItem_n {Q : Unit → Shared → Prop} (hu : X.A.units + 16 < cLine) (I : Inv X pins σ H s) (hd : H d = some (dN X.w d es)) (hk : KeysAt X.K H es) (hb : KeyAt X.K H k b) (hz : es.length < sizeLine) (rz : RelV z r)
    (h : ∀ s', Inv X pins σ (upd H d (dN X.w d (putN es k b z))) s' → Q () s') : wpAny (model X.prog X.w) X.A (setItem (.ref d) (.ref b) r) Q E s := by
  obtain ⟨z1, z2, xs, re, dd⟩ := dN_of I hd hk
  have hl : xs.length ≤ sizeLine := by rw [← Paired.length re]; exact z1
  exact wpAny_setItem_heap (hsz := hl) (room_n1 hu) (key_is I hb) dd fun h' d' sb => h _ (back_n I hd hz z2 re rz d' sb)
/-- x in d, x not in d -/
def rInN (K : PySem.W.Frag) (w : World) (neg : Bool) : R2 := fun x y H Q => ∃ (b d : Addr) (es : List Ent) (k : NestedKey), x = .ref b ∧ y = .ref d ∧ H d = some (dN w d es) ∧ KeysAt K H es ∧ KeyAt K H k b ∧ Q (.bl (if neg then !(getN es k).isSome else (getN es k).isSome)) H
theorem op_inN {K : PySem.W.Frag} {w : World} (hu : X.A.units + 16 < cLine) (hK : X.K = K) (hW : X.w = w) : OpR X (compareOp .In) (rInN K w false) := by
  subst hK hW
  intro pins s σ H x y v u Q I rx ry h
  obtain ⟨b, d, es, k, rfl, rfl, hd, hk, hb, q⟩ := h
  cases rx
  cases ry
  obtain ⟨z1, z2, xs, re, dd⟩ := dN_of I hd hk
  refine wpAny_in_heap (room_n1 hu) (key_is I hb) z2 dd ?_
  rw [← re_some re]
  exact ⟨.bl (getN es k).isSome, H, I.tok _, rfl, q⟩
theorem op_notInN {K : PySem.W.Frag} {w : World} (hu : X.A.units + 16 < cLine) (hK : X.K = K) (hW : X.w = w) : OpR X (compareOp .NotIn) (rInN K w true) := by
  subst hK hW
  intro pins s σ H x y v u Q I rx ry h
  obtain ⟨b, d, es, k, rfl, rfl, hd, hk, hb, q⟩ := h
  cases rx
  cases ry
  obtain ⟨z1, z2, xs, re, dd⟩ := dN_of I hd hk
  refine wpAny_notIn_heap (room_n1 hu) (key_is I hb) z2 dd ?_
  rw [← re_some re]
  exact ⟨.bl (!(getN es k).isSome), H, I.tok _, rfl, q⟩
/-- d[x], there -/
def tIxN (K : PySem.W.Frag) (w : World) (td ty : TE) : TE := fun σ H Q => td σ H fun y H1 => ty σ H1 fun x H2 => ∃ (b d : Addr) (es : List Ent) (k : NestedKey) (v : V), x = .ref b ∧ y = .ref d ∧ H2 d = some (dN w d es) ∧ KeysAt K H2 es ∧ KeyAt K H2 k b ∧ getN es k = some v ∧ Q v H2
theorem pe_ixN {o i : Expr} {td ty : TE} {pos : Pos} {K : PySem.W.Frag} {w : World} (hu : X.A.units + 16 < cLine) (hK : X.K = K) (hW : X.w = w) (ho : PE X o td) (hi : PE X i ty) (hs : NoSl i) : PE X (.Subscript o i pos) (tIxN K w td ty) := by
  subst hK hW
  refine ⟨fun pins s σ H Q I h => ?_⟩
  refine subD_of PySem.F.slot_dict_getitem.lookup hs (thn (ho.run pins s σ H _ I h) fun u s1 ⟨y, H1, I1, ry, q1⟩ => thn (hi.run pins s1 σ H1 _ I1 q1) fun iv s2 ⟨x, H2, I2, rx, b, d, es, k, v, ex, ey, hd, hk, hb, hv, q⟩ => ?_)
  subst ex ey
  cases rx
  cases ry
  obtain ⟨z1, z2, xs, re, dd⟩ := dN_of I2 hd hk
  have g := re_get re k
  rw [hv] at g
  obtain ⟨w', hw, rw'⟩ := RelO.some_of g
  obtain ⟨p, hp, hp2⟩ := Option.map_eq_some_iff.mp hw
  refine ⟨dd.typeIs, wpAny_getItem_heap (room_n1 hu) (key_is I2 hb) dd hp ?_⟩
  rw [hp2]
  exact ⟨v, H2, I2.tok _, rw', q⟩
/-- d[x] = v -/
def rSetN (K : PySem.W.Frag) (w : World) : TSet := fun o i v H Q => ∃ (b d : Addr) (es : List Ent) (k : NestedKey), i = .ref b ∧ o = .ref d ∧ H d = some (dN w d es) ∧ KeysAt K H es ∧ KeyAt K H k b ∧ es.length < sizeLine ∧ Q (upd H d (dN w d (putN es k b v)))
theorem set_dictN (hu : X.A.units + 16 < cLine) : PSet X (rSetN X.K X.w) := by
  intro pins s σ H o i v ov iv u Q I ro ri rv h
  obtain ⟨b, d, es, k, rfl, rfl, hd, hk, hb, hz, q⟩ := h
  cases ro
  cases ri
  exact setItem_n hu I hd hk hb hz rv fun s' I' => ⟨_, I', q⟩
end
end RN

/-! a dict comprehension whose keys are nested tuples -/
namespace RN
open PySem PySem.Spec PyProof.Rows L2
/-- the reading of {k: v for target in iter if ..} with such keys -/
def tDcN (K : PySem.W.Frag) (w : World) (src : TI) (g : TG) (tt : TT) (tk tv : TE) (own : List Nat) : TE := fun σ H Q => src σ H fun J G => ∀ D, G D = none → ∃ W : Nat → Nat → Hp → Prop, (∃ m, W 0 m (upd G D (dN w D []))) ∧ ∀ i m F, W i m F →
  (J.stop i F ∧ Q (.ref D) F) ∨ (J.go i F ∧ ∃ Nx : Hp → Prop, (∀ F', Nx F' → ∃ m', m' < m ∧ W (i + 1) m' F') ∧ ∀ x F', J.yld i F x F' → g x (wipe σ own) F' fun τ F2 => wipe τ own = wipe σ own ∧ tt τ F2 fun c F3 =>
    if c = true then tk τ F3 fun y F4 => tv τ F4 fun z F5 => ∃ es k b, y = .ref b ∧ KeyAt K F5 k b ∧ F5 D = some (dN w D es) ∧ KeysAt K F5 es ∧ es.length < sizeLine ∧ Nx (upd F5 D (dN w D (putN es k b z))) else Nx F3)
section
variable {X : Cx} {kx vx tg iter : Expr} {ifs : List Expr} {scope : Scope} {own : List (Str × Nat)} {pos : Pos} {src : TI} {g : TG} {tt : TT} {tk tv : TE}
theorem dcN_core {pins : List (Addr × Obj)} {s : Shared} {σ : L2.St} {H : Hp} {Q : VK} {pos' : Pos} {use : Option (Value → Sem Unit)} {Qf : Value → Shared → Prop} (I : Inv X pins σ H s)
    (hu : X.A.units + 64 < cLine) (hc : X.calm = true) (hN : X.N.Nodup) (hi : PI X tg iter src) (ok : BlkOk X.N X.env.scope scope own)
    (hg : ∀ (s : Shared) (G : Hp) (C : Addr) (cl : List (Str × Addr)) (fp : List Addr), PG (X.blk s G scope (compEnvC scope cl C X.env) fp) tg g)
    (ht : ∀ (s : Shared) (G : Hp) (C : Addr) (cl : List (Str × Addr)) (fp : List Addr), PTs (X.blk s G scope (compEnvC scope cl C X.env) fp) ifs tt)
    (hk : ∀ (s : Shared) (G : Hp) (C : Addr) (cl : List (Str × Addr)) (fp : List Addr), PE (X.blk s G scope (compEnvC scope cl C X.env) fp) kx tk)
    (hv : ∀ (s : Shared) (G : Hp) (C : Addr) (cl : List (Str × Addr)) (fp : List Addr), PE (X.blk s G scope (compEnvC scope cl C X.env) fp) vx tv)
    (hs : ∀ x, foldedSetIterable iter X.env x = pure x) (h : tDcN X.K X.w src g tt tk tv (own.map (·.2)) σ H Q)
    (hR : ∀ D C s' m F, Inv X pins σ F s' → Q (.ref D) F → s'.heap.Ns C m → FpOk X pins F C → compPost (model X.prog X.w) X.A X.xe use Qf (.ref D) C (.ok .next) s') :
    wpAny (model X.prog X.w) X.A (comprehension (.DictComp kx vx [⟨tg, iter, ifs, 0⟩] scope pos) scope X.env pos' newDict false (eval iter X.env) use) Qf X.xe s := by
  have fr : ∀ y ∈ scope.names, y.2 = .free → ∃ c, X.env.cells.lookup y.1 = some c := fun y hy e => (ok.free y hy e).elim (fun z => I.ok.has _ (.inl z)) fun z => I.ok.has _ (.inr z)
  refine wpAny_comprehension_free (use := use) rfl hs (closure_ok fr) ok.kind (fun y hy e => by rw [ok.uniq y hy, e]) (thn (hi.run pins s σ H _ I h) fun xv s1 hx => thn hx fun iv s2 a2 => ?_)
  obtain ⟨it, fp, tn, J, G, rfl, K2, T, t2, p2, q⟩ := a2
  refine wpAny_newObj_type (newEnv_comp ?_)
  obtain ⟨W, ⟨m0, w0⟩, turn⟩ := q s2.heap.objs.size (K2.hok.fresh (Nat.le_refl _))
  generalize eD : s2.heap.objs.size = D at w0 turn
  have nD : G D = none := K2.hok.fresh (Nat.le_of_eq eD)
  -- the new dict
  generalize e3 : ({ s2 with heap := s2.heap.push { cls := .type "dict", data := .dict #[] } } : Shared) = s3
  have K3 : Inv X pins σ (upd G D (dN X.w D [])) s3 := by
    subst e3
    refine K2.laid (t' := s2.toks) (fun b o z => Heap.get?_push_of_some _ z) (Nat.le_of_eq eD) ?_
    subst eD
    exact dN_empty s2.heap K2.big
  have z3 : s3.heap = s2.heap.push { cls := .type "dict", data := .dict #[] } := by subst e3; rfl
  have p3 : ∀ b ∈ fp, FpOk X pins (upd G D (dN X.w D [])) b ∧ b < s3.heap.objs.size := fun b hb => by
    obtain ⟨o, y, _⟩ := T.obj _ _ t2 b hb
    have lt : b < s2.heap.objs.size := Heap.lt_size y
    refine ⟨⟨?_, (p2 b hb).2⟩, by rw [z3, Heap.size_push]; exact Nat.lt_succ_of_lt lt⟩
    rw [upd_ne (by rw [← eD]; exact Nat.ne_of_lt lt)]
    exact (p2 b hb).1
  have t3 : tn 0 s3.heap := T.keep _ _ _ t2 fun b _ o y => by rw [z3]; exact Heap.get?_push_of_some _ y
  have K4 := block_start K3 ok hN p3
  have qg := hg s3 (upd G D (dN X.w D [])) s3.heap.objs.size (cellsFrom (s3.heap.objs.size + 1) scope.names (cloFrom X.env.cells scope.names [])) fp
  have qt := ht s3 (upd G D (dN X.w D [])) s3.heap.objs.size (cellsFrom (s3.heap.objs.size + 1) scope.names (cloFrom X.env.cells scope.names [])) fp
  have qk := hk s3 (upd G D (dN X.w D [])) s3.heap.objs.size (cellsFrom (s3.heap.objs.size + 1) scope.names (cloFrom X.env.cells scope.names [])) fp
  have qv := hv s3 (upd G D (dN X.w D [])) s3.heap.objs.size (cellsFrom (s3.heap.objs.size + 1) scope.names (cloFrom X.env.cells scope.names [])) fp
  have np : ∀ b ∈ fp, (upd G D (dN X.w D [])) b = none := fun b hb => (p3 b hb).1.1
  show codeAny _ _ (.compStart (.DictComp kx vx [⟨tg, iter, ifs, 0⟩] scope pos) 0 (.ref it) (.ref D) (compEnvC scope (cellsFrom (s3.heap.objs.size + 1) scope.names (cloFrom X.env.cells scope.names [])) s3.heap.objs.size X.env)) (compPost (model X.prog X.w) X.A X.xe use _ (.ref D) s3.heap.objs.size) { s3 with heap := pushCells (s3.heap.push { cls := .type "dict", data := .dict #[] }) scope.names }
  generalize ec : compEnvC scope (cellsFrom (s3.heap.objs.size + 1) scope.names (cloFrom X.env.cells scope.names [])) s3.heap.objs.size X.env = ce at K4 qg qt qk qv ⊢
  have eL : ce.locals = s3.heap.objs.size := by subst ec; rfl
  generalize eG : upd G D (dN X.w D []) = G3 at K3 K4 qg qt qk qv w0 np p3
  generalize e4 : ({ s3 with heap := pushCells (s3.heap.push { cls := .type "dict", data := .dict #[] }) scope.names } : Shared) = s4 at K4 ⊢
  have t4 : tn 0 s4.heap := T.keep _ _ _ t3 fun b _ o y => by subst e4; exact pushCells_keeps _ _ _ _ (Heap.get?_push_of_some _ y)
  have still : ∀ {τ : L2.St} {F : Hp} {s' : Shared}, Inv (X.blk s3 G3 scope ce fp) [] τ F s' → (∀ b ∈ fp, F b = none) → ∀ b ∈ fp, FpOk (X.blk s3 G3 scope ce fp) [] F b := fun {τ F s'} L n b hb =>
    ⟨n b hb, (L.ok.exf b hb).1, L.ok.exfs b hb, .inl hb, fun x c y => (L.ok.exf b hb).2 x c y, fun p hp => absurd (show p ∈ ([] : List (Addr × Obj)) ++ [] from hp) (by simp)⟩
  have go : codeAny (model X.prog X.w) X.A (.compLoop (.DictComp kx vx [⟨tg, iter, ifs, 0⟩] scope pos) 0 (.ref it) (.ref D) ce) (compPost (model X.prog X.w) X.A X.xe use Qf (.ref D) s3.heap.objs.size) s4 := by
    refine compLoop_anyD (fun n s' => ∃ i F, Inv (X.blk s3 G3 scope ce fp) [] (wipe σ (own.map (·.2))) F s' ∧ tn i s'.heap ∧ (∀ b ∈ fp, F b = none) ∧ W i n F) ?_ m0 ⟨0, G3, K4, t4, np, w0⟩
    rintro n s5 ⟨i, F, L, t5, n5, w5⟩
    rcases turn i n F w5 with ⟨stop, qq⟩ | ⟨hgo, Nx, hNx, step⟩
    · refine thnF (T.done (X.blk s3 G3 scope ce fp) rfl rfl rfl hc i [] s5 _ F (fun _ _ => False) L (still L n5) t5 stop) fun r s6 ⟨hr, L6⟩ => ?_
      subst hr
      have M : Inv X pins σ F s6 := K3.call' (ch := fp) L6.os L6.base L6.hok L6.bare fun b hb => ⟨(p3 b hb).1.2.2.2.1, (p3 b hb).1.2.1, (p3 b hb).1.2.2.2.2.1, (p3 b hb).1.2.2.2.2.2⟩
      have nC : F s3.heap.objs.size = none := eL ▸ L6.free
      obtain ⟨m, hn, _⟩ := L6.loc
      have hn' : s6.heap.Ns ce.locals m := hn
      rw [eL] at hn'
      exact hR D s3.heap.objs.size s6 m F M qq hn' (K3.fpOk (Nat.le_refl _) nC)
    · refine thnF (T.item (X.blk s3 G3 scope ce fp) rfl rfl rfl hc i [] s5 _ F (fun _ _ => False) L (still L n5) t5 hgo) fun r s6 ⟨u, hr, h6⟩ => ?_
      subst hr
      refine thnF h6 fun _ s7 ⟨x, F7, L7, r7, y7, t7, n7⟩ => ?_
      have L7' := L7.pinned (still L7 n7) (T.obj _ _ t7)
      refine thnF (qg.run _ s7 _ F7 x u _ L7' r7 (step x F7 y7)) fun _ s8 ⟨τ, F8, L8, hw, q8⟩ => ?_
      refine thnF (qt.run _ s8 τ F8 _ L8 q8) fun c s9 ⟨F9, L9, q9⟩ => ?_
      have fin : ∀ {s' : Shared} {F' : Hp}, Inv (X.blk s3 G3 scope ce fp) ([] ++ pinsAt fp s7.heap) τ F' s' → Nx F' → ∃ m, m < n ∧ ∃ i F', Inv (X.blk s3 G3 scope ce fp) [] (wipe σ (own.map (·.2))) F' s' ∧ tn i s'.heap ∧ (∀ b ∈ fp, F' b = none) ∧ W i m F' := fun {s' F'} L' nx => by
        obtain ⟨m', hm, w'⟩ := hNx F' nx
        have pin : ∀ b ∈ fp, ∀ o, s7.heap.get? b = some o → s'.heap.get? b = some o ∧ F' b = none := fun b hb o y =>
          have z := L'.pin (b, o) (List.mem_append_right _ (List.mem_append_right _ (mem_pinsAt hb y)))
          ⟨z.1, z.2.1⟩
        refine ⟨m', hm, i + 1, F', (L'.unpinned (pins := [])).weak (by rw [← hw, wipe_length]) (fun j v y => ?_), T.keep _ _ _ t7 fun b hb o y => (pin b hb o y).1, fun b hb => ?_, w'⟩
        · rw [← hw] at y
          exact (wipe_some y).1
        · obtain ⟨o, y, _⟩ := T.obj _ _ t7 b hb
          exact (pin b hb o y).2
      cases c with
      | false =>
        simp only [Bool.false_eq_true, if_false] at q9 ⊢
        exact fin L9 q9
      | true =>
        simp only [if_true] at q9 ⊢
        refine thnF (qk.run _ s9 τ F9 _ L9 q9) fun a1 s10 ⟨yk, F10, L10, r10, q10⟩ => ?_
        refine thnF (qv.run _ s10 τ F10 _ L10 q10) fun a2 s11 ⟨yv, F11, L11, r11, es, k, b, ek, hb, hD, hk, hz, nx⟩ => ?_
        subst ek
        cases (show a1 = Value.ref b from r10)
        exact set_n (X := X.blk s3 G3 scope ce fp) (by show X.A.units + 16 < cLine; omega) L11 hD hk hb hz r11 fun s12 L12 => fin L12 nx
  exact codeAny_compStart_dict go (T.self X.A 0 _ _ _ t4 go)
theorem pe_dcN (hu : X.A.units + 64 < cLine) (hc : X.calm = true) (hN : X.N.Nodup) (hi : PI X tg iter src) (ok : BlkOk X.N X.env.scope scope own)
    (hg : ∀ (s : Shared) (G : Hp) (C : Addr) (cl : List (Str × Addr)) (fp : List Addr), PG (X.blk s G scope (compEnvC scope cl C X.env) fp) tg g)
    (ht : ∀ (s : Shared) (G : Hp) (C : Addr) (cl : List (Str × Addr)) (fp : List Addr), PTs (X.blk s G scope (compEnvC scope cl C X.env) fp) ifs tt)
    (hk : ∀ (s : Shared) (G : Hp) (C : Addr) (cl : List (Str × Addr)) (fp : List Addr), PE (X.blk s G scope (compEnvC scope cl C X.env) fp) kx tk)
    (hv : ∀ (s : Shared) (G : Hp) (C : Addr) (cl : List (Str × Addr)) (fp : List Addr), PE (X.blk s G scope (compEnvC scope cl C X.env) fp) vx tv)
    (hs : ∀ x, foldedSetIterable iter X.env x = pure x := by intro _; rfl) : PE X (.DictComp kx vx [⟨tg, iter, ifs, 0⟩] scope pos) (tDcN X.K X.w src g tt tk tv (own.map (·.2))) := by
  refine ⟨fun pins s σ H Q I h => ?_⟩
  rw [arm_eval_DictComp]
  refine dcN_core I hu hc hN hi ok hg ht hk hv hs h fun D C s' m F J q hn f => ⟨m, hn, fun h'' sb => ?_⟩
  obtain ⟨y0, y1, y2, y3, y4, y5⟩ := f
  exact ⟨.ref D, F, J.turned (t' := s'.toks) (fun b o hb z => (sb.2 b hb).trans z) y0 y1 y3 y4 y5, rfl, q⟩
theorem ps_setDcN {i : Nat} {y : Str} {py spos : Pos} (hy : X.N[i]? = some y) (hl : X.env.scope.names.lookup y = some .local) (hsw : swapsWith (.DictComp kx vx [⟨tg, iter, ifs, 0⟩] scope pos) (some (.Name y py)) spos.line X.env = pure true)
    (hu : X.A.units + 64 < cLine) (hc : X.calm = true) (hN : X.N.Nodup) (hi : PI X tg iter src) (ok : BlkOk X.N X.env.scope scope own)
    (hg : ∀ (s : Shared) (G : Hp) (C : Addr) (cl : List (Str × Addr)) (fp : List Addr), PG (X.blk s G scope (compEnvC scope cl C X.env) fp) tg g)
    (ht : ∀ (s : Shared) (G : Hp) (C : Addr) (cl : List (Str × Addr)) (fp : List Addr), PTs (X.blk s G scope (compEnvC scope cl C X.env) fp) ifs tt)
    (hk : ∀ (s : Shared) (G : Hp) (C : Addr) (cl : List (Str × Addr)) (fp : List Addr), PE (X.blk s G scope (compEnvC scope cl C X.env) fp) kx tk)
    (hv : ∀ (s : Shared) (G : Hp) (C : Addr) (cl : List (Str × Addr)) (fp : List Addr), PE (X.blk s G scope (compEnvC scope cl C X.env) fp) vx tv)
    (hs : ∀ x, foldedSetIterable iter X.env x = pure x := by intro _; rfl) : PS X (.Assign [.Name y py] (.DictComp kx vx [⟨tg, iter, ifs, 0⟩] scope pos) spos) (tAsg (tDcN X.K X.w src g tt tk tv (own.map (·.2))) (gName i)) := by
  refine ⟨fun pins s σ H Ds I h => ?_⟩
  rw [exec_Assign_Name_used _ _ _ _ hsw]
  refine wpAny_bind (wpAny_standAt (wpAny_bind ?_))
  show wpAny _ X.A (do let _ ← comprehension (.DictComp kx vx [⟨tg, iter, ifs, 0⟩] scope pos) scope X.env (firstIterPos [⟨tg, iter, ifs, 0⟩] pos) newDict false (eval iter X.env) (some (assign (.Name y py) X.env))) _ _ s
  have h' : tDcN X.K X.w src g tt tk tv (own.map (·.2)) σ H (fun x G => gName i x σ G Ds.nx) := h
  exact wpAny_bind (thn (dcN_core (Qf := fun _ s' => SP X pins Ds .next s') I hu hc hN hi ok hg ht hk hv hs h' fun D C s' m F J q hn f => R1.dc_store hN hy hl J q hn f) fun _ s' hq => wpAny_pure (wpAny_pure hq))
end
section
variable {J : It} {n : Nat} {G : Hp → Prop} {Y : Nat → Hp → V → Hp → Prop} {g : TG} {tt : TT} {tk tv : TE} {vs : List Nat} {σ : L2.St} {H1 : Hp} {D : Addr} {Qd : Hp → Prop} {K : PySem.W.Frag} {w : World}
theorem dN_it (wk : Walk J n G Y) (Pv : Nat → Hp → Prop) (h0 : Pv 0 (upd H1 D (dN w D []))) (hG : ∀ i H, i ≤ n → Pv i H → G H)
    (hs : ∀ i x H H', i < n → Pv i H → Y i H x H' → g x (wipe σ vs) H' fun τ F2 => wipe τ vs = wipe σ vs ∧ tt τ F2 fun c F3 =>
      if c = true then tk τ F3 fun y F4 => tv τ F4 fun z F5 => ∃ es k b, y = .ref b ∧ KeyAt K F5 k b ∧ F5 D = some (dN w D es) ∧ KeysAt K F5 es ∧ es.length < sizeLine ∧ Pv (i + 1) (upd F5 D (dN w D (putN es k b z))) else Pv (i + 1) F3) (hd : ∀ H, Pv n H → Qd H) :
    ∃ W : Nat → Nat → Hp → Prop, (∃ m, W 0 m (upd H1 D (dN w D []))) ∧ ∀ i m F, W i m F → (J.stop i F ∧ Qd F) ∨ (J.go i F ∧ ∃ Nx : Hp → Prop, (∀ F', Nx F' → ∃ m', m' < m ∧ W (i + 1) m' F') ∧ ∀ x F', J.yld i F x F' → g x (wipe σ vs) F' fun τ F2 => wipe τ vs = wipe σ vs ∧ tt τ F2 fun c F3 =>
      if c = true then tk τ F3 fun y F4 => tv τ F4 fun z F5 => ∃ es k b, y = .ref b ∧ KeyAt K F5 k b ∧ F5 D = some (dN w D es) ∧ KeysAt K F5 es ∧ es.length < sizeLine ∧ Nx (upd F5 D (dN w D (putN es k b z))) else Nx F3) := by
  refine ⟨fun i m F => i + m = n ∧ Pv i F, ⟨n, by omega, h0⟩, fun i m F hW => ?_⟩
  obtain ⟨hm, p⟩ := hW
  have q := hG i F (by omega) p
  by_cases lt : i < n
  · exact .inr ⟨wk.goes i F lt q, Pv (i + 1), fun F' p' => ⟨m - 1, by omega, by omega, p'⟩, fun x F' y => hs i x F F' lt p (wk.yields i F x F' lt q y)⟩
  · obtain rfl : i = n := by omega
    exact .inl ⟨wk.stops F q, hd F p⟩
end
end RN

/-! d.items(), list of it, dict(pairs), of dicts with nested keys -/
namespace RN
open PySem PySem.Spec PyProof.Rows L2
section
variable {X : Cx}
theorem re_at : ∀ {es : List Ent} {xs : List (NestedKey × Addr × Value)}, RE es xs → ∀ (j : Nat) (p : Ent), es[j]? = some p → ∃ q, xs[j]? = some q ∧ p.1 = q.1 ∧ p.2.1 = q.2.1 ∧ RelV p.2.2 q.2.2
  | _, _, .nil, j, p, h => by simp at h
  | _, _, .cons e t, 0, p, h => by cases h; exact ⟨_, rfl, e⟩
  | _, _, .cons e t, j + 1, p, h => by simpa using re_at t j p (by simpa using h)
theorem re_vals : ∀ {es : List Ent} {xs : List (NestedKey × Addr × Value)}, RE es xs → Vals (es.map fun p => p.2.2) (xs.map fun q => q.2.2) ∧ Vals (es.map fun p => V.ref p.2.1) (xs.map fun q => Value.ref q.2.1)
  | _, _, .nil => ⟨.nil, .nil⟩
  | _, _, .cons e t => ⟨.cons e.2.2 (re_vals t).1, .cons (show Value.ref _ = Value.ref _ from congrArg Value.ref e.2.1.symm) (re_vals t).2⟩
theorem raw_n {pins : List (Addr × Obj)} {σ : L2.St} {H : Hp} {s : Shared} {d : Addr} {es : List Ent} (I : Inv X pins σ H s) (hd : H d = some (dN X.w d es)) :
    es.length ≤ sizeLine ∧ (d == sysModules) = false ∧ ∃ xs arr ep, RE es xs ∧ s.heap.DictRaw d arr ep ∧ arr.toList = xs.map fun x => (⟨x.1.hash X.w, .ref x.2.1, x.2.2⟩ : DictEntry) := by
  obtain ⟨⟨a1, a2, xs, a3, a4, o, arr, ep, b1, b2, b3, b4⟩, _, _⟩ := (show ObjOk X.prog X.w H s.heap d (dN X.w d es) from I.hok d _ hd)
  exact ⟨a1, a2, xs, arr, ep, a3, ⟨o, b1, b2, b3⟩, b4⟩
/-- d.items() -/
def rItemsN (w : World) : V → List V → Hp → VK → Prop := fun x vs H Q => ∃ (d : Addr) (es : List Ent), x = .ref d ∧ vs = [] ∧ H d = some (dN w d es) ∧ ∀ p, H p = none → Q (.ref p) (upd H p (L2.DX.itemsO p d))
theorem mt_itemsN {w : World} (hW : X.w = w) : MtR X "dict.items" (rItemsN w) := by
  subst hW
  intro pins s σ H x vs v us Q I rx rxs h
  obtain ⟨d, es, rfl, rfl, hd, q⟩ := h
  cases rx
  cases rxs
  obtain ⟨_, lo, xs, arr, ep, _, ⟨o, b1, b2, b3⟩, _⟩ := raw_n I hd
  refine DT.callItems (es := arr) (ep := ep) lo ⟨o, b1, b2, b3⟩ ?_
  have hf : H s.heap.objs.size = none := I.hok.fresh (Nat.le_refl _)
  exact ⟨.ref s.heap.objs.size, upd H s.heap.objs.size (L2.DX.itemsO s.heap.objs.size d), I.laid (t' := s.toks) (fun b u e => Heap.get?_push_of_some _ e) (Nat.le_refl _) (L2.DX.itemsO_ok (Heap.get?_push_size _ rfl)), rfl, q _ hf⟩
/-- list(d.items()) -/
def rListItN (w : World) : List V → Hp → VK → Prop := fun vs H Q => ∃ (p d : Addr) (es : List Ent), vs = [.ref p] ∧ H p = some (L2.DX.itemsO p d) ∧ H d = some (dN w d es) ∧ es.length ≤ 1000 ∧
  ∀ (H2 : Hp) (l : Addr) (as : List Addr), Same H H2 → H l = none → as.length = es.length → H2 l = some (.lst (as.map V.ref)) → (∀ (j : Nat) (c : Addr) (e : Ent), as[j]? = some c → es[j]? = some e → H2 c = some (.tup [.ref e.2.1, e.2.2])) → Q (.ref l) H2
theorem call_listItN {w : World} (hc : X.calm = true) (hW : X.w = w) : CallR X (.type "list") (rListItN w) := by
  subst hW
  intro pins s σ H vs us Q I r h
  obtain ⟨p, d, es, rfl, hp, hd, hl, q⟩ := h
  obtain ⟨u, rfl, rx⟩ := vals1 r
  cases rx
  obtain ⟨_, lo, xs, arr, ep, re, raw, ha⟩ := raw_n I hd
  have hv : s.heap.IsItemsView p d := (show ObjOk X.prog X.w H s.heap p (L2.DX.itemsO p d) from I.hok p _ hp).1
  have l1 : xs.length = es.length := (Paired.length re).symm
  have l2 : arr.size = es.length := by
    rw [← Array.length_toList, ha, List.length_map, l1]
  obtain ⟨rv, rk⟩ := re_vals re
  refine PySem.W.dil_call (I.ok.hd hc) hv raw (by rw [l2, sizeLine_eq]; omega) fun h' tk acc c as hk hS hal G hacc => ?_
  have G2 : R1.Prs h' (s.heap.objs.size + 1) (xs.map fun q => Value.ref q.2.1).toArray (xs.map fun q => q.2.2).toArray as := by
    refine ⟨G.rise, fun c hc => G.above c hc, fun j c hj => ?_⟩
    obtain ⟨hj2, e⟩ := G.pairs j c hj
    have hx : j < xs.length := by rw [l1, ← l2]; exact hj2
    have e1 : arr[j] = (⟨xs[j].1.hash X.w, .ref xs[j].2.1, xs[j].2.2⟩ : DictEntry) := by
      have z : arr.toList[j]? = some arr[j] := by rw [Array.getElem?_toList]; exact Array.getElem?_eq_getElem hj2
      rw [ha, List.getElem?_map, List.getElem?_eq_getElem hx] at z
      exact (Option.some.inj z).symm
    rw [e1] at e
    exact ⟨_, _, by simp [hx], by simp [hx], e⟩
  obtain ⟨H2, sm, n0, at0, att, J⟩ := R1.zip_laid (tk := tk) I rk rv (by omega) hk (Nat.le_refl _) (Nat.lt_succ_self _) hS G2 hacc
  refine ⟨.ref s.heap.objs.size, H2, J, rfl, q H2 _ as sm n0 (by omega) at0 fun j c e hj he => att j c _ _ hj (by rw [List.getElem?_map, he]; rfl) (by rw [List.getElem?_map, he]; rfl)⟩
/-- tuple(xs) of a list, the very object known -/
def FrzT (H : Hp) (a : Addr) (xs : List V) : Prop := ∃ o : Obj, o.dict = none ∧ H a = some (.frz o (.tup xs))
theorem call_tupleF : CallR X (.type "tuple") (fun vs H Q => ∃ p ys, vs = [V.ref p] ∧ H p = some (.lst ys) ∧ ∀ l H', H l = none → Same H H' → FrzT H' l ys → Q (.ref l) H') := by
  intro pins s σ H vs us Q I r h
  obtain ⟨p, ys, rfl, hp, q⟩ := h
  obtain ⟨u, rfl, rx⟩ := vals1 r
  cases rx
  obtain ⟨its, r', pl, hz⟩ := I.list (show SqL X.K H p ys from .of hp)
  have hlen := r'.length
  refine call_tuple_list pl.isList (fun h' kp => ?_) (by simp only [List.size_toArray] <;> omega)
  have I1 : Inv X pins σ H { s with heap := h' } := I.kept (t' := s.toks) kp
  have nl : H h'.objs.size = none := I1.hok.fresh (Nat.le_refl _)
  have I2 : Inv X pins σ (upd H h'.objs.size (.frz { cls := .type "tuple", data := .seq its.toArray } (.tup ys))) { s with heap := h'.push { cls := .type "tuple", data := .seq its.toArray } } :=
    I1.laid (t' := s.toks) (fun b o e => Heap.get?_push_of_some _ e) (Nat.le_refl _) ⟨Heap.get?_push_size _ rfl, hz, its, r', IsTup.new _ _⟩
  refine ⟨.ref h'.objs.size, _, I2, rfl, q _ _ nl (fun a o e => by rw [upd_ne (ne_of_none e nl)]; exact e) ⟨_, rfl, upd_same⟩⟩
/-- dict(t), t a tuple of pairs with different keys -/
def rDictPN (K : PySem.W.Frag) (w : World) : List V → Hp → VK → Prop := fun vs H Q => ∃ (t : Addr) (cs : List Addr) (es : List Ent), vs = [.ref t] ∧ FrzT H t (cs.map V.ref) ∧ cs.length = es.length ∧ es.length ≤ 1000 ∧
  (∀ (j : Nat) (c : Addr) (e : Ent), cs[j]? = some c → es[j]? = some e → SqT K H c [.ref e.2.1, e.2.2]) ∧ KeysAt K H es ∧ (es.map (·.1)).Nodup ∧ ∀ d, H d = none → Q (.ref d) (upd H d (dN w d es))
theorem re_nodup : ∀ {es : List Ent} {xs : List (NestedKey × Addr × Value)}, RE es xs → es.map (·.1) = xs.map (·.1)
  | _, _, .nil => rfl
  | _, _, .cons e t => by rw [List.map_cons, List.map_cons, re_nodup t, e.1]
theorem pairs_n {pins : List (Addr × Obj)} {σ : L2.St} {H : Hp} {s : Shared} (I : Inv X pins σ H s) : ∀ (es : List Ent) (cs : List Addr), cs.length = es.length → (∀ (j : Nat) (c : Addr) (e : Ent), cs[j]? = some c → es[j]? = some e → SqT X.K H c [.ref e.2.1, e.2.2]) →
    ∃ xs, RE es xs ∧ ∀ (j : Nat) (c : Addr) (x : NestedKey × Addr × Value), cs[j]? = some c → xs[j]? = some x → s.heap.IsTuple c #[.ref x.2.1, x.2.2]
  | [], [], _, _ => ⟨[], .nil, fun j c x h => by simp at h⟩
  | e :: es, c :: cs, hl, f => by
    obtain ⟨xs, re, g⟩ := pairs_n I es cs (Nat.succ.inj hl) fun j b p h1 h2 => f (j + 1) b p (by simpa using h1) (by simpa using h2)
    obtain ⟨its, rv, ht, _⟩ := I.tuple (f 0 c e rfl rfl)
    obtain ⟨u1, u2, rfl, e1, e2⟩ := vals2 rv
    cases e1
    refine ⟨(e.1, e.2.1, u2) :: xs, .cons ⟨rfl, rfl, e2⟩ re, fun j b x h1 h2 => ?_⟩
    cases j with
    | zero => cases h1; cases h2; exact ht
    | succ j => exact g j b x (by simpa using h1) (by simpa using h2)
theorem refs_of : ∀ {cs : List Addr} {us : List Value}, Vals (cs.map V.ref) us → us = cs.map Value.ref
  | [], _, r => by cases r; rfl
  | c :: cs, _, r => by
    rw [List.map_cons] at r
    cases r with
    | cons h t => cases h; rw [List.map_cons, ← refs_of t]
theorem call_dictPN {K : PySem.W.Frag} {w : World} (hc : X.calm = true) (hu : X.A.units + 16 < cLine) (hK : X.K = K) (hW : X.w = w) : CallR X (.type "dict") (rDictPN K w) := by
  subst hK hW
  intro pins s σ H vs us Q I r h
  obtain ⟨t, cs, es, rfl, ⟨o, hod, ht⟩, hl, hl2, hp, hk, hn, q⟩ := h
  obtain ⟨u, rfl, rx⟩ := vals1 r
  cases rx
  obtain ⟨ho, hz, its, rv, o2, ho2, hcl, n, hdat⟩ := (show ObjOk X.prog X.w H s.heap t (.frz o (.tup (cs.map V.ref))) from I.hok t _ ht)
  rw [ho] at ho2
  obtain rfl : o = o2 := Option.some.inj ho2
  have ei := refs_of rv
  subst ei
  obtain ⟨xs, re, g⟩ := pairs_n I es cs hl hp
  have lx : xs.length = es.length := (Paired.length re).symm
  have nd : (xs.map (·.1)).Nodup := by rw [← re_nodup re]; exact hn
  have hi : ∀ x ∈ xs, (nestedKind X.prog X.w).is s.heap x.1 x.2.1 := re_keys re (P := fun k b => (nestedKind X.prog X.w).is s.heap k b) fun p hp => key_is I (hk p hp)
  have lps : (xs.map fun x => (Value.ref x.2.1, x.2.2)).length = xs.length := by rw [List.length_map]
  have c1 : X.A.units + 16 < cLine := hu
  refine call_dict_pairsH (knd := nestedKind X.prog X.w) (ps := xs) (PairArg.tuple t (cs.map Value.ref).toArray (fun j => cs.getD j 0) (xs.map fun x => (Value.ref x.2.1, x.2.2))) (I.ok.hd hc) (by show X.A.in1.in1.units + 8 < cLine; simp only [Around.in1_units]; omega)
    ⟨⟨o, n, ho, hcl, hod, hdat⟩, ⟨by simp; omega, fun j k v hj => ?_⟩⟩ ⟨lps.symm, fun i key v hi => ?_⟩ (fun h' kp x hx => ?_) (by rw [lps, lx, sizeLine_eq]; omega) fun h' tk dd kp => ?_
  · rw [List.getElem?_map] at hj
    cases e : xs[j]? with
    | none => rw [e] at hj; cases hj
    | some x =>
      rw [e] at hj
      cases hj
      have hj2 : j < cs.length := by
        have := (List.getElem?_eq_some_iff.mp e).1
        omega
      have gc : cs[j]? = some cs[j] := List.getElem?_eq_getElem hj2
      have gd : cs.getD j 0 = cs[j] := by rw [List.getD_eq_getElem?_getD, gc]; rfl
      refine ⟨by simp [hj2], .inl ?_⟩
      show s.heap.IsTuple (cs.getD j 0) _
      rw [gd]
      exact g j _ x gc e
  · have hi' : (xs.map fun x => (Value.ref x.2.1, x.2.2))[i]? = some (key, v) := hi
    rw [List.getElem?_map] at hi'
    cases e : xs[i]? with
    | none => rw [e] at hi'; cases hi'
    | some x =>
      rw [e] at hi'
      cases hi'
      exact ⟨x.1, x.2.1, rfl, rfl⟩
  · exact ⟨NestedIs.at (fun a ob vs m hb _ => kp a ob (Nat.ne_of_lt (Heap.lt_size hb)) (by simp) hb) _ _ (hi x hx).1, (hi x hx).2⟩
  · have k2 : ∀ b ob, s.heap.get? b = some ob → h'.get? b = some ob := fun b ob e => kp b ob (by simp) e
    rw [storedAllH_nil_of_nodup xs nd] at dd
    obtain ⟨od, arr, ep, b1, b2, b3, b4, _, b5⟩ := dd
    have hm : (s.heap.objs.size == sysModules) = false := beq_eq_false_iff_ne.mpr (Nat.ne_of_gt I.big)
    exact ⟨.ref s.heap.objs.size, _, I.laid (t' := tk) k2 (Nat.le_refl _) (dN_ok ⟨by rw [sizeLine_eq]; omega, hm, xs, re, nd, od, arr, ep, b1, b2, b3, b4⟩), rfl, q _ (I.hok.fresh (Nat.le_refl _))⟩
end
end RN

/-! [d, l] != [d2, l2], a dict and a list within -/
namespace RN
open PySem PySem.Spec PyProof.Rows L2 SeqAt
theorem kv_same {kvs : List (Key × V)} : ∀ {xs ys : List (Key × Value)}, (∀ p ∈ kvs, ∃ a, p.2 = V.ref a) → KV kvs xs → KV kvs ys → xs = ys := by
  intro xs ys h r t
  induction r generalizing ys with
  | nil => cases t; rfl
  | @cons p q ps qs e r ih =>
    cases t with
    | @cons _ q2 _ qs2 e2 t =>
      obtain ⟨a, ha⟩ := h p List.mem_cons_self
      have z1 := e.2
      have z2 := e2.2
      rw [ha] at z1 z2
      have : q = q2 := Prod.ext (e.1.symm.trans e2.1) ((show q.2 = Value.ref a from z1).trans (show q2.2 = Value.ref a from z2).symm)
      rw [this, ih (fun p hp => h p (List.mem_cons_of_mem _ hp)) t]
theorem hits_self {A : Around} {s : Shared} {kb : List (Key × Value)} : ∀ (l : List (Key × Value)), (∀ p ∈ l, valueAt kb p.1 = some p.2) → PySem.W.KeqHits A s kb l true
  | [], _ => .nil
  | (k, v) :: r, h => by
    have := PySem.W.KeqHits.hit (A := A) (s := s) (h (k, v) List.mem_cons_self) (EqAt.same v) (hits_self r fun p hp => h p (List.mem_cons_of_mem _ hp))
    exact this
theorem pairs_to {P P' : Program} {w w' : World} : ∀ {es : List DictEntry} {xs : List (Key × Value)}, Pairs (mixKind P w) es xs → Pairs (mixKind P' w') es xs
  | _, _, .nil => .nil
  | _, _, .cons h e t => .cons h e (pairs_to t)
theorem pairs_mem {P : Program} {w : World} : ∀ {es : List DictEntry} {xs : List (Key × Value)}, Pairs (mixKind P w) es xs → ∀ e ∈ es, ∃ p ∈ xs, (mixKind P w).is p.1 e.key = true
  | _, _, .nil, _, h => nomatch h
  | _, _, .cons (kv := kv) h e t, x, hx => by
    rcases List.mem_cons.mp hx with rfl | hx
    · exact ⟨kv, List.mem_cons_self, h⟩
    · obtain ⟨p, hp, q⟩ := pairs_mem t x hx
      exact ⟨p, List.mem_cons_of_mem _ hp, q⟩
/-- a dict with int keys alone is one whatever the world -/
theorem dict_any {P P' : Program} {w w' : World} {h : Heap} {d : Addr} {xs : List (Key × Value)} (hi : ∀ p ∈ xs, ∃ n, p.1 = Sum.inl n) (x : h.DictOf (mixKind P w) d xs) : h.DictOf (mixKind P' w') d xs := by
  obtain ⟨o, es, ep, a1, a2, a3, a4, a5, a6⟩ := x
  refine ⟨o, es, ep, a1, a2, a3, fun e he => ?_, pairs_to a5, a6⟩
  obtain ⟨k, k1, k2⟩ := a4 e he
  obtain ⟨p, hp, p1⟩ := pairs_mem a5 e (by simpa using he)
  obtain ⟨n, hn⟩ := hi p hp
  have := (mixKind P w).inj _ _ _ k1 p1
  rw [hn] at this
  subst this
  exact ⟨.inl n, k1, k2⟩
section
variable {X : Cx}
def rNeDL (K : PySem.W.Frag) : R2 := fun x y H Q => ∃ (l m d e a b : Addr) (kvs : List (Key × V)) (u : PyData), x = .ref l ∧ y = .ref m ∧ SqL K H l [.ref d, .ref a] ∧ SqL K H m [.ref e, .ref b] ∧ H d = some (.dK kvs) ∧ H e = some (.dK kvs) ∧ (∀ p ∈ kvs, (∃ n, p.1 = Sum.inl n) ∧ ∃ c, p.2 = .ref c) ∧
  Dp K H (.ref a) u ∧ Dp K H (.ref b) u ∧ SeqAt.shaped u = true ∧ PyData.eqv u u = true ∧ Q (.bl false) H
theorem op_neDL (hu : X.A.units + 80 < cLine) : OpR X (compareOp .NotEq) (rNeDL X.K) := by
  intro pins s σ H x y v w Q I rx ry h
  obtain ⟨l, m, d, e, a, b, kvs, u, rfl, rfl, hl, hm, hd, he, hr, ha, hb, hs, huu, q⟩ := h
  cases rx
  cases ry
  obtain ⟨i1, r1, p1, _⟩ := I.list hl
  obtain ⟨i2, r2, p2, _⟩ := I.list hm
  obtain ⟨u1, u2, rfl, e1, e2⟩ := vals2 r1
  obtain ⟨u3, u4, rfl, e3, e4⟩ := vals2 r2
  cases e1; cases e2; cases e3; cases e4
  obtain ⟨zd, lod, xs, kx, dx⟩ := dk_of I.hok hd
  obtain ⟨ze, loe, ys, ky, dy⟩ := dk_of I.hok he
  obtain rfl := kv_same (fun p hp => (hr p hp).2) kx ky
  have nd : (xs.map (·.1)).Nodup := let ⟨_, _, _, _, _, _, _, _, z⟩ := dx; z
  have hi : ∀ p ∈ xs, ∃ n, p.1 = Sum.inl n := fun p hp => by
    obtain ⟨j, hj⟩ := List.mem_iff_getElem?.mp hp
    have e1 : (kvs.map (·.1))[j]? = some p.1 := by rw [KV.keys kx, List.getElem?_map, hj]; rfl
    rw [List.getElem?_map] at e1
    cases e2 : kvs[j]? with
    | none => rw [e2] at e1; cases e1
    | some z =>
      rw [e2] at e1
      obtain ⟨n, hn⟩ := (hr z (List.mem_of_getElem? e2)).1
      exact ⟨n, (Option.some.inj e1).symm.trans hn⟩
  have c1 : X.A.units + 80 < cLine := hu
  have eqD : EqAt X.A.in1 s (.ref d) (.ref e) true := by
    by_cases c : d = e
    · subst c
      exact EqAt.same _
    · refine EqAt.of_refs c fun P' w' E' Q' h' => ?_
      refine PySem.W.keq_eq (knd := mixKind P' w') (r := true) lod loe (dict_any hi dx) (dict_any hi dy) (by simp only [Around.in1_units]; omega) (fun _ => hits_self xs fun p hp => valueAt_of_mem nd hp) ?_
      simpa using h'
  obtain ⟨as, ra⟩ := Dp.reads I u _ (.ref a) ha rfl
  obtain ⟨bs, rb⟩ := Dp.reads I u _ (.ref b) hb rfl
  have eqL : EqAt X.A.in1 s (.ref a) (.ref b) true := by
    have := PySem.W.keq_at (A := X.A) ra rb hs hs (by simp only [Around.in1_units]; omega)
    rw [huu] at this
    exact this
  have key := RcNeAt.lists (A := X.A) (e := fun _ => true) p1.isList p2.isList rfl (by omega) (fun j h1 h2 => by
    match j, h1, h2 with
    | 0, _, _ => exact eqD
    | 1, _, _ => exact eqL
    | j + 2, h1, _ => exact absurd (show j + 2 < 2 from h1) (by omega))
  exact key X.prog X.w _ _ ⟨.bl false, H, I, rfl, q⟩
end
end RN

/-! o[k] by the class's own __getitem__, as an expression -/
namespace R1
open PySem PySem.Spec PyProof.Rows L2
section
variable {X : Cx} {CX : CXT} {n : Nat} {C g : Addr} {sp : Sp} {E : XK} {o i : Expr} {to ti : TE} {pos : Pos}
def tIxO (C : Addr) (sp : Sp) (E : XK) (to ti : TE) : TE := fun σ H Q => to σ H fun x H1 => ti σ H1 fun y H2 => rIxO C sp E x y H2 Q
theorem pe_ixO (ho : PE X o to) (hi : PE X i ti) (hs : PySem.W.findIn X.K (.ref C) "__getitem__" = some (some (.ref g))) (hf : PySem.W.fnIn X.K g = true) (hfn : PySem.W.isFn X.K (.ref g) = true) (F : FnR X.prog X.w X.K X.mg X.base CX n g sp) (hr : Room (n + 1) X.A) (hx : Passes CX X E)
    (hsl : ∀ (x : Addr) (v : Value), subscripted i true (.ref x) v = runValue (.builtin "lifetime.subscript" ⟨[.ref x, v], []⟩)) : PE X (.Subscript o i pos) (tIxO C sp E to ti) := by
  refine ⟨fun pins s σ H Q I h => Subscript_ (thn (ho.run pins s σ H _ I h) fun u s1 ⟨x, H1, I1, rx, q1⟩ => thn (hi.run pins s1 σ H1 _ I1 q1) fun iv s2 ⟨y, H2, I2, ry, a, dx, fs, ex, ha, q⟩ => ?_)⟩
  subst ex
  cases rx
  obtain ⟨mA, J, _⟩ := ins_get I2.hok ha
  obtain ⟨od, J, _⟩ := J.look
  obtain ⟨m, hF⟩ := I2.fr
  exact PySem.W.sub_K hF I2.ok.mod.kin J hs hf hfn (wpAny_call (run_fnR1 (us := [.ref a, iv]) (vs := [.ref a, y]) F hr hx I2 (.cons rfl (.cons ry .nil)) q)) (hsl a iv)
end
end R1

/-! d.items() of a dict with nested keys, as an expression -/
namespace RN
open PySem PySem.Spec PyProof.Rows L2
section
variable {X : Cx} {o : Expr} {to : TE} {apos cpos : Pos}
def tItN (w : World) (to : TE) : TE := fun σ H Q => to σ H fun x H1 => rItemsN w x [] H1 Q
theorem pe_itemsN {w : World} (hW : X.w = w) (ho : PE X o to) (hb : attributeBase o "items" X.env (eval o X.env) = eval o X.env := by rfl) (hl : (apos.endLine == cpos.line) = true := by rfl) : PE X (.Call (.Attribute o "items" apos) [] [] cpos) (tItN w to) := by
  refine ⟨fun pins s σ H Q I h => wpAny_Call_method0_late hb hl (thn (ho.run pins s σ H _ I h) fun v s1 ⟨x, H1, I1, r1, q1⟩ => ?_)⟩
  have q2 := q1
  obtain ⟨d, es, rfl, _, hd, _⟩ := q2
  cases r1
  subst hW
  obtain ⟨_, _, _, _, _, _, ⟨ob, b1, b2, _⟩, _⟩ := raw_n I1 hd
  have there : ∀ c, Value.ref d = .ref c → ∃ u, s1.heap.get? c = some u ∧ u.dict = none := fun c e => by
    cases e
    exact ⟨ob, b1, b2.2.1⟩
  exact ⟨"dict", "dict.items", PySem.F.plainAttrs_dict, PySem.F.slot_dict_items, PySem.F.type_dict_items, ⟨ob, b1, b2.1⟩, there, Calls.callWith_builtin rfl (PySem.evalArgs_none (mt_itemsN rfl pins s1 σ H1 (.ref d) [] (.ref d) [] Q I1 rfl .nil q1))⟩
end
end RN

/-! within a try: o[k] by the class's own __getitem__; a call with keywords -/
namespace R1
open PySem PySem.Spec PyProof.Rows L2
section
variable {X : Cx} {CX : CXT} {n : Nat} {C g : Addr} {sp : Sp} {E : L2.St → XK} {o i : Expr} {to ti : TE} {pos : Pos}
def tIxOS (C : Addr) (sp : Sp) (E : L2.St → XK) (to ti : TE) : TE := fun σ H Q => to σ H fun x H1 => ti σ H1 fun y H2 => rIxO C sp (E σ) x y H2 Q
theorem run_fnR1S {pins : List (Addr × Obj)} {σ : L2.St} {H : Hp} {s : Shared} {Q : VK} {us : List Value} {vs : List V} (F : FnR X.prog X.w X.K X.mg X.base CX n g sp) (hr : Room (n + 1) X.A) (hx : PassesAt CX X σ (E σ)) (I : Inv X pins σ H s) (r : Vals vs us) (h : sp vs H Q (E σ)) :
    codeAny (model X.prog X.w) X.A.in1 (.call (.ref g) ⟨us, []⟩) (fun r s' => match r with | .ok (.ret v) => EP X pins σ Q v s' | .ok _ => False | .error e => X.xe e s') s := by
  refine codeAny_mono (F X.A.in1 X.stack s H us vs Q (E σ) hr.in1 I.env0.in1 r h) fun r s' hq => ?_
  cases r with
  | error e => exact hx pins H s e s' I hq
  | ok fl =>
    cases fl with
    | ret u => exact I.after hq
    | next => exact False.elim hq
    | brk => exact False.elim hq
    | cont => exact False.elim hq
theorem pe_ixOS (ho : PE X o to) (hi : PE X i ti) (hs : PySem.W.findIn X.K (.ref C) "__getitem__" = some (some (.ref g))) (hf : PySem.W.fnIn X.K g = true) (hfn : PySem.W.isFn X.K (.ref g) = true) (F : FnR X.prog X.w X.K X.mg X.base CX n g sp) (hr : Room (n + 1) X.A) (hx : ∀ σ, PassesAt CX X σ (E σ))
    (hsl : ∀ (x : Addr) (v : Value), subscripted i true (.ref x) v = runValue (.builtin "lifetime.subscript" ⟨[.ref x, v], []⟩)) : PE X (.Subscript o i pos) (tIxOS C sp E to ti) := by
  refine ⟨fun pins s σ H Q I h => Subscript_ (thn (ho.run pins s σ H _ I h) fun u s1 ⟨x, H1, I1, rx, q1⟩ => thn (hi.run pins s1 σ H1 _ I1 q1) fun iv s2 ⟨y, H2, I2, ry, a, dx, fs, ex, ha, q⟩ => ?_)⟩
  subst ex
  cases rx
  obtain ⟨mA, J, _⟩ := ins_get I2.hok ha
  obtain ⟨od, J, _⟩ := J.look
  obtain ⟨m, hF⟩ := I2.fr
  exact PySem.W.sub_K hF I2.ok.mod.kin J hs hf hfn (wpAny_call (run_fnR1S (us := [.ref a, iv]) (vs := [.ref a, y]) F hr (hx σ) I2 (.cons rfl (.cons ry .nil)) q)) (hsl a iv)
end
def tCallNS (n m : Nat) (sp : Sp) (gV : List V → List V → List V) (E : L2.St → XK) (t tk : TA) : TE := fun σ H Q => t σ H fun vs H1 => tk σ H1 fun zs H2 => vs.length = n ∧ zs.length = m ∧ sp (gV vs zs) H2 Q (E σ)
section
variable {X : Cx} {CX : CXT} {k n : Nat} {f : Addr} {fd : FuncData} {ps ks : List Str} {sp : Sp} {E : L2.St → XK} {x : Str} {p pos : Pos} {e : Expr} {es : List Expr} {kws : List Keyword} {t tk : TA} {g : List Value → List Value → List Value} {gV : List V → List V → List V}
theorem pe_callNS (F : FnOk X.prog X.w X.K X.mg X.base CX k f fd ps sp) (hr : Room k X.A) (hg : Gl X x) (hm : X.mg x = some (.ref f)) (hk : PySem.W.keepIn X.K (.ref f) = true) (hb : KBn X.K fd ps n ks g gV) (hx : ∀ σ, PassesAt CX X σ (E σ))
    (ha : PA X (e :: es) t) (hkw : PK X kws tk) (hall : (backToKw pos (keywordEach kws X.env)).all (·.1.isSome) = true := by rfl) (hks : (backToKw pos (keywordEach kws X.env)).filterMap (·.1) = ks := by rfl)
    (hdb : (x == ("__debug__" : Str)) = false := by decide) (he : starEach (e :: es) X.env = (false, eval e X.env) :: starEach es X.env := by rfl)
    (hpl : ((backTo pos (starEach (e :: es) X.env)).any (·.1) || (backToKw pos (keywordEach kws X.env)).any (·.1.isNone)) = false := by rfl) :
    PE X (.Call (.Name x p) (e :: es) kws pos) (tCallNS n ks.length sp gV E t tk) := by
  refine ⟨fun pins s σ H Q I h => wpAny_Call_Name_kw (ld_glob I hg hm ?_ hdb)⟩
  refine PySem.W.callWith_KW (h₀ := X.base) I.ok.mod.kin hk hall (thn (ha.run pos pins s σ H _ I h) fun us s1 ⟨vs, H1, I1, r, q⟩ => ?_) hpl he
  refine thn (hkw.run pos pins s1 σ H1 _ I1 q) fun ws s2 ⟨zs, H2, I2, rz, l1, l2, q2⟩ => ⟨I2.kIn, ?_⟩
  rw [hks]
  have rr := hb.rel r rz
  refine wpAny_call (codeAny_mono (F.run X.A X.stack s2 H2 ⟨us, ks.zip ws⟩ (g us ws) (gV vs zs) Q (E σ) hr I2.env0 (hb.to s2 us ws I2.kIn (r.length.symm.trans l1) (rz.length.symm.trans l2)) rr q2) fun rs s' hq => ?_)
  cases rs with
  | error er => exact hx σ pins H2 s2 er s' I2 hq
  | ok fl =>
    cases fl with
    | ret u => exact I2.after hq
    | next => exact False.elim hq
    | brk => exact False.elim hq
    | cont => exact False.elim hq
end
end R1

/-! for x in d.values(), d with nested keys, locked -/
namespace RN
open PySem PySem.Spec PyProof.Rows L2
section
variable {X : Cx} {pins : List (Addr × Obj)} {σ : L2.St} {H : Hp} {s : Shared} {d : Addr} {o : Obj} {es : List Ent} {P : Program} {w : World} {K : PySem.W.Frag} {tg e : Expr} {td : TE} {apos cpos : Pos}
def ItdN (w : World) (d : Addr) (o : Obj) (es : List Ent) : It :=
  ⟨fun i H => H d = some (.frz o (dN w d es)) ∧ i < es.length, fun i H x H' => H' = H ∧ ∃ p, es[i]? = some p ∧ x = p.2.2, fun i H => H d = some (.frz o (dN w d es)) ∧ es.length ≤ i⟩
theorem frz_n (I : Inv X pins σ H s) (h : H d = some (.frz o (dN X.w d es))) : (d == sysModules) = false ∧ s.heap.get? d = some o ∧ o.ExactDict ∧ ∃ xs arr ep, RE es xs ∧ o.data = .dict arr ep ∧ s.heap.DictRaw d arr ep ∧ arr.toList = xs.map fun x => (⟨x.1.hash X.w, .ref x.2.1, x.2.2⟩ : DictEntry) := by
  obtain ⟨hd, ⟨⟨a1, a2, xs, a3, a4, o', arr, ep, b1, b2, b3, b4⟩, _, _⟩⟩ := I.hok d _ h
  rw [hd] at b1
  cases b1
  exact ⟨a2, hd, b2, xs, arr, ep, a3, b3, ⟨o, hd, b2, b3⟩, b4⟩
theorem arr_at {es : List Ent} {xs : List (NestedKey × Addr × Value)} {arr : Array DictEntry} (re : RE es xs) (ha : arr.toList = xs.map fun x => (⟨x.1.hash w, .ref x.2.1, x.2.2⟩ : DictEntry)) : arr.size = es.length ∧ ∀ (i : Nat) (p : Ent) (hi : i < arr.size), es[i]? = some p → RelV p.2.2 arr[i].val := by
  have l1 : xs.length = es.length := (Paired.length re).symm
  have l2 : arr.size = es.length := by rw [← Array.length_toList, ha, List.length_map, l1]
  refine ⟨l2, fun i p hi hp => ?_⟩
  obtain ⟨q, hq, _, _, r⟩ := re_at re i p hp
  have z : arr.toList[i]? = some arr[i] := by rw [Array.getElem?_toList]; exact Array.getElem?_eq_getElem hi
  rw [ha, List.getElem?_map, hq] at z
  have := Option.some.inj z
  rw [← this]
  exact r
theorem turn_valsN {arr : Array DictEntry} {ep : Nat} (it : Addr) (hod : o.data = .dict arr ep) : Turn P w K tg (ItdN w d o es) [it] it (fun i h => h.IsValIter it d i es.length ep) where
  mem := by simp
  obj := fun i h st b hb => by
    have e : b = it := by simpa using hb
    subst e
    obtain ⟨oi, e, c, dd⟩ := st
    exact ⟨oi, e, fun v z => by rw [dd] at z; cases z⟩
  keep := fun i h h' st k => st.at fun oi e => k it (by simp) oi e
  item := by
    intro X hP hw hK hc i pins s σ H E I hf st hg
    subst hP hw hK
    obtain ⟨hd, hi⟩ := hg
    obtain ⟨f0, f1, f2, f3, f4, f5⟩ := hf it (by simp)
    obtain ⟨_, _, _, xs, arr', ep', re, hdt, raw, ha⟩ := frz_n I hd
    rw [hod] at hdt
    cases hdt
    obtain ⟨l2, av⟩ := arr_at re ha
    have gp : es[i]? = some es[i] := List.getElem?_eq_getElem hi
    have hi2 : i < arr.size := by omega
    rw [← l2] at st
    refine PySem.wpAny_pyNext_values_item_raw st raw hi2 fun h' st' sb => ?_
    have I1 : Inv X pins σ H { s with heap := h' } := I.turned (t' := s.toks) (fun b ob hb e => (sb.2 b hb).trans e) f0 f1 f3 f4 f5
    obtain ⟨oi, e, c, dd⟩ := id st'
    refine ⟨arr[i].val, rfl, go_of (s := { s with heap := h' }) e c dd (by decide) ⟨es[i].2.2, H, I1, av i _ hi2 gp, ⟨rfl, es[i], gp, rfl⟩, ?_, fun b hb => (hf b hb).1⟩⟩
    show h'.IsValIter it d (i + 1) es.length _
    rw [← l2]
    exact st'
  done := by
    intro X hP hw hK hc i pins s σ H E I hf st hg
    subst hP hw hK
    obtain ⟨hd, hi⟩ := hg
    obtain ⟨f0, f1, f2, f3, f4, f5⟩ := hf it (by simp)
    obtain ⟨_, _, _, xs, arr', ep', re, hdt, raw, ha⟩ := frz_n I hd
    rw [hod] at hdt
    cases hdt
    obtain ⟨l2, _⟩ := arr_at re ha
    rw [← l2] at st
    exact PySem.wpAny_pyNext_values_end_raw (I.ok.hd hc) st raw (by omega) fun h' eb => ⟨rfl, I.turned (t' := s.toks) (fun b ob hb e => eb b ob hb e) f0 f1 f3 f4 f5⟩
  self := fun A i s Q E st h => wpAny_pyIter_valiter st h
/-- the dict is locked (tLock, or by the caller) -/
def iValsN (w : World) (td : TE) : TI := fun σ H R => td σ H fun x H1 => ∃ d o es, x = .ref d ∧ H1 d = some (.frz o (dN w d es)) ∧ R (ItdN w d o es) H1
theorem pi_valuesN (hW : X.w = w) (he : PE X e td) (hbase : attributeBase e "values" X.env (eval e X.env) = eval e X.env := by rfl) (hline : (apos.endLine == cpos.line) = true := by rfl) : PI X tg (.Call (.Attribute e "values" apos) [] [] cpos) (iValsN w td) := by
  subst hW
  refine ⟨fun pins s σ H R I h => ?_⟩
  refine wpAny_Call_method (T := "dict") (id := "dict.values") hbase rfl hline PySem.F.plainAttrs_dict PySem.F.slot_dict_values PySem.F.type_dict_values (thn (he.run pins s σ H _ I h) fun u s1 ⟨x, H1, I1, rx, d, o, es, ex, hd, q⟩ => ?_)
  subst ex
  obtain rfl : u = Value.ref d := rx
  obtain ⟨hs, hgd, hx, xs, arr, ep, re, hdt, raw, ha⟩ := frz_n I1 hd
  obtain ⟨l2, _⟩ := arr_at re ha
  have ty : s1.TypeIs (.ref d) "dict" := ⟨o, hgd, hx.1⟩
  refine ⟨ty, fun c e => ?_, ?_⟩
  · cases e
    exact ⟨o, hgd, hx.2.1⟩
  have I2 : Inv X pins σ H1 { s1 with heap := s1.heap.push { cls := .type "dict_values", data := .fields #[.ref d] } } := I1.kept (t' := s1.toks) fun b ob q => Heap.get?_push_of_some _ q
  have raw2 : (s1.heap.push { cls := .type "dict_values", data := .fields #[.ref d] }).DictRaw d arr ep := by
    obtain ⟨o1, h1, h2, h3⟩ := raw
    exact ⟨o1, Heap.get?_push_of_some _ h1, h2, h3⟩
  have fin : wpAny (model X.prog X.w) X.A (pyIter (.ref s1.heap.objs.size)) (PIE X pins σ tg R) X.xe { s1 with heap := s1.heap.push { cls := .type "dict_values", data := .fields #[.ref d] } } := by
    refine PySem.wpAny_pyIter_values_raw (d := d) ⟨_, Heap.get?_push_size _ rfl, rfl, rfl⟩ raw2 (pi_one (tk := s1.toks) I2 _ (turn_valsN _ hdt) ⟨_, Heap.get?_push_size _ rfl, rfl, ?_⟩ q)
    rw [l2] <;> rfl
  show wpAny _ _ (callWith cpos (.builtin "dict.values") [.ref d] [] []) _ X.xe s1
  exact method_meetsIn PySem.F.slot_dict_values PySem.F.entry_dict_values rfl (PySem.evalArgs_none ⟨rfl, ty, PySem.F.args_dict_values_1 _, _, PySem.meets_dict_values_raw d hs, ⟨⟨arr, ep, raw⟩, fin⟩⟩)
end
end RN

/-! min with default -/
namespace R0
open PySem PySem.Spec PyProof.Rows L2
section
variable {X : Cx}
/-! ### min(t, default=d), t a tuple or a list of ints -/
def minL (d : Int) : List Int → Int
  | [] => d
  | x :: r => r.foldl (fun a y => if y < a then y else a) x
theorem minOf_int (x : Int) (r : List Int) : PySem.W.minOf x r = minL 0 (x :: r) := by
  unfold PySem.W.minOf minL
  congr 1
  funext a y
  by_cases h : y < a
  · rw [if_pos h, if_pos (show PySem.W.DatumOrd.lt y a = true from decide_eq_true h)]
  · rw [if_neg h, if_neg (fun z : PySem.W.DatumOrd.lt y a = true => h (of_decide_eq_true z))]
def rMinD (K : PySem.W.Frag) : List V → List V → Hp → VK → Prop := fun vs zs H Q => ∃ (a : Addr) (ns : List Int) (d : Int), vs = [.ref a] ∧ zs = [.int d] ∧ (SqT K H a (ns.map V.int) ∨ SqL K H a (ns.map V.int)) ∧ Q (.int (minL d ns)) H
theorem ck_minD (hc : X.calm = true) (hu : X.A.units + 64 < cLine) : CallRK X (.builtin "min") ["default"] (rMinD X.K) := by
  intro pins s σ H xs zs us ws Q I r rz h
  obtain ⟨a, ns, d, rfl, rfl, hs, q⟩ := h
  obtain ⟨u, rfl, ru⟩ := vals1 r
  obtain rfl : u = Value.ref a := ru
  obtain ⟨w1, rfl, rw1⟩ := vals1 rz
  have fin : ∀ (i : Nat) (v : Value) (h' : Heap) (tk : Nat) (y : Int) (ys : List Int), ns = y :: ys → PySem.W.Holds h' v (PySem.W.minOf y ys) → (∀ b o, s.heap.get? b = some o → h'.get? b = some o) → EP X pins σ Q v { s with heap := h', toks := tk } := fun i v h' tk y ys e hv k => by
    obtain ⟨as, hv⟩ := hv
    subst e
    have hv' : Reads h' v (.int (PySem.W.minOf y ys)) as := hv
    cases hv'
    refine ⟨.int (PySem.W.minOf y ys), H, I.kept k, ⟨_, rfl⟩, ?_⟩
    rw [minOf_int]
    exact q
  have fin0 : ns = [] → ∀ (h' : Heap) (tk : Nat), (∀ b o, s.heap.get? b = some o → h'.get? b = some o) → EP X pins σ Q w1 { s with heap := h', toks := tk } := fun e h' tk k => by
    subst e
    exact ⟨.int d, H, I.kept k, rw1, q⟩
  rcases hs with hs | hs
  · obtain ⟨its, rv, ht, hz⟩ := I.tuple hs
    refine PySem.W.min_tuple_datum_default (xs := ns) (vs := its.toArray) (I.ok.hd hc) ht ?_ ?_ fin0 fun y ys i v h' tk e _ hv k => fin i v h' tk y ys e hv k
    · simpa using hold_ints (h := s.heap) rv
    · show X.A.units + 1 + 0 < cLine
      omega
  · obtain ⟨its, rv, pl, hz⟩ := I.list hs
    refine PySem.W.min_list_datum_default (xs := ns) (vs := its.toArray) (I.ok.hd hc) pl.isList ?_ ?_ fin0 fun y ys i v h' tk e _ hv k => fin i v h' tk y ys e hv k
    · simpa using hold_ints (h := s.heap) rv
    · show X.A.units + 1 + 0 < cLine
      omega
end
end R0

/-! {} that is to have nested keys -/
namespace RN
open PySem PySem.Spec PyProof.Rows L2
section
variable {X : Cx} {pos : Pos}
def tDNewN (w : World) : TE := fun _ H Q => ∀ p, H p = none → Q (.ref p) (upd H p (dN w p []))
theorem pe_dnewN {w : World} (hW : X.w = w) : PE X (.Dict [] [] pos) (tDNewN w) := by
  subst hW
  exact ⟨fun pins s σ H Q I h => wpAny_Dict_empty ⟨.ref s.heap.objs.size, _, I.laid (a := s.heap.objs.size) (o := dN X.w s.heap.objs.size []) (t' := s.toks) (fun _ _ q => Heap.get?_push_of_some _ q) (Nat.le_refl _) (dN_empty s.heap I.big), rfl, h _ (I.hok.fresh (Nat.le_refl _))⟩⟩
end
end RN

/-! x in t, x not in t, t a tuple of data of any depth -/
namespace R1
open PySem PySem.Spec PyProof.Rows L2
section
variable {X : Cx}
def rInDT (K : PySem.W.Frag) (neg : Bool) : R2 := fun x y H Q => ∃ d ds, Dp K H x d ∧ Dp K H y (.tuple ds) ∧ SeqAt.shaped d = true ∧ SeqAt.shaped (.tuple ds) = true ∧ Q (.bl (if neg then !ds.any fun z => PyData.eqv z d else ds.any fun z => PyData.eqv z d)) H
theorem op_inDT {K : PySem.W.Frag} (hu : X.A.units + 65 < cLine) (hK : X.K = K) : OpR X (compareOp .In) (rInDT K false) := by
  subst hK
  intro pins s σ H x y v u Q I rx ry h
  obtain ⟨d, ds, hd, he, sd, se, q⟩ := h
  obtain ⟨as, r1⟩ := Dp.reads I d x v hd rx
  obtain ⟨bs, r2⟩ := Dp.reads I (.tuple ds) y u he ry
  exact SeqAt.in_tuple_reads r2 r1 (SeqAt.canLay_of_shaped se) (SeqAt.canLay_of_shaped sd) (room_in_shaped sd hu) ⟨.bl _, H, I, rfl, q⟩
theorem op_notInDT {K : PySem.W.Frag} (hu : X.A.units + 65 < cLine) (hK : X.K = K) : OpR X (compareOp .NotIn) (rInDT K true) := by
  subst hK
  intro pins s σ H x y v u Q I rx ry h
  obtain ⟨d, ds, hd, he, sd, se, q⟩ := h
  obtain ⟨as, r1⟩ := Dp.reads I d x v hd rx
  obtain ⟨bs, r2⟩ := Dp.reads I (.tuple ds) y u he ry
  exact SeqAt.notIn_tuple_reads r2 r1 (SeqAt.canLay_of_shaped se) (SeqAt.canLay_of_shaped sd) (room_in_shaped sd hu) ⟨.bl _, H, I, rfl, q⟩
end
end R1

/-! C.m(..), m a staticmethod, within a try -/
namespace R1
open PySem PySem.Spec PyProof.Rows L2 ClX
section
variable {X : Cx} {CX : CXT} {k : Nat} {C p g : Addr} {mc : Value} {sp : Sp} {E : L2.St → XK} {o e : Expr} {es : List Expr} {m : Str} {pos apos : Pos} {ta : TE} {t : TA} {pl : Sem Bool}
def tSMethS (C : Addr) (sp : Sp) (E : L2.St → XK) (ta : TE) (t : TA) : TE := fun σ H Q => ta σ H fun x H1 => x = .ref C ∧ t σ H1 fun vs H2 => sp vs H2 Q (E σ)
theorem run_fnRS {pins : List (Addr × Obj)} {σ : L2.St} {H : Hp} {s : Shared} {Q : VK} {us : List Value} {vs : List V} (F : FnR X.prog X.w X.K X.mg X.base CX k g sp) (hr : Room k X.A) (hx : PassesAt CX X σ (E σ)) (I : Inv X pins σ H s) (r : Vals vs us) (h : sp vs H Q (E σ)) :
    codeAny (model X.prog X.w) X.A (.call (.ref g) ⟨us, []⟩) (fun r s' => match r with | .ok (.ret v) => EP X pins σ Q v s' | .ok _ => False | .error e => X.xe e s') s := by
  refine codeAny_mono (F X.A X.stack s H us vs Q (E σ) hr I.env0 r h) fun r s' hq => ?_
  cases r with
  | error e => exact hx pins H s e s' I hq
  | ok fl =>
    cases fl with
    | ret u => exact I.after hq
    | next => exact False.elim hq
    | brk => exact False.elim hq
    | cont => exact False.elim hq
theorem pe_smethS (he : PE X o ta) (r : CRead X.K C mc) (c : SMet X.K C mc m p g) (F : FnR X.prog X.w X.K X.mg X.base CX k g sp) (hr : Room k X.A) (hx : ∀ σ, PassesAt CX X σ (E σ)) (ha : PA X (e :: es) t)
    (hst : starEach (e :: es) X.env = (false, eval e X.env) :: starEach es X.env := by rfl) (hpl : (backTo pos (starEach es X.env)).any (·.1) = false := by rfl)
    (ht : eval (.Call (.Attribute o m apos) (e :: es) [] pos) X.env = (do
      let ov ← eval o X.env
      standAt apos.atName
      let (f, first) ← holding [ov] (getMethod ov m pl)
      callWith pos f first (backTo pos (starEach (e :: es) X.env)) (backToKw pos (keywordEach [] X.env))) := by rfl) :
    PE X (.Call (.Attribute o m apos) (e :: es) [] pos) (tSMethS C sp E ta t) := by
  refine ⟨fun pins s σ H Q I h => ?_⟩
  refine PySem.W.methodCall_KW (pl := pl) (thn (he.run pins s σ H _ I h) fun u s1 ⟨x, H1, I1, rx, ex, q⟩ => ?_) ht
  subst ex
  obtain rfl : u = Value.ref C := rx
  refine getmethsm_ok I1 r c fun s2 I2 => ?_
  refine PySem.W.callWith_K (first := []) (h₀ := X.base) I.ok.mod.kin c.kp (thn (ha.run pos pins s2 σ H1 _ I2 q) fun us s3 ⟨vs, H2, I3, rv, q2⟩ => ⟨I3.kIn, ?_⟩) hst hpl
  exact wpAny_call (run_fnRS F hr (hx σ) I3 rv q2)
end
end R1

/-! a + b by the class's own __add__, a != b by its own __eq__ -/
namespace R1
open PySem PySem.Spec PyProof.Rows L2
section
variable {prog : Program} {w : World} {A : Around} {E : Value → Shared → Prop} {s : Shared} {K : PySem.W.Frag} {x y C f : Addr} {ox : Obj} {od : Option Obj}
theorem ne_entry (X : K.In s.heap) (I : PySem.W.InstAt s.heap x ox C od) (hs : PySem.W.findIn K (.ref C) "__eq__" = some (some (.ref f))) (hf : PySem.W.isFn K (.ref f) = true) (hu : A.units < cLine) {Q : Fin → Shared → Prop}
    (hcall : wpAny (model prog w) A (call (.ref f) [.ref x, .ref y]) (fun v s' => ∃ b, v = .bool b ∧ Q (.done (.ret (.bool (!b)))) s') E s) :
    wpAny (model prog w) A (Builtin.«object.__ne__» ⟨[.ref x, .ref y], []⟩) Q E s := by
  unfold Builtin.«object.__ne__»
  repeat (first
    | with_reducible refine wpAny_cRoomFor hu ?_
    | (refine wpAny_bind (m := callSpecialIfBound? (.ref x) (Str.ofString "__eq__") [.ref y])
        (PySem.W.ifBound_K X I hs hf (wpAny_mono hcall (fun r s' hr => by
          obtain ⟨b, rfl, hq⟩ := hr
          repeat (first | exact hq | exact wpAny_pure hq | exact wpAny_truthy_bool hq | (refine wpAny_bind (m := truthy (.bool _)) (wpAny_truthy_bool ?_)) | wp_step)) fun _ _ e => e)))
    | wp_step)
theorem ifBound_objNe {M : Model} {args : List Value} {Q : Option Value → Shared → Prop} (X : K.In s.heap) (I : PySem.W.InstAt s.heap x ox C od) (hs : PySem.W.findIn K (.ref C) "__ne__" = some (some (.builtin "object.__ne__")))
    (h : wpAny M A (call (.builtin "object.__ne__") (.ref x :: args)) (fun v => Q (some v)) E s) : wpAny M A (callSpecialIfBound? (.ref x) "__ne__" args) Q E s := by
  simp only [callSpecialIfBound?, bindSpecialIfBound?]
  refine wpAny_holding (wpAny_bind (wpAny_bind (wpAny_bind (I.type.here ((PySem.W.looks_findIn X hs).here ?_)))))
  refine wpAny_bind (wpAny_askSetting (wpAny_ite ?_))
  have fin : wpAny M A (call (.builtin "object.__ne__") ([.ref x] ++ args) >>= fun v => pure (some v)) Q E s := wpAny_bind (wpAny_mono h (fun v s' h' => wpAny_pure h') fun _ _ h' => h')
  split
  · exact wpAny_bind (wpAny_of_eq (F.cmp_object.ne.bind _) (wpAny_pure (by exact fin)))
  · exact wpAny_tryCatch (wpAny_bind (wpAny_of_eq (F.cmp_object.ne.bind _) (wpAny_pure (by exact fin))))
theorem ne_K {Q : Value → Shared → Prop} (hu : A.units + 1 < cLine) (X : K.In s.heap) (I : PySem.W.InstAt s.heap x ox C od) (hb : PySem.W.Looks (model prog w) s.heap (typeOf (.ref y)) (.ref C)) (hm : PySem.W.mroIn K C (.type "object") = some true)
    (hn : PySem.W.findIn K (.ref C) "__ne__" = some (some (.builtin "object.__ne__"))) (hs : PySem.W.findIn K (.ref C) "__eq__" = some (some (.ref f))) (hf : PySem.W.isFn K (.ref f) = true)
    (h : wpAny (model prog w) A.in1 (call (.ref f) [.ref x, .ref y]) (fun v s' => ∃ b, v = .bool b ∧ Q (.bool (!b)) s') E s) : wpAny (model prog w) A (richCompare .NotEq (.ref x) (.ref y)) Q E s := by
  have one : wpAny (model prog w) A (tryCompare (.ref x) "__ne__" (.ref y)) (fun r s' => ∃ b, r = some (.bool b) ∧ Q (.bool b) s') E s := by
    unfold tryCompare
    refine wpAny_bind (ifBound_objNe X I hn (wpAny_call (codeAny_call_builtin F.cmp_object.ne.plain F.cmpEntry_ne (PySem.W.check_slot F.cmpKind_ne F.cmpSplit_ne (I.type.andThen (PySem.W.looks_mroIn X hm)) (F.cmpArgs_ne _ _)
      (ne_entry (A := A.in1) X I hs hf hu (wpAny_mono h (fun v s' hv => ?_) fun _ _ e => e))))))
    obtain ⟨b, rfl, hq⟩ := hv
    first | exact ⟨b, rfl, wpAny_pure ⟨_, rfl, hq⟩⟩ | exact ⟨b, rfl, wpAny_pure (wpAny_pure ⟨_, rfl, hq⟩)⟩ | exact ⟨b, rfl, ⟨_, rfl, hq⟩⟩
  unfold richCompare
  simp only [oneThing_ref]
  refine wpAny_holding (wpAny_bind (wpAny_cRoomFor (Nat.lt_of_succ_lt hu) ?_))
  refine wpAny_bind (I.type.here (wpAny_bind (hb.here ?_)))
  split
  · rename_i q
    simp at q
  · refine wpAny_bind (wpAny_pure ?_)
    simp only [Bool.false_eq_true, if_false]
    refine wpAny_bind (wpAny_mono one (fun r s' z => ?_) fun _ _ e => e)
    obtain ⟨b, rfl, hq⟩ := z
    exact wpAny_pure hq
end
section
variable {X : Cx} {CX : CXT} {n : Nat} {C g : Addr} {sp : Sp} {E : XK}
/-- x op y of two instances of the class at C, by its own def -/
def rBinO (C : Addr) (sp : Sp) (E : XK) : R2 := fun x y H Q => ∃ a dx fs b dy gs, x = .ref a ∧ y = .ref b ∧ H a = some (.ins C dx fs) ∧ H b = some (.ins C dy gs) ∧ sp [x, y] H Q E
theorem op_binO {op : Operator} (hc : PySem.W.selfFirst X.K C = true) (hs : PySem.W.findIn X.K (.ref C) (PySem.dunder op.info.2) = some (some (.ref g))) (hf : PySem.W.isFn X.K (.ref g) = true) (F : FnR X.prog X.w X.K X.mg X.base CX n g sp) (hr : Room n X.A) (hx : Passes CX X E) : OpR X (binaryOp op) (rBinO C sp E) := by
  intro pins s σ H x y v u Q I rx ry h
  obtain ⟨a, dx, fs, b, dy, gs, rfl, rfl, ha, hb, q⟩ := h
  cases (show v = Value.ref a from rx)
  cases (show u = Value.ref b from ry)
  obtain ⟨mA, J, _⟩ := ins_get I.hok ha
  obtain ⟨mB, J', _⟩ := ins_get I.hok hb
  obtain ⟨od, J, _⟩ := J.look
  obtain ⟨od', J', _⟩ := J'.look
  obtain ⟨m, hF⟩ := I.fr
  refine PySem.W.binop_K (op := op) hF I.ok.mod.kin J J'.type hc hs hf ?_
  refine wpAny_mono (wpAny_call (run_fnR (us := [.ref a, .ref b]) (vs := [.ref a, .ref b]) F hr hx I (.cons rfl (.cons rfl .nil)) q)) (fun w s' z => ?_) fun _ _ x => x
  obtain ⟨z', H', I', rz, qz⟩ := z
  exact SlX.cmpback rz ⟨z', H', I', rz, qz⟩
/-- x != y of two instances of the class at C, by its own == -/
theorem op_neO (hm : PySem.W.mroIn X.K C (.type "object") = some true) (hn : PySem.W.findIn X.K (.ref C) "__ne__" = some (some (.builtin "object.__ne__"))) (hs : PySem.W.findIn X.K (.ref C) "__eq__" = some (some (.ref g))) (hf : PySem.W.isFn X.K (.ref g) = true) (F : FnR X.prog X.w X.K X.mg X.base CX n g sp) (hr : Room (n + 1) X.A) (hu : X.A.units + 64 < cLine) (hx : Passes CX X E) :
    OpR X (compareOp .NotEq) (fun x y H Q => ∃ a dx fs b dy gs, x = .ref a ∧ y = .ref b ∧ H a = some (.ins C dx fs) ∧ H b = some (.ins C dy gs) ∧ sp [x, y] H (fun v H' => ∃ b, v = .bl b ∧ Q (.bl (!b)) H') E) := by
  intro pins s σ H x y v u Q I rx ry h
  obtain ⟨a, dx, fs, b, dy, gs, rfl, rfl, ha, hb, q⟩ := h
  cases (show v = Value.ref a from rx)
  cases (show u = Value.ref b from ry)
  obtain ⟨mA, J, _⟩ := ins_get I.hok ha
  obtain ⟨mB, J', _⟩ := ins_get I.hok hb
  obtain ⟨od, J, _⟩ := J.look
  obtain ⟨od', J', _⟩ := J'.look
  refine PySem.W.cmp_ofNotEq (ne_K (by omega) I.kIn J J'.type hm hn hs hf (wpAny_mono (wpAny_call (run_fnR1 (us := [.ref a, .ref b]) (vs := [.ref a, .ref b]) F hr hx I (.cons rfl (.cons rfl .nil)) q)) (fun w s' z => ?_) fun _ _ x => x))
  obtain ⟨z', H', I', rz, k, rfl, q'⟩ := z
  exact ⟨k, rz, .bl (!k), H', I', rfl, q'⟩
end
end R1

/-! isinstance(e, T), e a caught error with fields, T a class of the interpreter's own -/
namespace R1
open PySem PySem.Spec PyProof.Rows L2
def rIsXT (K : PySem.W.Frag) (D a : Addr) (cls : Value) (d : Option Addr) : List V → Hp → VK → Prop := fun xs H Q => ∃ (t : String) (b : Bool) (dd : Addr) (fs : List (Str × V)), cls = .ref D ∧ d = some dd ∧ H dd = some (.xd fs) ∧ xs = [.ref a, .ty t] ∧ PySem.W.kitOne K (.ref D) (.type t) = some b ∧ Q (.bl b) H
theorem call_isXT {X : Cx} {K : PySem.W.Frag} {a D : Addr} {oe : Obj} {cls : Value} {d : Option Addr} {pn : List (Addr × Obj)} (hK : X.K = K) (C : ExcC K D) (hz : Zc cls d oe) (hf : ∃ vs, oe.data = .fields vs) : CallR (X.suite a ((a, oe) :: pn)) (.builtin "isinstance") (rIsXT K D a cls d) := by
  subst hK
  intro pins s σ H xs us Q I r h
  obtain ⟨c, b, dd, fs, rfl, rfl, ea, rfl, e, q⟩ := h
  obtain ⟨u1, u2, rfl, r1, r2⟩ := vals2 r
  cases (show u1 = Value.ref a from r1)
  cases (show u2 = Value.type c from r2)
  obtain ⟨hget, _⟩ := I.pin (a, oe) (List.mem_append.mpr (.inl List.mem_cons_self))
  obtain ⟨vs, hd⟩ := hf
  have hx : ObjOk X.prog X.w H s.heap dd (.xd fs) := I.hok dd _ ea
  obtain ⟨mA, hns, hr⟩ := hx
  obtain ⟨od, ho, hl⟩ := lookIn_ns hns
  have J : PySem.W.InstAt s.heap a oe D (some od) := ⟨hget, hz.1, by unfold PySem.W.notCls; rw [hd] <;> rfl, by rw [hz.2]; exact ho⟩
  obtain ⟨cd, hc, _⟩ := PySem.W.any_some C.hd
  exact PySem.W.kia_one (PySem.W.kitx_exc (by rw [hc]; rfl) C.hg C.hk C.hs C.ha C.hn C.ht C.hm) I.kIn J e (fun z => nomatch z) fun tk => ⟨.bl b, H, I.tok tk, rfl, q⟩
end R1

/-! t.count(x), t a tuple of texts; a method of a builtin kind's object, K named -/
namespace RT
open PySem PySem.Spec PyProof.Rows L2
theorem pe_bmK {X : Cx} {K : PySem.W.Frag} {T : String} {name : Str} {id : String} {r : V → List V → Hp → VK → Prop} {o e : Expr} {es : List Expr} {to : TE} {t : TA} {apos cpos : Pos} (hK : X.K = K) (pa : PlainAttrs T) (slot : Slot T name id) (hty : typeOf (.builtin id) = pure (.type "method_descriptor")) (hm : MtR X id r) (ho : PE X o to) (ha : PA X (e :: es) t)
    (hbase : attributeBase o name X.env (eval o X.env) = eval o X.env := by rfl)
    (hfew : ((backTo cpos (starEach (e :: es) X.env)).all (fun x => !x.1) && (backToKw cpos (keywordEach [] X.env)).all (fun x => x.1.isSome)
      && decide ((e :: es).length + ([] : List Keyword).length + (if ([] : List Keyword).isEmpty then 0 else 1) < 30)) = true := by rfl)
    (hline : (apos.endLine == cpos.line) = true := by rfl) (hs : starEach (e :: es) X.env = (false, eval e X.env) :: starEach es X.env := by rfl) (hplain : (backTo cpos (starEach es X.env)).any (·.1) = false := by rfl) :
    PE X (.Call (.Attribute o name apos) (e :: es) [] cpos) (tBM K T r to t) := by subst hK; exact pe_bm pa slot hty hm ho ha hbase hfew hline hs hplain
def rTCnt (K : PySem.W.Frag) : V → List V → Hp → VK → Prop := fun x xs H Q => ∃ (p : Addr) (ys : List Str) (z : Str), x = .ref p ∧ xs = [.str z] ∧ SqT K H p (ys.map V.str) ∧ Q (.int (ys.count z : Nat)) H
theorem countP_str {z : Str} : ∀ {ys : List Str} {us : List Value}, Vals (ys.map V.str) us → us.countP (eqU (.str z)) = ys.count z
  | [], _, .nil => rfl
  | y :: ys, _, .cons r t => by
    obtain ⟨k, rfl⟩ := r
    rw [List.countP_cons, List.count_cons, countP_str t]
    rfl
theorem mt_tcount {X : Cx} {K : PySem.W.Frag} (hK : X.K = K) : MtR X "tuple.count" (rTCnt K) := by
  subst hK
  intro pins s σ H x xs v us Q I rx rs h
  obtain ⟨p, ys, z, rfl, rfl, hq, q⟩ := h
  cases rx
  obtain ⟨u, rfl, t, rfl⟩ := vals1 rs
  obtain ⟨its, r, pl, hz⟩ := I.tuple hq
  obtain ⟨⟨cls, dd, dt, sl⟩, ho, hc, n, hd⟩ := pl
  simp only at hc hd
  subst hc
  subst hd
  refine call_meets PySem.F.slot_tuple_count ⟨_, ho, rfl⟩ PySem.F.entry_tuple_count (PySem.F.args_tuple_count_2 _ _) (SeqAt.tuple_countAt p its.toArray n dd sl (.str z t) (eqU (.str z)))
    ⟨ho, fun w hw => mem_eqAt (x := .str z) ⟨t, rfl⟩ rfl r (flat_strs ys) w (by simpa using hw), ?_⟩
  have ec : its.toArray.toList.countP (eqU (.str z)) = ys.count z := countP_str r
  rw [ec]
  exact ⟨.int (ys.count z : Nat), H, I.tok _, ⟨_, rfl⟩, q⟩
end RT

/-! kinds of blocks and colors of blocks: the mathematics -/
namespace K21
open PySem L2
def rowsB {α : Type} (ks : List α) : Nat → List (List α)
  | 0 => [[]]
  | n + 1 => (rowsB ks n).flatMap fun r => ks.map fun k => r ++ [k]
theorem rowsB_mem {α : Type} {ks : List α} : ∀ {n : Nat} {r : List α}, r ∈ rowsB ks n → r.length = n ∧ ∀ k ∈ r, k ∈ ks
  | 0, r, h => by
    rw [List.mem_singleton.mp h]
    exact ⟨rfl, fun k hk => nomatch hk⟩
  | n + 1, r, h => by
    obtain ⟨q, hq, hr⟩ := List.mem_flatMap.mp h
    obtain ⟨k, hk, rfl⟩ := List.mem_map.mp hr
    obtain ⟨a, b⟩ := rowsB_mem hq
    refine ⟨by simp [a], fun j hj => ?_⟩
    rcases List.mem_append.mp hj with z | z
    · exact b j z
    · rw [List.mem_singleton.mp z]; exact hk
theorem flat_len {α β : Type} (f : α → List β) (c : Nat) : ∀ (l : List α), (∀ x ∈ l, (f x).length = c) → (l.flatMap f).length = l.length * c
  | [], _ => by simp
  | x :: l, h => by
    rw [List.flatMap_cons, List.length_append, h x List.mem_cons_self, flat_len f c l fun y hy => h y (List.mem_cons_of_mem _ hy), List.length_cons, Nat.add_mul]
    omega
theorem rowsB_len {α : Type} (ks : List α) : ∀ n, (rowsB ks n).length = ks.length ^ n
  | 0 => rfl
  | n + 1 => by
    show ((rowsB ks n).flatMap fun r => ks.map fun k => r ++ [k]).length = _
    rw [flat_len _ ks.length _ fun r _ => by simp, rowsB_len ks n, Nat.pow_succ]
theorem rowsB_small {α : Type} {ks : List α} (h : ks.length ≤ 3) {n : Nat} (hn : n ≤ 3) : (rowsB ks n).length ≤ 27 := by
  rw [rowsB_len]
  calc ks.length ^ n ≤ 3 ^ n := Nat.pow_le_pow_left h n
    _ ≤ 3 ^ 3 := Nat.pow_le_pow_right (by omega) hn
    _ = 27 := rfl
theorem rowsB_map {α β : Type} (f : α → β) (ks : List α) : ∀ n, rowsB (ks.map f) n = (rowsB ks n).map (List.map f)
  | 0 => rfl
  | n + 1 => by
    show ((rowsB (ks.map f) n).flatMap fun r => (ks.map f).map fun k => r ++ [k]) = ((rowsB ks n).flatMap fun r => ks.map fun k => r ++ [k]).map (List.map f)
    rw [rowsB_map f ks n, List.flatMap_map, List.map_flatMap]
    congr 1
    funext r
    rw [List.map_map, List.map_map]
    congr 1
    funext k
    simp
theorem rowsB_pos {α : Type} {ks : List α} (h : 0 < ks.length) : ∀ n, 0 < (rowsB ks n).length := fun n => by
  rw [rowsB_len]; exact Nat.pow_pos h
/-! ### kinds within their counts -/
abbrev KR := List (Str × Int)
def fitB (own : List Str) (p : Str × Int) : Bool := decide (p.2 = 0) || decide (((own.count p.1 : Nat) : Int) < p.2)
def fillS (rows : KR) : Nat → List (List Str)
  | 0 => [[]]
  | n + 1 => (fillS rows n).flatMap fun own => (rows.filter (fitB own)).map fun p => own ++ [p.1]
def capB (own : List Str) (p : Str × Int) : Bool := !(decide (0 < p.2) && decide (p.2 < ((own.count p.1 : Nat) : Int)))
def capOk (rows : KR) (own : List Str) : Bool := rows.all (capB own)
theorem nodup_inj {α β : Type} (f : α → β) : ∀ {l : List α}, (l.map f).Nodup → ∀ x ∈ l, ∀ y ∈ l, f x = f y → x = y
  | [], _, x, hx, _, _, _ => nomatch hx
  | z :: l, h, x, hx, y, hy, e => by
    rw [List.map_cons, List.nodup_cons] at h
    rcases List.mem_cons.mp hx with ex | hx1
    · rcases List.mem_cons.mp hy with ey | hy1
      · rw [ex, ey]
      · rw [ex] at e
        exact absurd (e ▸ List.mem_map_of_mem hy1) h.1
    · rcases List.mem_cons.mp hy with ey | hy1
      · rw [ey] at e
        exact absurd (e ▸ List.mem_map_of_mem hx1) h.1
      · exact nodup_inj f h.2 x hx1 y hy1 e
theorem capB_mono {own : List Str} {k : Str} {p : Str × Int} (h : capB own p = false) : capB (own ++ [k]) p = false := by
  unfold capB at h ⊢
  rw [Bool.not_eq_false', Bool.and_eq_true, decide_eq_true_eq, decide_eq_true_eq] at h ⊢
  refine ⟨h.1, ?_⟩
  have : own.count p.1 ≤ (own ++ [k]).count p.1 := by rw [List.count_append]; omega
  omega
theorem cap_step {rows : KR} (nd : (rows.map Prod.fst).Nodup) (nn : ∀ p ∈ rows, 0 ≤ p.2) {own : List Str} (h : capOk rows own = true) {p : Str × Int} (hp : p ∈ rows) : capOk rows (own ++ [p.1]) = fitB own p := by
  unfold capOk at h ⊢
  have h1 := List.all_eq_true.mp h
  have c1 : (own ++ [p.1]).count p.1 = own.count p.1 + 1 := by rw [List.count_append]; simp
  have n0 := nn p hp
  rw [Bool.eq_iff_iff, List.all_eq_true]
  constructor
  · intro g
    have gp := g p hp
    unfold capB at gp
    unfold fitB
    rw [c1] at gp
    rw [Bool.or_eq_true, decide_eq_true_eq, decide_eq_true_eq]
    rw [Bool.not_eq_true', Bool.and_eq_false_iff, decide_eq_false_iff_not, decide_eq_false_iff_not] at gp
    omega
  · intro g q hq
    by_cases e : q.1 = p.1
    · have : q = p := nodup_inj Prod.fst nd q hq p hp e
      subst this
      unfold capB
      unfold fitB at g
      rw [c1]
      rw [Bool.or_eq_true, decide_eq_true_eq, decide_eq_true_eq] at g
      rw [Bool.not_eq_true', Bool.and_eq_false_iff, decide_eq_false_iff_not, decide_eq_false_iff_not]
      omega
    · have c2 : (own ++ [p.1]).count q.1 = own.count q.1 := by
        rw [List.count_append, List.count_singleton]
        have : (p.1 == q.1) = false := by
          rw [beq_eq_false_iff_ne]; exact fun z => e z.symm
        simp [this]
      have := h1 q hq
      unfold capB at this ⊢
      rw [c2]; exact this
theorem filter_flat {α β : Type} (c : α → Bool) (f : α → List β) : ∀ l : List α, (l.filter c).flatMap f = l.flatMap fun r => if c r = true then f r else []
  | [] => rfl
  | x :: l => by
    rw [List.filter_cons, List.flatMap_cons]
    by_cases e : c x = true
    · rw [if_pos e, if_pos e, List.flatMap_cons, filter_flat c f l]
    · rw [if_neg e, if_neg e, filter_flat c f l]; rfl
theorem flat_filter {α β : Type} (c : β → Bool) (f : α → List β) : ∀ l : List α, (l.flatMap f).filter c = l.flatMap fun r => (f r).filter c
  | [] => rfl
  | x :: l => by rw [List.flatMap_cons, List.filter_append, flat_filter c f l, List.flatMap_cons]
theorem filter_map' {α β : Type} (c : β → Bool) (f : α → β) (d : α → Bool) : ∀ l : List α, (∀ x ∈ l, c (f x) = d x) → (l.map f).filter c = (l.filter d).map f
  | [], _ => rfl
  | x :: l, h => by
    have ih := filter_map' c f d l fun y hy => h y (List.mem_cons_of_mem _ hy)
    rw [List.map_cons, List.filter_cons, List.filter_cons, h x List.mem_cons_self]
    by_cases e : d x = true
    · rw [if_pos e, if_pos e, List.map_cons, ih]
    · rw [if_neg e, if_neg e, ih]
theorem fill_eq {rows : KR} (nd : (rows.map Prod.fst).Nodup) (nn : ∀ p ∈ rows, 0 ≤ p.2) : ∀ n, fillS rows n = (rowsB (rows.map Prod.fst) n).filter (capOk rows)
  | 0 => by
    have e : capOk rows [] = true := List.all_eq_true.mpr fun p hp => by
      have := nn p hp
      unfold capB
      rw [Bool.not_eq_true', Bool.and_eq_false_iff, decide_eq_false_iff_not, decide_eq_false_iff_not]
      simp
      omega
    show [[]] = List.filter (capOk rows) [[]]
    rw [List.filter_cons, if_pos e]; rfl
  | n + 1 => by
    show ((fillS rows n).flatMap fun own => (rows.filter (fitB own)).map fun p => own ++ [p.1]) = ((rowsB (rows.map Prod.fst) n).flatMap fun r => (rows.map Prod.fst).map fun k => r ++ [k]).filter (capOk rows)
    rw [fill_eq nd nn n, filter_flat, flat_filter]
    congr 1
    funext r
    rw [List.map_map]
    by_cases e : capOk rows r = true
    · rw [if_pos e]
      exact (filter_map' (capOk rows) _ (fitB r) rows fun p hp => cap_step nd nn e hp).symm
    · rw [if_neg e]
      symm
      rw [List.filter_eq_nil_iff]
      intro x hx
      obtain ⟨p, hp, rfl⟩ := List.mem_map.mp hx
      have e2 : capOk rows r = false := Bool.eq_false_iff.mpr e
      unfold capOk at e2
      rw [List.all_eq_false] at e2
      obtain ⟨q, hq, hc⟩ := e2
      have hc2 : capB r q = false := Bool.eq_false_iff.mpr hc
      intro z
      have := List.all_eq_true.mp z q hq
      rw [show ((fun k => r ++ [k]) ∘ Prod.fst) p = r ++ [p.1] from rfl, capB_mono hc2] at this
      cases this
/-- the size that a kinds card asks for -/
def ksz (rows : KR) : Int := if rows.any (fun p => decide (p.2 = 0)) = true then 3 else (rows.map Prod.snd).sum
/-! ### marks and cells -/
def ivals (ms : List Nat) : List Int := ms.map fun (n : Nat) => (n : Int)
def nvals (ms : List Nat) : List V := ms.map fun (n : Nat) => V.int (n : Int)
theorem nvals_i (ms : List Nat) : nvals ms = (ivals ms).map V.int := by
  unfold nvals ivals; rw [List.map_map]; rfl
def blk (ms : List Nat) : Nat := (R0.maxL (-1) (ivals ms) + 1).toNat
def nextP (ms : List Nat) : List (List Nat) := (List.range (blk ms + 1)).map fun m => ms ++ [m]
def parts : Nat → List (List Nat)
  | 0 => [[]]
  | n + 1 => (parts n).flatMap nextP
structure MkOk (n : Nat) (ms : List Nat) : Prop where
  len : ms.length = n
  le : blk ms ≤ 3
  lt : ∀ m ∈ ms, m < blk ms
  ds : (R1.dist (ivals ms)).length = blk ms
  mx : R0.maxL (-1) (ivals ms) + 1 = (blk ms : Int)
def mkB (n : Nat) (ms : List Nat) : Bool := decide (ms.length = n) && decide (blk ms ≤ 3) && ms.all (fun m => decide (m < blk ms)) && decide ((R1.dist (ivals ms)).length = blk ms) && decide (R0.maxL (-1) (ivals ms) + 1 = (blk ms : Int))
theorem mkB_ok {n : Nat} {ms : List Nat} (h : mkB n ms = true) : MkOk n ms := by
  unfold mkB at h
  simp only [Bool.and_eq_true, decide_eq_true_eq, List.all_eq_true] at h
  exact ⟨h.1.1.1.1, h.1.1.1.2, h.1.1.2, h.1.2, h.2⟩
theorem parts_all : (List.range 4).all (fun k => decide ((parts k).length ≤ 5) && (parts k).all (mkB k)) = true := by decide +kernel
theorem parts_ok {n : Nat} (h : n ≤ 3) : (parts n).length ≤ 5 ∧ ∀ r ∈ parts n, MkOk n r := by
  have := List.all_eq_true.mp parts_all n (List.mem_range.mpr (by omega))
  rw [Bool.and_eq_true] at this
  exact ⟨of_decide_eq_true this.1, fun r hr => mkB_ok (List.all_eq_true.mp this.2 r hr)⟩
def cellsS (ps : List (List Nat)) (s : Nat) : List (Nat × List Nat) := (ps.filter fun ms => decide (blk ms ≤ s)).map fun ms => (s, ms)
def cellsN (n : Nat) : List (Nat × List Nat) := ([1, 2, 3] : List Nat).flatMap (cellsS (parts n))
theorem cellsS_len (ps : List (List Nat)) (s : Nat) : (cellsS ps s).length ≤ ps.length := by
  unfold cellsS; rw [List.length_map]; exact List.length_filter_le _ _
theorem cells_all : (List.range 4).all (fun k => decide (0 < (cellsN k).length) && decide ((cellsN k).length ≤ 15) && (cellsN k).all fun c => mkB k c.2) = true := by decide +kernel
theorem cells_ok {n : Nat} (h : n ≤ 3) : 0 < (cellsN n).length ∧ (cellsN n).length ≤ 15 ∧ ∀ c ∈ cellsN n, MkOk n c.2 := by
  have := List.all_eq_true.mp cells_all n (List.mem_range.mpr (by omega))
  rw [Bool.and_eq_true, Bool.and_eq_true] at this
  exact ⟨of_decide_eq_true this.1.1, of_decide_eq_true this.1.2, fun r hr => mkB_ok (List.all_eq_true.mp this.2 r hr)⟩
/-! ### where a name stands -/
def ixS : List Str → Str → Nat
  | [], _ => 0
  | y :: ys, z => if y = z then 0 else ixS ys z + 1
theorem ixS_get {z : Str} : ∀ {ys : List Str}, z ∈ ys → ys[ixS ys z]? = some z ∧ ∀ m, m < ixS ys z → ys[m]? ≠ some z
  | [], h => nomatch h
  | y :: ys, h => by
    by_cases e : y = z
    · subst e
      rw [show ixS (y :: ys) y = 0 from if_pos rfl]
      exact ⟨rfl, fun m hm => absurd hm (Nat.not_lt_zero _)⟩
    · have hz : z ∈ ys := (List.mem_cons.mp h).elim (fun q => absurd q.symm e) id
      obtain ⟨a, b⟩ := ixS_get hz
      rw [show ixS (y :: ys) z = ixS ys z + 1 from if_neg e]
      refine ⟨by simpa using a, fun m hm => ?_⟩
      cases m with
      | zero => intro q; exact e (Option.some.inj q)
      | succ m =>
        intro q
        exact b m (by omega) (by simpa using q)
/-- the block of a name -/
def bk (nm : List Str) (ms : List Nat) (z : Str) : Nat := ms.getD (ixS nm z) 0
theorem bk_get {n : Nat} {nm : List Str} {ms : List Nat} (h : MkOk n ms) (l : nm.length = n) {z : Str} (hz : z ∈ nm) : ms[ixS nm z]? = some (bk nm ms z) ∧ bk nm ms z < blk ms := by
  obtain ⟨a, _⟩ := ixS_get hz
  have hi : ixS nm z < ms.length := by
    rw [h.len, ← l]
    exact (List.getElem?_eq_some_iff.mp a).1
  have e : ms[ixS nm z]? = some (bk nm ms z) := by
    unfold bk
    rw [List.getD_eq_getElem?_getD, List.getElem?_eq_getElem hi]; rfl
  exact ⟨e, h.lt _ (List.mem_of_getElem? e)⟩
/-! ### what holds -/
def kT (nm : List Str) (ms : List Nat) (own : List Str) (z k : Str) : Bool := decide (own[bk nm ms z]? = some k)
def rT (c : Int) (nm : List Str) (ms : List Nat) (own : List Int) (x y : Str) (s : Int) : Bool := decide ((own.getD (bk nm ms x) 0 + s) % c = own.getD (bk nm ms y) 0)
structure KL where
  o : Str
  z : Str
  k : Str
  b : Bool
structure RL where
  o : Str
  x : Str
  y : Str
  s : Int
  b : Bool
def KL.holds (nm : List Str) (ms : List Nat) (own : List Str) (l : KL) : Bool := kT nm ms own l.z l.k == l.b
def RL.holds (c : Int) (nm : List Str) (ms : List Nat) (own : List Int) (l : RL) : Bool := rT c nm ms own l.x l.y l.s == l.b
/-- all own parts -/
def kParts (rows : KR) (s : Nat) (ms : List Nat) : List (List Str) := (rowsB (rows.map Prod.fst) (blk ms)).filter fun own => capOk rows own && decide ((s : Int) = ksz rows)
def rParts (c : Nat) (ms : List Nat) : List (List Int) := rowsB ((List.range c).map fun (i : Nat) => (i : Int)) (blk ms)
theorem kParts_eq {rows : KR} (nd : (rows.map Prod.fst).Nodup) (nn : ∀ p ∈ rows, 0 ≤ p.2) (s : Nat) (ms : List Nat) (f : List Str → Bool) : (if (s : Int) = ksz rows then (fillS rows (blk ms)).filter f else []) = (kParts rows s ms).filter f := by
  unfold kParts
  by_cases e : (s : Int) = ksz rows
  · rw [if_pos e, fill_eq nd nn]
    congr 1
    exact List.filter_congr fun x _ => by simp [e]
  · rw [if_neg e]
    have : (rowsB (rows.map Prod.fst) (blk ms)).filter (fun own => capOk rows own && decide ((s : Int) = ksz rows)) = [] := by
      rw [List.filter_eq_nil_iff]; intro x _; simp [e]
    rw [this]; rfl
end K21

/-! tuples whose object is known: displays, t + u, t.index(x), t.count(x) -/
namespace RT
open PySem PySem.Spec PyProof.Rows L2 RN
section
variable {X : Cx} {K : PySem.W.Frag}
def tTupF (t : TA) : TE := fun σ H Q => t σ H fun xs H1 => xs.length ≤ sizeLine ∧ ∀ (p : Addr) (o : Obj), H1 p = none → o.dict = none → Q (.ref p) (upd H1 p (.frz o (.tup xs)))
theorem pe_tupF {es : List Expr} {t : TA} {x1} {pos : Pos} (h : PA X es t) : PE X (.Tuple es x1 pos) (tTupF t) := by
  refine ⟨fun pins s σ H Q I hq => ?_⟩
  refine wpAny_Tuple_spliced (thn (h.run pos pins s σ H _ I hq) fun us s1 ⟨xs, H1, I1, r, z, q⟩ => ⟨by rw [← r.length]; exact z, ?_⟩)
  have hf : H1 s1.heap.objs.size = none := I1.hok.fresh (Nat.le_refl _)
  refine ⟨.ref s1.heap.objs.size, upd H1 s1.heap.objs.size (.frz { cls := .type "tuple", data := .seq us.toArray } (.tup xs)), I1.laid (t' := s1.toks) (fun b u e => Heap.get?_push_of_some _ e) (Nat.le_refl _) ?_, rfl, q _ _ hf ?_⟩
  · exact ⟨Heap.get?_push_size _ rfl, z, us, r, ⟨_, Heap.get?_push_size _ rfl, rfl, _, rfl⟩⟩
  · rfl
def rCatF : R2 := fun x y H Q => ∃ a b xs ys, x = .ref a ∧ y = .ref b ∧ FrzT H a xs ∧ FrzT H b ys ∧ xs.length + ys.length ≤ sizeLine ∧ ∀ p H', Same H H' → FrzT H' p (xs ++ ys) → Q (.ref p) H'
theorem _root_.RN.FrzT.sq {H : Hp} {a : Addr} {xs : List V} (h : FrzT H a xs) : SqT K H a xs := let ⟨o, _, e⟩ := h; .inl (.inr ⟨o, e⟩)
theorem _root_.RN.FrzT.same {H H' : Hp} {a : Addr} {xs : List V} (s : Same H H') (h : FrzT H a xs) : FrzT H' a xs := let ⟨o, d, e⟩ := h; ⟨o, d, s _ _ e⟩
theorem op_catF : OpR X (binaryOp .Add) rCatF := by
  intro pins s σ H x y v u Q I rx ry h
  obtain ⟨a, b, xs, ys, rfl, rfl, ha, hb, hz, q⟩ := h
  cases rx
  cases ry
  obtain ⟨its, r1, p1, _⟩ := I.tuple (RN.FrzT.sq (K := X.K) ha)
  obtain ⟨its2, r2, p2, _⟩ := I.tuple (RN.FrzT.sq (K := X.K) hb)
  by_cases hv : its = []
  · have ex := r1.nil_iff.mp hv
    subst ex
    obtain ⟨⟨cls, dd, data, sl⟩, ho, hc, n, hd⟩ := id p1
    obtain ⟨⟨cls2, dd2, data2, sl2⟩, ho2, hc2, n2, hd2⟩ := id p2
    simp only at hc hd hc2 hd2
    subst hc hd hc2 hd2
    refine concat_meets ⟨_, ho, rfl⟩ ⟨_, ho2, rfl⟩ noFill_tuple_add seq_tuple_add PySem.F.slot_tuple_add PySem.F.entry_tuple_add (PySem.F.args_tuple_add_2 _ _)
      (tuple_addW0 a b its.toArray its2.toArray n n2 dd dd2 sl sl2 (by simp [hv])) ⟨ho, ho2, ⟨.ref b, H, I, rfl, q b H (fun _ _ e => e) hb⟩⟩
  · have nx : xs ≠ [] := fun z => hv (r1.nil_iff.mpr z)
    refine HT.cat_tup p1 p2 hv (fun z => ⟨.ref a, H, I, rfl, q a H (fun _ _ e => e) (by rw [r2.nil_iff.mp z, List.append_nil]; exact ha)⟩) (fun z => ?_) (by rw [← r1.length, ← r2.length]; exact hz)
    have hf := I.hok.fresh (Nat.le_refl s.heap.objs.size)
    refine ⟨.ref s.heap.objs.size, _, I.laid (t' := s.toks) (o := .frz { cls := .type "tuple", data := .seq (its ++ its2).toArray } (.tup (xs ++ ys))) (fun b ob q => Heap.get?_push_of_some _ q) (Nat.le_refl _) ?_, rfl, q _ _ (fun b o e => by rw [upd_ne (ne_of_none e hf)]; exact e) ⟨_, ?_, upd_same⟩⟩
    · exact ⟨Heap.get?_push_size _ rfl, by rw [List.length_append]; exact hz, _, r1.append r2, IsTup.new _ _⟩
    · rfl
def tBMF (r : V → List V → Hp → VK → Prop) (to : TE) (t : TA) : TE := fun σ H Q => to σ H fun x H1 => (∃ p xs, x = .ref p ∧ FrzT H1 p xs) ∧ t σ H1 fun xs H2 => r x xs H2 Q
theorem pe_bmF {name : Str} {id : String} {r : V → List V → Hp → VK → Prop} {o e : Expr} {es : List Expr} {to : TE} {t : TA} {apos cpos : Pos} (slot : Slot "tuple" name id) (hty : typeOf (.builtin id) = pure (.type "method_descriptor")) (hm : MtR X id r) (ho : PE X o to) (ha : PA X (e :: es) t)
    (hbase : attributeBase o name X.env (eval o X.env) = eval o X.env := by rfl)
    (hfew : ((backTo cpos (starEach (e :: es) X.env)).all (fun x => !x.1) && (backToKw cpos (keywordEach [] X.env)).all (fun x => x.1.isSome)
      && decide ((e :: es).length + ([] : List Keyword).length + (if ([] : List Keyword).isEmpty then 0 else 1) < 30)) = true := by rfl)
    (hline : (apos.endLine == cpos.line) = true := by rfl) (hs : starEach (e :: es) X.env = (false, eval e X.env) :: starEach es X.env := by rfl) (hplain : (backTo cpos (starEach es X.env)).any (·.1) = false := by rfl) :
    PE X (.Call (.Attribute o name apos) (e :: es) [] cpos) (tBMF r to t) := by
  refine ⟨fun pins s σ H Q I h => ?_⟩
  refine wpAny_Call_method_late hbase hfew hline rfl (thn (ho.run pins s σ H _ I h) fun v s1 ⟨x, H1, I1, r1, ⟨p, xs, ex, hp⟩, q1⟩ => ?_)
  subst ex
  cases r1
  obtain ⟨ob, hd, e1⟩ := hp
  obtain ⟨g1, _, its, _, ⟨o2, g2, c2, _⟩⟩ := I1.hok p _ e1
  have eo : ob = o2 := Option.some.inj (g1.symm.trans g2)
  subst eo
  refine ⟨"tuple", id, PySem.F.plainAttrs_tuple, slot, hty, ⟨ob, g1, c2⟩, fun a ea => by cases ea; exact ⟨ob, g1, hd⟩, ?_⟩
  have hA := ha.run cpos pins s1 σ H1 _ I1 q1
  rw [hs] at hA ⊢
  refine Calls.callWith_builtin (by show (false || (backTo cpos (starEach es X.env)).any (·.1)) = false; rw [hplain] <;> rfl) (Calls.evalArgs_plain ?_)
  exact thn hA fun us s2 ⟨vs, H2, I2, r2, q2⟩ => hm pins s2 σ H2 (.ref p) vs _ us Q I2 rfl r2 q2
def rTIx (K : PySem.W.Frag) : V → List V → Hp → VK → Prop := fun x xs H Q => ∃ p, ∃ ys : List Str, ∃ z j, x = .ref p ∧ xs = [.str z] ∧ SqT K H p (ys.map V.str) ∧ ys[j]? = some z ∧ (∀ m, m < j → ys[m]? ≠ some z) ∧ Q (.int (j : Nat)) H
theorem mt_tindex (hK : X.K = K) : MtR X "tuple.index" (rTIx K) := by subst hK; exact mt_tup_index
end
end RT

namespace K21
open PySem PySem.Spec PyProof.Rows L2
def topS (i : Nat) : Stmt := PySem.Challenge.pw_onelooker_k21_kinds_and_ring_parts.main.body.getD i (.Pass ⟨0, 0, 0, 0⟩)
abbrev s_block_count : Stmt := topS 2
theorem sc_block_count : FnScope ["marks"] ["marks"] (defScope s_block_count) := ⟨rfl, rfl, rfl, by decide +kernel, rfl, by decide +kernel, by decide +kernel⟩
abbrev s_block_of : Stmt := topS 4
theorem sc_block_of : FnScope ["names", "cell", "name"] ["names", "cell", "name"] (defScope s_block_of) := ⟨rfl, rfl, rfl, by decide +kernel, rfl, by decide +kernel, by decide +kernel⟩
abbrev s_kinds_size : Stmt := topS 5
theorem sc_kinds_size : FnScope ["card", "counts", "_", "count"] ["card"] (defScope s_kinds_size) := ⟨rfl, rfl, rfl, by decide +kernel, rfl, by decide +kernel, by decide +kernel⟩
abbrev s_kinds_truth : Stmt := topS 6
theorem sc_kinds_truth : FnScope ["card", "names", "cell", "own", "atom"] ["card", "names", "cell", "own", "atom"] (defScope s_kinds_truth) := ⟨rfl, rfl, rfl, by decide +kernel, rfl, by decide +kernel, by decide +kernel⟩
abbrev s_fillings : Stmt := topS 7
theorem sc_fillings : FnScope ["counts", "blocks", "found", "_", "own", "kind", "count"] ["counts", "blocks"] (defScope s_fillings) := ⟨rfl, rfl, rfl, by decide +kernel, rfl, by decide +kernel, by decide +kernel⟩
abbrev s_kinds_parts : Stmt := topS 8
theorem sc_kinds_parts : FnScope ["card", "names", "literals", "cell", "own", "atom", "sign"] ["card", "names", "literals", "cell"] (defScope s_kinds_parts) := ⟨rfl, rfl, rfl, by decide +kernel, rfl, by decide +kernel, by decide +kernel⟩
abbrev s_ring_truth : Stmt := topS 10
theorem sc_ring_truth : FnScope ["card", "names", "cell", "own", "atom", "start", "end"] ["card", "names", "cell", "own", "atom"] (defScope s_ring_truth) := ⟨rfl, rfl, rfl, by decide +kernel, rfl, by decide +kernel, by decide +kernel⟩
abbrev s_colorings : Stmt := topS 11
theorem sc_colorings : FnScope ["colors", "blocks", "found", "_", "own", "color"] ["colors", "blocks"] (defScope s_colorings) := ⟨rfl, rfl, rfl, by decide +kernel, rfl, by decide +kernel, by decide +kernel⟩
abbrev s_ring_parts : Stmt := topS 12
theorem sc_ring_parts : FnScope ["card", "names", "literals", "cell", "own", "atom", "sign"] ["card", "names", "literals", "cell"] (defScope s_ring_parts) := ⟨rfl, rfl, rfl, by decide +kernel, rfl, by decide +kernel, by decide +kernel⟩
abbrev s_l_state : Stmt := topS 14
theorem sc_l_state : FnScope ["_law_script"] ["_law_script"] (defScope s_l_state) := ⟨rfl, rfl, rfl, by decide +kernel, rfl, by decide +kernel, by decide +kernel⟩
abbrev s_l_draw : Stmt := topS 15
theorem sc_l_draw : FnScope ["_law_state_here", "_law_many", "_law_cell", "_law_found", "_law_mixed"] ["_law_state_here", "_law_many"] (defScope s_l_draw) := ⟨rfl, rfl, rfl, by decide +kernel, rfl, by decide +kernel, by decide +kernel⟩
abbrev s_l_alike : Stmt := topS 16
theorem sc_l_alike : FnScope ["_law_actual", "_law_due", "_law_k"] ["_law_actual", "_law_due"] (defScope s_l_alike) := ⟨rfl, rfl, rfl, by decide +kernel, rfl, by decide +kernel, by decide +kernel⟩
abbrev s_l_names : Stmt := topS 17
theorem sc_l_names : FnScope ["_law_state_here", "_law_count", "_law_style", "_law_at", "_law_names_here", "_law_k"] ["_law_state_here", "_law_count"] (defScope s_l_names) := ⟨rfl, rfl, rfl, by decide +kernel, rfl, by decide +kernel, by decide +kernel⟩
abbrev s_l_marks : Stmt := topS 18
theorem sc_l_marks : FnScope ["_law_count", "_law_rows", "_law_k", "_law_wider", "_law_row", "_law_mark"] ["_law_count"] (defScope s_l_marks) := ⟨rfl, rfl, rfl, by decide +kernel, rfl, by decide +kernel, by decide +kernel⟩
abbrev s_l_cells : Stmt := topS 19
theorem sc_l_cells : FnScope ["_law_count", "_law_cells_here", "_law_size_here", "_law_marks_here"] ["_law_count"] (defScope s_l_cells) := ⟨rfl, rfl, rfl, by decide +kernel, rfl, by decide +kernel, by decide +kernel⟩
abbrev s_l_kinds_card : Stmt := topS 20
theorem sc_l_kinds_card : FnScope ["_law_state_here", "_law_form", "_law_many", "_law_endless", "_law_rows", "_law_at", "_law_count"] ["_law_state_here"] (defScope s_l_kinds_card) := ⟨rfl, rfl, rfl, by decide +kernel, rfl, by decide +kernel, by decide +kernel⟩
abbrev s_l_order_right : Stmt := topS 21
theorem sc_l_order_right : FnScope ["_law_pairs", "_law_first", "_law_second"] ["_law_pairs"] (defScope s_l_order_right) := ⟨rfl, rfl, rfl, by decide +kernel, rfl, by decide +kernel, by decide +kernel⟩
abbrev s_l_orders : Stmt := topS 22
theorem sc_l_orders : FnScope ["_law_blocks", "_law_rows", "_law_low", "_law_high", "_law_row"] ["_law_blocks"] (defScope s_l_orders) := ⟨rfl, rfl, rfl, by decide +kernel, rfl, by decide +kernel, by decide +kernel⟩
abbrev s_l_kinds_right : Stmt := topS 23
theorem sc_l_kinds_right : FnScope ["_law_card", "_law_cell", "_law_own", "_law_size_here", "_law_pair"] ["_law_card", "_law_cell", "_law_own"] (defScope s_l_kinds_right) := ⟨rfl, rfl, rfl, by decide +kernel, rfl, by decide +kernel, by decide +kernel⟩
abbrev s_l_parts : Stmt := topS 24
theorem sc_l_parts : FnScope ["_law_card", "_law_cell", "_law_blocks", "_law_k", "_law_signs", "_law_rows", "_law_wider", "_law_row", "_law_sign", "_law_pair"] ["_law_card", "_law_cell"] (defScope s_l_parts) := ⟨rfl, rfl, rfl, by decide +kernel, rfl, by decide +kernel, by decide +kernel⟩
abbrev s_l_holds : Stmt := topS 25
theorem sc_l_holds : FnScope ["_law_card", "_law_names_here", "_law_cell", "_law_own", "_law_literal", "_law_atom", "_law_block", "_law_other"] ["_law_card", "_law_names_here", "_law_cell", "_law_own", "_law_literal"] (defScope s_l_holds) := ⟨rfl, rfl, rfl, by decide +kernel, rfl, by decide +kernel, by decide +kernel⟩
abbrev s_l_all_hold : Stmt := topS 26
theorem sc_l_all_hold : FnScope ["_law_card", "_law_names_here", "_law_cell", "_law_own", "_law_literals", "_law_literal"] ["_law_card", "_law_names_here", "_law_cell", "_law_own", "_law_literals"] (defScope s_l_all_hold) := ⟨rfl, rfl, rfl, by decide +kernel, rfl, by decide +kernel, by decide +kernel⟩
abbrev s_l_good_parts : Stmt := topS 27
theorem sc_l_good_parts : FnScope ["_law_card", "_law_names_here", "_law_cell", "_law_literals", "_law_own"] ["_law_card", "_law_names_here", "_law_cell", "_law_literals"] (defScope s_l_good_parts) := ⟨rfl, rfl, rfl, by decide +kernel, rfl, by decide +kernel, by decide +kernel⟩
abbrev s_l_kinds : Stmt := topS 28
theorem sc_l_kinds : FnScope ["_law_state_here", "_law_card", "_law_texts", "_law_k"] ["_law_state_here"] (defScope s_l_kinds) := ⟨rfl, rfl, rfl, by decide +kernel, rfl, by decide +kernel, by decide +kernel⟩
abbrev s_l_size : Stmt := topS 29
theorem sc_l_size : FnScope ["_law_card", "_law_counts", "_law_pair"] ["_law_card"] (defScope s_l_size) := ⟨rfl, rfl, rfl, by decide +kernel, rfl, by decide +kernel, by decide +kernel⟩
abbrev s_l_drawn : Stmt := topS 30
theorem sc_l_drawn : FnScope ["_law_state_here", "_law_owner", "_law_card", "_law_names_here", "_law_found", "_law_k", "_law_sign", "_law_first", "_law_second"] ["_law_state_here", "_law_owner", "_law_card", "_law_names_here"] (defScope s_l_drawn) := ⟨rfl, rfl, rfl, by decide +kernel, rfl, by decide +kernel, by decide +kernel⟩
abbrev s_l_kind_truths : Stmt := topS 31
theorem sc_l_kind_truths : FnScope ["_law_card", "_law_names_here", "_law_cell", "_law_own", "_law_name", "_law_pair", "_law_due", "_law_atom"] ["_law_card", "_law_names_here", "_law_cell", "_law_own"] (defScope s_l_kind_truths) := ⟨rfl, rfl, rfl, by decide +kernel, rfl, by decide +kernel, by decide +kernel⟩
abbrev s_l_turn_truths : Stmt := topS 32
theorem sc_l_turn_truths : FnScope ["_law_card", "_law_names_here", "_law_cell", "_law_own", "_law_start", "_law_end", "_law_steps", "_law_color", "_law_due", "_law_atom"] ["_law_card", "_law_names_here", "_law_cell", "_law_own"] (defScope s_l_turn_truths) := ⟨rfl, rfl, rfl, by decide +kernel, rfl, by decide +kernel, by decide +kernel⟩
abbrev s_l_cell_right : Stmt := topS 33
theorem sc_l_cell_right : FnScope ["_law_state_here", "_law_card", "_law_ring", "_law_names_here", "_law_cell", "_law_given", "_law_due", "_law_parts_here", "_law_own", "_law_colors"] ["_law_state_here", "_law_card", "_law_ring", "_law_names_here", "_law_cell", "_law_given"] (defScope s_l_cell_right) := ⟨rfl, rfl, rfl, by decide +kernel, rfl, by decide +kernel, by decide +kernel⟩
abbrev s_law : Stmt := topS 34
theorem sc_law : FnScope ["_law_script", "_law_state_here", "_law_names_here", "_law_owner", "_law_card", "_law_ring", "_law_literals", "_law_given", "_law_cells_here", "_law_cell"] ["_law_script"] (defScope s_law) := ⟨rfl, rfl, rfl, by decide +kernel, rfl, by decide +kernel, by decide +kernel⟩
structure Ad where
  f_block_count : Addr
  d_block_count : FuncData
  f_block_of : Addr
  d_block_of : FuncData
  f_kinds_size : Addr
  d_kinds_size : FuncData
  f_kinds_truth : Addr
  d_kinds_truth : FuncData
  f_fillings : Addr
  d_fillings : FuncData
  f_kinds_parts : Addr
  d_kinds_parts : FuncData
  f_ring_truth : Addr
  d_ring_truth : FuncData
  f_colorings : Addr
  d_colorings : FuncData
  f_ring_parts : Addr
  d_ring_parts : FuncData
  f_l_state : Addr
  d_l_state : FuncData
  f_l_draw : Addr
  d_l_draw : FuncData
  f_l_alike : Addr
  d_l_alike : FuncData
  f_l_names : Addr
  d_l_names : FuncData
  f_l_marks : Addr
  d_l_marks : FuncData
  f_l_cells : Addr
  d_l_cells : FuncData
  f_l_kinds_card : Addr
  d_l_kinds_card : FuncData
  f_l_order_right : Addr
  d_l_order_right : FuncData
  f_l_orders : Addr
  d_l_orders : FuncData
  f_l_kinds_right : Addr
  d_l_kinds_right : FuncData
  f_l_parts : Addr
  d_l_parts : FuncData
  f_l_holds : Addr
  d_l_holds : FuncData
  f_l_all_hold : Addr
  d_l_all_hold : FuncData
  f_l_good_parts : Addr
  d_l_good_parts : FuncData
  f_l_kinds : Addr
  d_l_kinds : FuncData
  f_l_size : Addr
  d_l_size : FuncData
  f_l_drawn : Addr
  d_l_drawn : FuncData
  f_l_kind_truths : Addr
  d_l_kind_truths : FuncData
  f_l_turn_truths : Addr
  d_l_turn_truths : FuncData
  f_l_cell_right : Addr
  d_l_cell_right : FuncData
  f_law : Addr
  d_law : FuncData
structure Top (K : PySem.W.Frag) (mg : Str → Option Value) (a : Ad) : Prop where
  F_block_count : Fun K "block_count" "block_count" s_block_count a.f_block_count a.d_block_count
  m_block_count : mg "block_count" = some (.ref a.f_block_count)
  b_block_count : Binds K a.d_block_count ["marks"] []
  F_block_of : Fun K "block_of" "block_of" s_block_of a.f_block_of a.d_block_of
  m_block_of : mg "block_of" = some (.ref a.f_block_of)
  b_block_of : Binds K a.d_block_of ["names", "cell", "name"] []
  F_kinds_size : Fun K "kinds_size" "kinds_size" s_kinds_size a.f_kinds_size a.d_kinds_size
  m_kinds_size : mg "kinds_size" = some (.ref a.f_kinds_size)
  b_kinds_size : Binds K a.d_kinds_size ["card"] []
  F_kinds_truth : Fun K "kinds_truth" "kinds_truth" s_kinds_truth a.f_kinds_truth a.d_kinds_truth
  m_kinds_truth : mg "kinds_truth" = some (.ref a.f_kinds_truth)
  b_kinds_truth : Binds K a.d_kinds_truth ["card", "names", "cell", "own", "atom"] []
  F_fillings : Fun K "_fillings" "_fillings" s_fillings a.f_fillings a.d_fillings
  m_fillings : mg "_fillings" = some (.ref a.f_fillings)
  b_fillings : Binds K a.d_fillings ["counts", "blocks"] []
  F_kinds_parts : Fun K "kinds_parts" "kinds_parts" s_kinds_parts a.f_kinds_parts a.d_kinds_parts
  m_kinds_parts : mg "kinds_parts" = some (.ref a.f_kinds_parts)
  b_kinds_parts : Binds K a.d_kinds_parts ["card", "names", "literals", "cell"] []
  F_ring_truth : Fun K "ring_truth" "ring_truth" s_ring_truth a.f_ring_truth a.d_ring_truth
  m_ring_truth : mg "ring_truth" = some (.ref a.f_ring_truth)
  b_ring_truth : Binds K a.d_ring_truth ["card", "names", "cell", "own", "atom"] []
  F_colorings : Fun K "_colorings" "_colorings" s_colorings a.f_colorings a.d_colorings
  m_colorings : mg "_colorings" = some (.ref a.f_colorings)
  b_colorings : Binds K a.d_colorings ["colors", "blocks"] []
  F_ring_parts : Fun K "ring_parts" "ring_parts" s_ring_parts a.f_ring_parts a.d_ring_parts
  m_ring_parts : mg "ring_parts" = some (.ref a.f_ring_parts)
  b_ring_parts : Binds K a.d_ring_parts ["card", "names", "literals", "cell"] []
  F_l_state : Fun K "_law_state" "_law_state" s_l_state a.f_l_state a.d_l_state
  m_l_state : mg "_law_state" = some (.ref a.f_l_state)
  b_l_state : Binds K a.d_l_state ["_law_script"] []
  F_l_draw : Fun K "_law_draw" "_law_draw" s_l_draw a.f_l_draw a.d_l_draw
  m_l_draw : mg "_law_draw" = some (.ref a.f_l_draw)
  b_l_draw : Binds K a.d_l_draw ["_law_state_here", "_law_many"] []
  F_l_alike : Fun K "_law_alike" "_law_alike" s_l_alike a.f_l_alike a.d_l_alike
  m_l_alike : mg "_law_alike" = some (.ref a.f_l_alike)
  b_l_alike : Binds K a.d_l_alike ["_law_actual", "_law_due"] []
  F_l_names : Fun K "_law_names" "_law_names" s_l_names a.f_l_names a.d_l_names
  m_l_names : mg "_law_names" = some (.ref a.f_l_names)
  b_l_names : Binds K a.d_l_names ["_law_state_here", "_law_count"] []
  F_l_marks : Fun K "_law_marks" "_law_marks" s_l_marks a.f_l_marks a.d_l_marks
  m_l_marks : mg "_law_marks" = some (.ref a.f_l_marks)
  b_l_marks : Binds K a.d_l_marks ["_law_count"] []
  F_l_cells : Fun K "_law_cells" "_law_cells" s_l_cells a.f_l_cells a.d_l_cells
  m_l_cells : mg "_law_cells" = some (.ref a.f_l_cells)
  b_l_cells : Binds K a.d_l_cells ["_law_count"] []
  F_l_kinds_card : Fun K "_law_kinds_card" "_law_kinds_card" s_l_kinds_card a.f_l_kinds_card a.d_l_kinds_card
  m_l_kinds_card : mg "_law_kinds_card" = some (.ref a.f_l_kinds_card)
  b_l_kinds_card : Binds K a.d_l_kinds_card ["_law_state_here"] []
  F_l_order_right : Fun K "_law_order_right" "_law_order_right" s_l_order_right a.f_l_order_right a.d_l_order_right
  m_l_order_right : mg "_law_order_right" = some (.ref a.f_l_order_right)
  b_l_order_right : Binds K a.d_l_order_right ["_law_pairs"] []
  F_l_orders : Fun K "_law_orders" "_law_orders" s_l_orders a.f_l_orders a.d_l_orders
  m_l_orders : mg "_law_orders" = some (.ref a.f_l_orders)
  b_l_orders : Binds K a.d_l_orders ["_law_blocks"] []
  F_l_kinds_right : Fun K "_law_kinds_right" "_law_kinds_right" s_l_kinds_right a.f_l_kinds_right a.d_l_kinds_right
  m_l_kinds_right : mg "_law_kinds_right" = some (.ref a.f_l_kinds_right)
  b_l_kinds_right : Binds K a.d_l_kinds_right ["_law_card", "_law_cell", "_law_own"] []
  F_l_parts : Fun K "_law_parts" "_law_parts" s_l_parts a.f_l_parts a.d_l_parts
  m_l_parts : mg "_law_parts" = some (.ref a.f_l_parts)
  b_l_parts : Binds K a.d_l_parts ["_law_card", "_law_cell"] []
  F_l_holds : Fun K "_law_holds" "_law_holds" s_l_holds a.f_l_holds a.d_l_holds
  m_l_holds : mg "_law_holds" = some (.ref a.f_l_holds)
  b_l_holds : Binds K a.d_l_holds ["_law_card", "_law_names_here", "_law_cell", "_law_own", "_law_literal"] []
  F_l_all_hold : Fun K "_law_all_hold" "_law_all_hold" s_l_all_hold a.f_l_all_hold a.d_l_all_hold
  m_l_all_hold : mg "_law_all_hold" = some (.ref a.f_l_all_hold)
  b_l_all_hold : Binds K a.d_l_all_hold ["_law_card", "_law_names_here", "_law_cell", "_law_own", "_law_literals"] []
  F_l_good_parts : Fun K "_law_good_parts" "_law_good_parts" s_l_good_parts a.f_l_good_parts a.d_l_good_parts
  m_l_good_parts : mg "_law_good_parts" = some (.ref a.f_l_good_parts)
  b_l_good_parts : Binds K a.d_l_good_parts ["_law_card", "_law_names_here", "_law_cell", "_law_literals"] []
  F_l_kinds : Fun K "_law_kinds" "_law_kinds" s_l_kinds a.f_l_kinds a.d_l_kinds
  m_l_kinds : mg "_law_kinds" = some (.ref a.f_l_kinds)
  b_l_kinds : Binds K a.d_l_kinds ["_law_state_here"] []
  F_l_size : Fun K "_law_size" "_law_size" s_l_size a.f_l_size a.d_l_size
  m_l_size : mg "_law_size" = some (.ref a.f_l_size)
  b_l_size : Binds K a.d_l_size ["_law_card"] []
  F_l_drawn : Fun K "_law_drawn" "_law_drawn" s_l_drawn a.f_l_drawn a.d_l_drawn
  m_l_drawn : mg "_law_drawn" = some (.ref a.f_l_drawn)
  b_l_drawn : Binds K a.d_l_drawn ["_law_state_here", "_law_owner", "_law_card", "_law_names_here"] []
  F_l_kind_truths : Fun K "_law_kind_truths" "_law_kind_truths" s_l_kind_truths a.f_l_kind_truths a.d_l_kind_truths
  m_l_kind_truths : mg "_law_kind_truths" = some (.ref a.f_l_kind_truths)
  b_l_kind_truths : Binds K a.d_l_kind_truths ["_law_card", "_law_names_here", "_law_cell", "_law_own"] []
  F_l_turn_truths : Fun K "_law_turn_truths" "_law_turn_truths" s_l_turn_truths a.f_l_turn_truths a.d_l_turn_truths
  m_l_turn_truths : mg "_law_turn_truths" = some (.ref a.f_l_turn_truths)
  b_l_turn_truths : Binds K a.d_l_turn_truths ["_law_card", "_law_names_here", "_law_cell", "_law_own"] []
  F_l_cell_right : Fun K "_law_cell_right" "_law_cell_right" s_l_cell_right a.f_l_cell_right a.d_l_cell_right
  m_l_cell_right : mg "_law_cell_right" = some (.ref a.f_l_cell_right)
  b_l_cell_right : Binds K a.d_l_cell_right ["_law_state_here", "_law_card", "_law_ring", "_law_names_here", "_law_cell", "_law_given"] []
  F_law : Fun K "law" "law" s_law a.f_law a.d_law
  m_law : mg "law" = some (.ref a.f_law)
  b_law : Binds K a.d_law ["_law_script"] []
  m_ENDLESS : ∃ t, mg "ENDLESS" = some (.int 3 t)
  z_all : mg "all" = none
  z_bool : mg "bool" = none
  z_int : mg "int" = none
  z_isinstance : mg "isinstance" = none
  z_len : mg "len" = none
  z_list : mg "list" = none
  z_max : mg "max" = none
  z_range : mg "range" = none
  z_set : mg "set" = none
  z_sorted : mg "sorted" = none
  z_str : mg "str" = none
  z_sum : mg "sum" = none
  z_tuple : mg "tuple" = none
end K21

namespace K21
open PySem PySem.Spec PyProof.Rows L2
section
variable {P : Program} {w : World} {K : PySem.W.Frag} {mg : Str → Option Value} {base : Heap} {a : Ad}
/-- the drawing state at st -/
structure Sta (sc : Addr) (H : Hp) (st : Addr) : Prop where
  ex : ∃ (ns : List Int) (i b s l : Int), sc ≠ st ∧ H st = some (.lst [.ref sc, .int i, .int b, .int s, .int l]) ∧ H sc = some (.lst (ns.map V.int)) ∧ 0 ≤ i ∧ 0 ≤ b ∧ 0 ≤ s ∧ s < 10 ^ 18 ∧ 0 ≤ l ∧ l ≤ 6
/-- all else stays -/
def Kp (st : Addr) (H H' : Hp) : Prop := ∀ b o, b ≠ st → H b = some o → H' b = some o
theorem Kp.refl (st : Addr) (H : Hp) : Kp st H H := fun _ _ _ h => h
theorem Kp.trans {st : Addr} {H H1 H2 : Hp} (x : Kp st H H1) (y : Kp st H1 H2) : Kp st H H2 := fun b o n h => y b o n (x b o n h)
theorem Kp.put {st : Addr} {H H1 : Hp} {o : HO} (x : Kp st H H1) : Kp st H (upd H1 st o) := fun b u n h => by
  rw [upd_ne n]
  exact x b u n h
theorem Same.kp {st : Addr} {H H' : Hp} (h : Same H H') : Kp st H H' := fun b o _ e => h b o e
def spDraw : Sp := fun vs H Q _ => ∃ (sc st : Addr) (m : Int), vs = [.ref st, .int m] ∧ Sta sc H st ∧ 1 ≤ m ∧ m < 2 ^ 60 ∧ ∀ H' v, Kp st H H' → Sta sc H' st → 0 ≤ v → v < m → Q (.int v) H'
theorem ixv {K : PySem.W.Frag} {i : Nat} {p : Addr} {xs : List V} {v : V} {σ : L2.St} {H : Hp} {Q : VK} (j : Nat) (h0 : σ[i]? = some (some (.ref p))) (h : SqL K H p xs) (e : xs[j]? = some v) (q : Q v H) : tOp (rIx K) (tVar i) (tC (.int (j : Int))) σ H Q :=
  ⟨.ref p, h0, .inl ⟨p, xs, j, v, rfl, rfl, h, atI_nat e, q⟩⟩
theorem eqi {K : PySem.W.Frag} {x y : Int} {H : Hp} {Q : Bool → Hp → Prop} (q : Q (decide (x = y)) H) : (fun x y H Q => rEq x y H Q ∨ rEqD K x y H Q) (.int x) (.int y) H (fun z H' => ∃ k, z = .bl k ∧ Q k H') := .inl ⟨rfl, _, rfl, by
  have e : decide (V.int x = V.int y) = decide (x = y) := by
    by_cases h : x = y
    · rw [decide_eq_true h, decide_eq_true (by rw [h])]
    · rw [decide_eq_false h, decide_eq_false (fun z => h (V.int.inj z))]
  rw [e]; exact q⟩
theorem setv {p : Addr} {xs : List V} {v : V} {H : Hp} {Q : Hp → Prop} (j : Nat) (h : H p = some (.lst xs)) (hj : j < xs.length) (q : Q (upd H p (.lst (xs.set j v)))) : rSetL (.ref p) (.int (j : Int)) v H Q := ⟨p, xs, j, j, rfl, rfl, h, by
  unfold ixN
  rw [if_pos (by omega), if_pos (by omega)]
  simp, q⟩
theorem sta_cell {H : Hp} {st : Addr} {xs : List V} {j : Nat} {v : V} (h : H st = some (.lst xs)) (e : xs[j]? = some v) : (∃ (p : Addr) (ys : List V) (i : Int) (u : V), V.ref st = .ref p ∧ V.int (j : Int) = .int i ∧ SqL K H p ys ∧ atI ys i = some u ∧ u = v) := ⟨st, xs, j, v, rfl, rfl, SqL.of h, atI_nat e, rfl⟩
theorem ok_draw (T : Top K mg a) : FnOk P w K mg base CX0 1 a.f_l_draw a.d_l_draw ["_law_state_here", "_law_many"] spDraw := by
  refine T.F_l_draw.ok sc_l_draw (fun vs H Q E h => ?_) (fun cdv A outer s H vs Q E hr h => ?_)
  · obtain ⟨_, st, m, rfl, _⟩ := h
    rfl
  · obtain ⟨sc, st, m, rfl, ⟨ns, i, b, s, l, hne, hst, hsc, hi, hb, hs0, hs1, hl0, hl1⟩, hm0, hm1, q⟩ := h
    refine ⟨_, (pss_cons (ps_if (pt_cmpR (OpR.or op_lt op_lt_str) (pv 1) pe_int (nomark _))
      (pss_one (ps_ret pe_int))
      pss_nil)
    (C8.pss_cut (ps_if (PW.pt (pw_and (pt_cmpR (OpR.or op_eq (op_eqD hr.units)) (pe_ix ix_seq (pv 0) pe_int (fun _ _ => rfl)) pe_int (nomark _)) (pw_and (pt_cmpR (OpR.or op_eq (op_eqD hr.units)) (pe_ix ix_seq (pv 0) pe_int (fun _ _ => rfl)) pe_int (nomark _)) (pw_and1 (pt_cmpR (OpR.or op_lt op_lt_str) (pe_ix ix_seq (pv 0) pe_int (fun _ _ => rfl)) (pe_callB (CallR.or call_len_str call_len_seq) (by rfl) T.z_len (by decide +kernel) (pa_cons (pe_ix ix_seq (pv 0) pe_int (fun _ _ => rfl)) pa_nil)) (nomark _))))))
      (pss_cons (ps_set (i := 2) sc_l_draw.nd rfl (.inl rfl) (pe_ix ix_seq (pe_ix ix_seq (pv 0) pe_int (fun _ _ => rfl)) (pe_ix ix_seq (pv 0) pe_int (fun _ _ => rfl)) (fun _ _ => rfl)))
      (pss_cons (ps_asg (pe_op (OpR.or op_add (OpR.or op_add_str (OpR.or op_cat op_catT))) (pe_ix ix_seq (pv 0) pe_int (fun _ _ => rfl)) pe_int) (pg_sub (pv 0) pe_int set_list))
      (pss_cons (ps_if (pt_cmpR (OpR.or op_lt op_lt_str) (pv 2) pe_int (nomark _))
        (pss_one (ps_set (i := 2) sc_l_draw.nd rfl (.inl rfl) (pe_op op_sub pe_int (pe_op (OpR.or op_mul op_mulW) pe_int (pv 2)))))
        pss_nil)
      (pss_one (ps_if (pt_cmpR (OpR.or op_ge op_ge_str) (pv 2) (pe_op op_pow pe_int pe_int) (nomark _))
        (pss_one (ps_asg (pv 2) (pg_sub (pv 0) pe_int set_list)))
        (pss_cons (ps_asg (pv 2) (pg_sub (pv 0) pe_int set_list))
        (pss_one (ps_asg pe_int (pg_sub (pv 0) pe_int set_list)))))))))
      pss_nil)
    (pss_cons (ps_if (pt_cmpR (OpR.or op_gt op_gt_str) (pe_ix ix_seq (pv 0) pe_int (fun _ _ => rfl)) pe_int (nomark _))
      (pss_cons (ps_set (i := 3) sc_l_draw.nd rfl (.inl rfl) (pe_op op_mod (pe_callTy (CallR.or call_int1 call_int_str) (by rfl) T.z_int (by decide +kernel) (pa_cons (pe_ix ix_seq (pv 0) pe_int (fun _ _ => rfl)) pa_nil)) (pv 1)))
      (pss_cons (ps_asg (pe_op op_fdivW (pe_ix ix_seq (pv 0) pe_int (fun _ _ => rfl)) (pv 1)) (pg_sub (pv 0) pe_int set_list))
      (pss_one (ps_ret (pv 3)))))
      pss_nil)
    (pss_cons (ps_if (pt_cmpR (OpR.or op_gt op_gt_str) (pe_ix ix_seq (pv 0) pe_int (fun _ _ => rfl)) pe_int (nomark _))
      (pss_cons (ps_asg (pe_op op_sub (pe_ix ix_seq (pv 0) pe_int (fun _ _ => rfl)) pe_int) (pg_sub (pv 0) pe_int set_list))
      (pss_cons (ps_set (i := 4) sc_l_draw.nd rfl (.inl rfl) (pe_op op_mod (pe_callTy (CallR.or call_int1 call_int_str) (by rfl) T.z_int (by decide +kernel) (pa_cons (pe_op (OpR.or op_mul op_mulW) (pe_ix ix_seq (pv 0) pe_int (fun _ _ => rfl)) (pe_op (OpR.or op_add (OpR.or op_add_str (OpR.or op_cat op_catT))) pe_int (pe_op (OpR.or op_mul op_mulW) pe_int (pe_ix ix_seq (pv 0) pe_int (fun _ _ => rfl))))) pa_nil)) pe_int))
      (pss_cons (ps_set (i := 4) sc_l_draw.nd rfl (.inl rfl) (pe_op op_mod (pe_callTy (CallR.or call_int1 call_int_str) (by rfl) T.z_int (by decide +kernel) (pa_cons (pe_op (OpR.or op_mul op_mulW) (pv 4) (pe_op (OpR.or op_add (OpR.or op_add_str (OpR.or op_cat op_catT))) pe_int (pe_ix ix_seq (pv 0) pe_int (fun _ _ => rfl)))) pa_nil)) pe_int))
      (pss_one (ps_ret (pe_op op_mod (pe_callTy (CallR.or call_int1 call_int_str) (by rfl) T.z_int (by decide +kernel) (pa_cons (pv 4) pa_nil)) (pv 1)))))))
      pss_nil)
    (pss_one (ps_ret pe_int)))))), ?_⟩
    refine ⟨.int m, rfl, .inl ⟨m, 2, rfl, rfl, _, rfl, ite2 (fun e => ?_) (fun e => ?_)⟩⟩
    · exact q H 0 (Kp.refl _ _) ⟨ns, i, b, s, l, hne, hst, hsc, hi, hb, hs0, hs1, hl0, hl1⟩ (by omega) (by omega)
    · have hm2 : 2 ≤ m := by
        have := of_decide_eq_false (Bool.eq_false_iff.mpr e)
        omega
      refine ⟨fun σ' H' => ∃ y2 y3 y4, σ' = [some (.ref st), some (.int m), y2, y3, y4] ∧ Kp st H H' ∧ Sta sc H' st, ?_, ?_⟩
      · -- load
        have S0 : Sta sc H st := ⟨ns, i, b, s, l, hne, hst, hsc, hi, hb, hs0, hs1, hl0, hl1⟩
        refine ixv 2 rfl (SqL.of hst) rfl (eqi (ite2 (fun e1 => ?_) (fun e1 => ?_)))
        rotate_left
        · exact iteF ⟨_, _, _, rfl, Kp.refl _ _, S0⟩
        refine ixv 4 rfl (SqL.of hst) rfl (eqi (ite2 (fun e2 => ?_) (fun e2 => ?_)))
        rotate_left
        · exact iteF ⟨_, _, _, rfl, Kp.refl _ _, S0⟩
        refine ixv 1 rfl (SqL.of hst) rfl (ixv 0 rfl (SqL.of hst) rfl (.inr ⟨sc, _, rfl, .inl (SqL.of hsc), .inl ⟨i, _, rfl, rfl, _, rfl, ite2 (fun e3 => ?_) (fun e3 => ?_)⟩⟩))
        rotate_left
        · exact ⟨_, _, _, rfl, Kp.refl _ _, S0⟩
        have h3 : i < ns.length := by
          have := of_decide_eq_true e3
          simpa using this
        obtain ⟨j, rfl⟩ : ∃ j : Nat, i = j := ⟨i.toNat, by omega⟩
        have hj : j < ns.length := by omega
        refine ixv 0 rfl (SqL.of hst) rfl (ixv 1 rfl (SqL.of hst) rfl (.inl ⟨sc, _, _, .int ns[j], rfl, rfl, SqL.of hsc, atI_nat (by simp [hj]), ?_⟩))
        refine ixv 1 rfl (SqL.of hst) rfl (.inl ⟨_, 1, rfl, rfl, ?_⟩)
        refine ⟨.ref st, rfl, setv 1 hst (by simp) ?_⟩
        -- the cell, not below 0
        have tail : ∀ (c : Int) (y3 y4 : Option V), 0 ≤ c → tIfS (tTest (tOp (fun x y H Q => rI0 (fun i j => V.bl (decide (j ≤ i))) x y H Q ∨ ∃ i j, x = V.str i ∧ y = V.str j ∧ Q (V.bl (!decide (i.cps.toList < j.cps.toList))) H) (tVar 2) (tOp (rI CPow fun i j => V.int (i ^ j.toNat)) (tC (.int 10)) (tC (.int 18)))))
            (tAsg (tVar 2) (gSub (tVar 0) (tC (.int 2)) rSetL)) (tSeq (tAsg (tVar 2) (gSub (tVar 0) (tC (.int 3)) rSetL)) (tAsg (tC (.int 6)) (gSub (tVar 0) (tC (.int 4)) rSetL)))
            { nx := fun σ' H' => ∃ y2 y3 y4, σ' = [some (.ref st), some (.int m), y2, y3, y4] ∧ Kp st H H' ∧ Sta sc H' st, rt := Q } [some (.ref st), some (.int m), some (.int c), y3, y4] (upd H st (.lst [.ref sc, .int (j + 1), .int b, .int s, .int l])) := by
          intro c y3 y4 hc
          have hsc' : (upd H st (.lst [.ref sc, .int (j + 1), .int b, .int s, .int l])) sc = some (.lst (ns.map V.int)) := by
            rw [upd_ne hne]; exact hsc
          refine ⟨.int c, rfl, 10, 18, rfl, rfl, ⟨by decide, by decide⟩, .inl ⟨c, _, rfl, rfl, _, rfl, ite2 (fun e => ?_) (fun e => ?_)⟩⟩
          · refine ⟨.int c, rfl, .ref st, rfl, setv 2 upd_same (by simp) ?_⟩
            refine ⟨_, _, _, rfl, (Kp.refl _ _).put.put, ns, j + 1, c, s, l, hne, upd_same, ?_, by omega, hc, hs0, hs1, hl0, hl1⟩
            rw [upd_ne hne]; exact hsc'
          · have hlt : c < 10 ^ 18 := by
              have := of_decide_eq_false (Bool.eq_false_iff.mpr e)
              have e18 : (10 : Int) ^ (18 : Int).toNat = 10 ^ 18 := rfl
              rw [e18] at this
              omega
            refine ⟨.int c, rfl, .ref st, rfl, setv 3 upd_same (by simp) ?_⟩
            refine ⟨.ref st, rfl, setv 4 upd_same (by simp) ?_⟩
            refine ⟨_, _, _, rfl, (Kp.refl _ _).put.put.put, ns, j + 1, b, c, 6, hne, upd_same, ?_, by omega, hb, hc, hlt, by omega, by omega⟩
            rw [upd_ne hne, upd_ne hne]; exact hsc'
        refine ⟨.int ns[j], rfl, .inl ⟨_, 0, rfl, rfl, _, rfl, ite2 (fun e => ?_) (fun e => ?_)⟩⟩
        · have hneg : ns[j] < 0 := of_decide_eq_true e
          refine ⟨.int ns[j], rfl, .inl ⟨2, _, rfl, rfl, .inl ⟨by decide, by decide⟩, 1, _, rfl, rfl, ?_⟩⟩
          exact tail (1 - 2 * ns[j]) _ _ (by omega)
        · have hpos : ¬ ns[j] < 0 := of_decide_eq_false (Bool.eq_false_iff.mpr e)
          exact tail ns[j] _ _ (by omega)
      · rintro σ' H1 ⟨y2, y3, y4, rfl, hk, ns, i, b, s, l, hne, hst, hsc, hi, hb, hs0, hs1, hl0, hl1⟩
        have hsc2 : ∀ o, (upd H1 st o) sc = some (.lst (ns.map V.int)) := fun o => by
          rw [upd_ne hne]; exact hsc
        refine ixv 2 rfl (SqL.of hst) rfl (.inl ⟨b, 0, rfl, rfl, _, rfl, ite2 (fun e => ?_) (fun e => ?_)⟩)
        · have hb1 : 0 < b := of_decide_eq_true e
          refine ixv 2 rfl (SqL.of hst) rfl (.inl (.inl ⟨b, rfl, .int m, rfl, b, m, rfl, rfl, by omega, ?_⟩))
          refine ixv 2 rfl (SqL.of hst) rfl ⟨.int m, rfl, b, m, rfl, rfl, wide_div (b := 60) (by omega) (by omega) (by decide) (by decide), .ref st, rfl, setv 2 hst (by simp) ?_⟩
          refine ⟨.int (b % m), rfl, q _ _ hk.put ⟨ns, i, b / m, s, l, hne, upd_same, hsc2 _, hi, Int.ediv_nonneg hb (by omega), hs0, hs1, hl0, hl1⟩ (Int.emod_nonneg _ (by omega)) (Int.emod_lt_of_pos _ (by omega))⟩
        · refine ixv 4 rfl (SqL.of hst) rfl (.inl ⟨l, 0, rfl, rfl, _, rfl, ite2 (fun e2 => ?_) (fun e2 => ?_)⟩)
          · have hl2 : 0 < l := of_decide_eq_true e2
            refine ixv 4 rfl (SqL.of hst) rfl ⟨l, 1, rfl, rfl, .ref st, rfl, setv 4 hst (by simp) ?_⟩
            have hA : (upd H1 st (.lst [.ref sc, .int i, .int b, .int s, .int (l - 1)])) st = some (.lst [.ref sc, .int i, .int b, .int s, .int (l - 1)]) := upd_same
            refine ixv 3 rfl (SqL.of hA) rfl (ixv 4 rfl (SqL.of hA) rfl (.inl ⟨2, l - 1, rfl, rfl, .inl ⟨by decide, by decide⟩, ?_⟩))
            refine .inl ⟨48271, _, rfl, rfl, .inl ⟨s, _, rfl, rfl, .inl ⟨by omega, by omega⟩, ?_⟩⟩
            refine .inl (.inl ⟨_, rfl, _, 2147483647, rfl, rfl, by (show (0 : Int) < _; decide), ?_⟩)
            have h4 := Int.emod_nonneg (s * (48271 + 2 * (l - 1))) (show (2147483647 : Int) ≠ 0 by decide)
            have h5 := Int.emod_lt_of_pos (s * (48271 + 2 * (l - 1))) (show (0 : Int) < 2147483647 by decide)
            refine ⟨.int (s * (48271 + 2 * (l - 1)) % 2147483647), rfl, ixv 4 rfl (SqL.of hA) rfl (.inl ⟨16807, l - 1, rfl, rfl, .inl ⟨_, _, rfl, rfl, .inl ⟨by omega, by omega⟩, ?_⟩⟩)⟩
            refine .inl (.inl ⟨_, rfl, _, 1000003, rfl, rfl, by (show (0 : Int) < _; decide), ?_⟩)
            refine ⟨_, rfl, .inl (.inl ⟨_, rfl, .int m, rfl, _, m, rfl, rfl, by omega, ?_⟩)⟩
            exact q _ _ hk.put ⟨ns, i, b, s, l - 1, hne, upd_same, hsc2 _, hi, hb, hs0, hs1, by omega, by omega⟩ (Int.emod_nonneg _ (by omega)) (Int.emod_lt_of_pos _ (by omega))
          · exact q _ _ hk ⟨ns, i, b, s, l, hne, hst, hsc, hi, hb, hs0, hs1, hl0, hl1⟩ (by omega) (by omega)
end
end K21


namespace K21
open PySem PySem.Spec PyProof.Rows L2
section
variable {P : Program} {w : World} {K : PySem.W.Frag} {mg : Str → Option Value} {base : Heap} {a : Ad}
def spState (K : PySem.W.Frag) : Sp := fun vs H Q _ => ∃ (p : Addr) (ns : List Int), vs = [.ref p] ∧ SqL K H p (ns.map V.int) ∧ ∀ H' st sc, H st = none → Same H H' → Sta sc H' st → Q (.ref st) H'
theorem same_upd {H : Hp} {p : Addr} {o : HO} (h : H p = none) : Same H (upd H p o) := fun b x e => by
  rw [upd_ne (ne_of_none e h)]
  exact e
theorem ok_state (T : Top K mg a) : FnOk P w K mg base CX0 1 a.f_l_state a.d_l_state ["_law_script"] (spState K) := by
  refine T.F_l_state.ok sc_l_state (fun vs H Q E h => ?_) (fun cdv A outer s H vs Q E hr h => ?_)
  · obtain ⟨st, m, rfl, _⟩ := h
    rfl
  · obtain ⟨p, ns, rfl, hS, q⟩ := h
    refine ⟨_, (pss_one (ps_ret (pe_lst (pa_cons (pe_callTy call_list_of (by rfl) T.z_list (by decide +kernel) (pa_cons (pv 0) pa_nil)) (pa_cons pe_int (pa_cons pe_int (pa_cons pe_int (pa_cons pe_int pa_nil)))))))), ?_⟩
    refine ⟨.ref p, rfl, p, _, rfl, .inl hS, fun sc nsc => ?_⟩
    refine ⟨by show 5 ≤ sizeLine; decide, fun st nst => ?_⟩
    have hne : sc ≠ st := fun e => by
      rw [← e, upd_same] at nst
      cases nst
    have n0 : H st = none := by
      rw [upd_ne (Ne.symm hne)] at nst
      exact nst
    refine q _ st sc n0 ((same_upd nsc).trans (same_upd nst)) ⟨ns, 0, 0, 0, 0, hne, upd_same, ?_, by omega, by omega, by omega, by decide, by omega, by omega⟩
    rw [upd_ne hne, upd_same]
/-! ### alike -/
theorem tyx_l {H : Hp} {p : Addr} {xs : List V} (h : SqL K H p xs) : TyX K H (.ref p) (.type "list") := by
  rcases h with (h | ⟨o, h⟩) | ⟨o, its, n, h, hc, _⟩
  · exact .base (.lst h)
  · exact .base (.frz h)
  · exact .kList h hc
theorem tyx_t {H : Hp} {p : Addr} {xs : List V} (h : SqT K H p xs) : TyX K H (.ref p) (.type "tuple") := by
  rcases h with (h | ⟨o, h⟩) | ⟨o, its, n, h, hc, _⟩
  · exact .base (.tup h)
  · exact .fTuple h
  · exact .kTuple h hc
/-- alike by one more layer -/
inductive SmS (K : PySem.W.Frag) (R : Hp → V → V → Prop) (H : Hp) : V → V → Prop where
  | non : SmS K R H .non .non
  | bl (b : Bool) : SmS K R H (.bl b) (.bl b)
  | int (i : Int) : SmS K R H (.int i) (.int i)
  | str (x : Str) : SmS K R H (.str x) (.str x)
  | lst {p q : Addr} {xs ys : List V} (hx : SqL K H p xs) (hy : SqL K H q ys) (l : xs.length = ys.length) (lt : xs.length ≤ 1000000) (r : ∀ (i : Nat) x y, xs[i]? = some x → ys[i]? = some y → R H x y) : SmS K R H (.ref p) (.ref q)
  | tup {p q : Addr} {xs ys : List V} (hx : SqT K H p xs) (hy : SqT K H q ys) (l : xs.length = ys.length) (lt : xs.length ≤ 1000000) (r : ∀ (i : Nat) x y, xs[i]? = some x → ys[i]? = some y → R H x y) : SmS K R H (.ref p) (.ref q)
def Sm (K : PySem.W.Frag) : Nat → Hp → V → V → Prop
  | 0 => fun _ _ _ => False
  | n + 1 => SmS K (Sm K n)
def spAl (R : Hp → V → V → Prop) : Sp := fun vs H Q _ => ∃ x y, vs = [x, y] ∧ R H x y ∧ Q (.bl true) H
theorem isiv {K : PySem.W.Frag} {σ : L2.St} {H : Hp} {i : Nat} {x : V} {t c : String} {b : Bool} {Q : VK} (h0 : σ[i]? = some (some x)) (ht : TyX K H x (.type t)) (hb : kitB t c = some b) (q : Q (.bl b) H) : tCB (rIsi K) (tCons (tVar i) (tCons (tC (.ty c)) tNil)) σ H Q :=
  ⟨x, h0, x, .ty c, .type t, .type c, b, rfl, .ty _, ht, kit_ty hb, q⟩
theorem isit {K : PySem.W.Frag} {σ : L2.St} {H : Hp} {i : Nat} {x : V} {t c : String} {b : Bool} {Q : Bool → Hp → Prop} (h0 : σ[i]? = some (some x)) (ht : TyX K H x (.type t)) (hb : kitB t c = some b) (q : Q b H) : tB (tCB (rIsi K) (tCons (tVar i) (tCons (tC (.ty c)) tNil))) σ H Q :=
  isiv h0 ht hb ⟨b, rfl, q⟩
theorem al_step {k : Nat} {R : Hp → V → V → Prop} (T : Top K mg a) (G_l_alike : FnOk P w K mg base CX0 k a.f_l_alike a.d_l_alike ["_law_actual", "_law_due"] (spAl R)) : FnOk P w K mg base CX0 (k + 1) a.f_l_alike a.d_l_alike ["_law_actual", "_law_due"] (spAl (SmS K R)) := by
  refine T.F_l_alike.ok sc_l_alike (fun vs H Q E h => ?_) (fun cdv A outer s H vs Q E hr h => ?_)
  · obtain ⟨x, y, rfl, _⟩ := h
    rfl
  · obtain ⟨x, y, rfl, S, q⟩ := h
    refine ⟨_, (pss_cons (ps_if (pt_cmpR op_isN (pv 1) pe_non (nomark _))
      (pss_one (ps_ret (pe_cmpR op_isN (pv 0) pe_non (nomark _))))
      pss_nil)
    (pss_cons (ps_if (PW.pt (pw_or (pt_val (pe_callB call_isi (by rfl) T.z_isinstance (by decide +kernel) (pa_cons (pv 1) (pa_cons (pe_bltn (v := .ty "bool") (by rfl) T.z_bool (by decide +kernel) rfl) pa_nil)))) (pw_or1 (pt_val (pe_callB call_isi (by rfl) T.z_isinstance (by decide +kernel) (pa_cons (pv 0) (pa_cons (pe_bltn (v := .ty "bool") (by rfl) T.z_bool (by decide +kernel) rfl) pa_nil)))))))
      (pss_one (ps_ret (pe_and (pe_callB call_isi (by rfl) T.z_isinstance (by decide +kernel) (pa_cons (pv 1) (pa_cons (pe_bltn (v := .ty "bool") (by rfl) T.z_bool (by decide +kernel) rfl) pa_nil))) (pe_and (pe_callB call_isi (by rfl) T.z_isinstance (by decide +kernel) (pa_cons (pv 0) (pa_cons (pe_bltn (v := .ty "bool") (by rfl) T.z_bool (by decide +kernel) rfl) pa_nil))) (pe_one (pe_cmpR (OpR.or op_eq (op_eqD hr.units)) (pv 0) (pv 1) (nomark _)))))))
      pss_nil)
    (pss_cons (ps_if (pt_val (pe_callB call_isi (by rfl) T.z_isinstance (by decide +kernel) (pa_cons (pv 1) (pa_cons (pe_bltn (v := .ty "int") (by rfl) T.z_int (by decide +kernel) rfl) pa_nil))))
      (pss_one (ps_ret (pe_and (pe_callB call_isi (by rfl) T.z_isinstance (by decide +kernel) (pa_cons (pv 0) (pa_cons (pe_bltn (v := .ty "int") (by rfl) T.z_int (by decide +kernel) rfl) pa_nil))) (pe_one (pe_cmpR (OpR.or op_eq (op_eqD hr.units)) (pv 0) (pv 1) (nomark _))))))
      pss_nil)
    (pss_cons (ps_if (pt_val (pe_callB call_isi (by rfl) T.z_isinstance (by decide +kernel) (pa_cons (pv 1) (pa_cons (pe_bltn (v := .ty "str") (by rfl) T.z_str (by decide +kernel) rfl) pa_nil))))
      (pss_one (ps_ret (pe_and (pe_callB call_isi (by rfl) T.z_isinstance (by decide +kernel) (pa_cons (pv 0) (pa_cons (pe_bltn (v := .ty "str") (by rfl) T.z_str (by decide +kernel) rfl) pa_nil))) (pe_one (pe_cmpR (OpR.or op_eq (op_eqD hr.units)) (pv 0) (pv 1) (nomark _))))))
      pss_nil)
    (pss_cons (ps_if (pt_val (pe_callB call_isi (by rfl) T.z_isinstance (by decide +kernel) (pa_cons (pv 1) (pa_cons (pe_bltn (v := .ty "list") (by rfl) T.z_list (by decide +kernel) rfl) pa_nil))))
      (pss_one (ps_if (pt_not (pt_val (pe_callB call_isi (by rfl) T.z_isinstance (by decide +kernel) (pa_cons (pv 0) (pa_cons (pe_bltn (v := .ty "list") (by rfl) T.z_list (by decide +kernel) rfl) pa_nil)))))
        (pss_one (ps_ret pe_bl))
        pss_nil))
      (pss_one (ps_if (pt_not (pt_val (pe_callB call_isi (by rfl) T.z_isinstance (by decide +kernel) (pa_cons (pv 0) (pa_cons (pe_bltn (v := .ty "tuple") (by rfl) T.z_tuple (by decide +kernel) rfl) pa_nil)))))
        (pss_one (ps_ret pe_bl))
        pss_nil)))
    (pss_cons (ps_if (pt_cmpR (OpR.or op_ne (op_neD hr.units)) (pe_callB (CallR.or call_len_str call_len_seq) (by rfl) T.z_len (by decide +kernel) (pa_cons (pv 0) pa_nil)) (pe_callB (CallR.or call_len_str call_len_seq) (by rfl) T.z_len (by decide +kernel) (pa_cons (pv 1) pa_nil)) (nomark _))
      (pss_one (ps_ret pe_bl))
      pss_nil)
    (pss_cons (ps_for PassesOwn.never rfl (pi_range1 (by rfl) T.z_range (pa_cons (pe_callB (CallR.or call_len_str call_len_seq) (by rfl) T.z_len (by decide +kernel) (pa_cons (pv 1) pa_nil)) pa_nil)) (pg_name (i := 2) sc_l_alike.nd rfl (.inl rfl))
      (pss_one (ps_if (pt_not (pt_val (pe_call G_l_alike hr (by rfl) T.m_l_alike T.F_l_alike.kp T.b_l_alike .nil pass0 (pa_cons (pe_ix ix_seq (pv 0) (pv 2) (fun _ _ => rfl)) (pa_cons (pe_ix ix_seq (pv 1) (pv 2) (fun _ _ => rfl)) pa_nil)))))
        (pss_one (ps_ret pe_bl))
        pss_nil)))
    (pss_one (ps_ret pe_bl))))))))), ?_⟩
    cases S with
    | non => exact ⟨_, rfl, rfl, _, rfl, iteT ⟨_, rfl, rfl, q⟩⟩
    | bl b =>
      refine ⟨_, rfl, rfl, _, rfl, iteF ?_⟩
      refine isit rfl (.base (.bl b)) (b := true) (by decide +kernel) ?_
      refine isit rfl (.base (.bl b)) (b := true) (by decide +kernel) ?_
      refine isit rfl (.base (.bl b)) (b := true) (by decide +kernel) ?_
      refine ⟨_, rfl, _, rfl, .inl ⟨rfl, ?_⟩⟩
      rw [decide_eq_true rfl]
      exact q
    | int i =>
      refine ⟨_, rfl, rfl, _, rfl, iteF ?_⟩
      refine isit rfl (.base (.int i)) (b := false) (by decide +kernel) ?_
      refine isit rfl (.base (.int i)) (b := false) (by decide +kernel) ?_
      refine isit rfl (.base (.int i)) (b := true) (by decide +kernel) ?_
      refine isit rfl (.base (.int i)) (b := true) (by decide +kernel) ?_
      refine ⟨_, rfl, _, rfl, .inl ⟨rfl, ?_⟩⟩
      rw [decide_eq_true rfl]
      exact q
    | str z =>
      refine ⟨_, rfl, rfl, _, rfl, iteF ?_⟩
      refine isit rfl (.base (.str z)) (b := false) (by decide +kernel) ?_
      refine isit rfl (.base (.str z)) (b := false) (by decide +kernel) ?_
      refine isit rfl (.base (.str z)) (b := false) (by decide +kernel) ?_
      refine isit rfl (.base (.str z)) (b := true) (by decide +kernel) ?_
      refine isit rfl (.base (.str z)) (b := true) (by decide +kernel) ?_
      refine ⟨_, rfl, _, rfl, .inl ⟨rfl, ?_⟩⟩
      rw [decide_eq_true rfl]
      exact q
    | @lst p p' xs ys hx hy l lt r =>
      refine ⟨_, rfl, rfl, _, rfl, iteF ?_⟩
      refine isit rfl (tyx_l hy) (b := false) (by decide +kernel) ?_
      refine isit rfl (tyx_l hx) (b := false) (by decide +kernel) ?_
      refine isit rfl (tyx_l hy) (b := false) (by decide +kernel) ?_
      refine isit rfl (tyx_l hy) (b := false) (by decide +kernel) ?_
      refine isit rfl (tyx_l hy) (b := true) (by decide +kernel) ?_
      refine isit rfl (tyx_l hx) (b := true) (by decide +kernel) ?_
      refine ⟨_, rfl, .inr ⟨p, xs, rfl, .inl hx, _, rfl, .inr ⟨p', ys, rfl, .inl hy, .inl ⟨rfl, _, rfl, ?_⟩⟩⟩⟩
      rw [l]
      refine iteNS rfl ?_
      refine ⟨_, rfl, .inr ⟨p', ys, rfl, .inl hy, _, rfl, by omega, by omega, for_range (lo := 0) (n := ys.length) (fun i σ' H' => ∃ y2, σ' = [some (.ref p), some (.ref p'), y2] ∧ H' = H) ⟨_, rfl, rfl⟩ ?_ ?_⟩⟩
      · rintro i σ' H' hi ⟨y2, rfl, rfl⟩
        have h1 : xs[i]? = some xs[i] := List.getElem?_eq_getElem (by omega)
        have h2 : ys[i]? = some ys[i] := List.getElem?_eq_getElem hi
        rw [Int.zero_add]
        refine ⟨_, rfl, _, rfl, .inl ⟨p, xs, i, xs[i], rfl, rfl, hx, atI_nat h1, ?_⟩⟩
        refine ⟨_, rfl, _, rfl, .inl ⟨p', ys, i, ys[i], rfl, rfl, hy, atI_nat h2, ?_⟩⟩
        exact ⟨_, _, rfl, r i _ _ h1 h2, _, rfl, _, rfl, rfl⟩
      · rintro σ' H' ⟨y2, rfl, rfl⟩
        exact q
    | @tup p p' xs ys hx hy l lt r =>
      refine ⟨_, rfl, rfl, _, rfl, iteF ?_⟩
      refine isit rfl (tyx_t hy) (b := false) (by decide +kernel) ?_
      refine isit rfl (tyx_t hx) (b := false) (by decide +kernel) ?_
      refine isit rfl (tyx_t hy) (b := false) (by decide +kernel) ?_
      refine isit rfl (tyx_t hy) (b := false) (by decide +kernel) ?_
      refine isit rfl (tyx_t hy) (b := false) (by decide +kernel) ?_
      refine isit rfl (tyx_t hx) (b := true) (by decide +kernel) ?_
      refine ⟨_, rfl, .inr ⟨p, xs, rfl, .inr hx, _, rfl, .inr ⟨p', ys, rfl, .inr hy, .inl ⟨rfl, _, rfl, ?_⟩⟩⟩⟩
      rw [l]
      refine iteNS rfl ?_
      refine ⟨_, rfl, .inr ⟨p', ys, rfl, .inr hy, _, rfl, by omega, by omega, for_range (lo := 0) (n := ys.length) (fun i σ' H' => ∃ y2, σ' = [some (.ref p), some (.ref p'), y2] ∧ H' = H) ⟨_, rfl, rfl⟩ ?_ ?_⟩⟩
      · rintro i σ' H' hi ⟨y2, rfl, rfl⟩
        have h1 : xs[i]? = some xs[i] := List.getElem?_eq_getElem (by omega)
        have h2 : ys[i]? = some ys[i] := List.getElem?_eq_getElem hi
        rw [Int.zero_add]
        refine ⟨_, rfl, _, rfl, .inr (.inl ⟨p, xs, i, xs[i], rfl, rfl, hx, atI_nat h1, ?_⟩)⟩
        refine ⟨_, rfl, _, rfl, .inr (.inl ⟨p', ys, i, ys[i], rfl, rfl, hy, atI_nat h2, ?_⟩)⟩
        exact ⟨_, _, rfl, r i _ _ h1 h2, _, rfl, _, rfl, rfl⟩
      · rintro σ' H' ⟨y2, rfl, rfl⟩
        exact q
theorem ok_alike (T : Top K mg a) : ∀ n, FnOk P w K mg base CX0 n a.f_l_alike a.d_l_alike ["_law_actual", "_law_due"] (spAl (Sm K n))
  | 0 => ⟨fun vs H Q E h => by
      obtain ⟨x, y, rfl, h, _⟩ := h
      exact h.elim, fun A outer s H args us vs Q E hr he hb hv h => by
      obtain ⟨x, y, rfl, h, _⟩ := h
      exact h.elim⟩
  | n + 1 => al_step T (ok_alike T n)
end
end K21

/-! rows as data -/
namespace K21
open PySem PySem.Spec PyProof.Rows L2 RN
theorem Same.mut {H H' : Hp} {p : Addr} {o : HO} (e : Same H H') (h : H p = none) : Same H (upd H' p o) := fun b u hb => by
  rw [upd_ne (ne_of_none hb h)]
  exact e b u hb
theorem Kp.same {st : Addr} {H H1 H2 : Hp} (k : Kp st H H1) (h : Same H1 H2) : Kp st H H2 := fun b o n e => h _ _ (k b o n e)
theorem Kp.new {st p : Addr} {H H' : Hp} {o : HO} (k : Kp st H H') (h : H' p = none) : Kp st H (upd H' p o) := fun b u n e => by
  have := k b u n e
  rw [upd_ne (ne_of_none this h)]
  exact this
theorem Kp.mut {st p : Addr} {H H' : Hp} {o : HO} (k : Kp st H H') (h : H p = none) : Kp st H (upd H' p o) := fun b u n e => by
  rw [upd_ne (ne_of_none e h)]
  exact k b u n e
theorem Same.tk {H H' : Hp} (h : Same H H') : Tk H H' := tk_all h
mutual
def wl : PyData → Nat
  | .list ds => ds.length + wlAll ds
  | .tuple ds => ds.length + wlAll ds
  | .none => 0
  | .bool _ => 0
  | .int _ => 0
  | .str _ => 0
  | .dict _ => 0
def wlAll : List PyData → Nat
  | [] => 0
  | d :: ds => wl d + wlAll ds
end
/-! ### alike of equal data -/
theorem dps_le {K : PySem.W.Frag} {H : Hp} : ∀ {ds : List PyData} {xs : List V}, DpAll K H xs ds → xs.length = ds.length
  | [], _, h => by cases h; rfl
  | d :: ds, _, h => by
    cases h with
    | cons a b => rw [List.length_cons, List.length_cons, dps_le b]
mutual
theorem sm_dp {K : PySem.W.Frag} {H : Hp} : ∀ (d : PyData) (n : Nat) (x y : V), Dp K H x d → Dp K H y d → d.depth < n → wl d ≤ 1000000 → Sm K n H x y
  | _, 0, _, _, _, _, h, _ => absurd h (Nat.not_lt_zero _)
  | .none, n + 1, _, _, hx, hy, _, _ => by cases hx; cases hy; exact .non
  | .bool _, n + 1, _, _, hx, hy, _, _ => by cases hx; cases hy; exact .bl _
  | .int _, n + 1, _, _, hx, hy, _, _ => by cases hx; cases hy; exact .int _
  | .str _, n + 1, _, _, hx, hy, _, _ => by cases hx; cases hy; exact .str _
  | .list ds, n + 1, _, _, hx, hy, hd, hw => by
    cases hx with
    | lst hp ha =>
      cases hy with
      | lst hq hb =>
        have hd' : PyData.depthAll ds + 1 < n + 1 := hd
        have hw' : ds.length + wlAll ds ≤ 1000000 := hw
        obtain ⟨l1, f⟩ := sm_dps ds n _ _ ha hb (by omega) (by omega)
        exact .lst hp hq l1 (by rw [dps_le ha]; omega) f
  | .tuple ds, n + 1, _, _, hx, hy, hd, hw => by
    cases hx with
    | tup hp ha =>
      cases hy with
      | tup hq hb =>
        have hd' : PyData.depthAll ds + 1 < n + 1 := hd
        have hw' : ds.length + wlAll ds ≤ 1000000 := hw
        obtain ⟨l1, f⟩ := sm_dps ds n _ _ ha hb (by omega) (by omega)
        exact .tup hp hq l1 (by rw [dps_le ha]; omega) f
  | .dict _, n + 1, _, _, hx, _, _, _ => by cases hx
theorem sm_dps {K : PySem.W.Frag} {H : Hp} : ∀ (ds : List PyData) (n : Nat) (xs ys : List V), DpAll K H xs ds → DpAll K H ys ds → PyData.depthAll ds < n → wlAll ds ≤ 1000000 →
    xs.length = ys.length ∧ ∀ (i : Nat) x y, xs[i]? = some x → ys[i]? = some y → Sm K n H x y
  | [], _, _, _, ha, hb, _, _ => by cases ha; cases hb; exact ⟨rfl, fun i x y h => by simp at h⟩
  | d :: ds, n, _, _, ha, hb, hd, hw => by
    cases ha with
    | cons a1 a2 =>
      cases hb with
      | cons b1 b2 =>
        have hd' : max (PyData.depth d) (PyData.depthAll ds) < n := hd
        have hw' : wl d + wlAll ds ≤ 1000000 := hw
        obtain ⟨l1, f⟩ := sm_dps ds n _ _ a2 b2 (by omega) (by omega)
        refine ⟨by simp [l1], fun i x y hx hy => ?_⟩
        cases i with
        | zero => cases hx; cases hy; exact sm_dp d n _ _ a1 b1 (by omega) (by omega)
        | succ i => exact f i x y (by simpa using hx) (by simpa using hy)
end
section
variable {K : PySem.W.Frag} {H H' : Hp}
theorem dps_tk (t : Tk H H') : ∀ {ds : List PyData} {xs : List V}, DpAll K H xs ds → (∀ d ∈ ds, RN.kb d = true) → DpAll K H' xs ds
  | [], _, h, _ => by cases h; exact .nil
  | d :: ds, _, h, k => by
    cases h with
    | cons a b => exact .cons (dp_tk t _ _ a (k d List.mem_cons_self)) (dps_tk t b fun x hx => k x (List.mem_cons_of_mem _ hx))
theorem dps_at : ∀ {ds : List PyData} {xs : List V} {i : Nat} {x : V}, DpAll K H xs ds → xs[i]? = some x → ∃ d, ds[i]? = some d ∧ Dp K H x d
  | [], _, i, x, h, e => by cases h; simp at e
  | d :: ds, _, i, x, h, e => by
    cases h with
    | cons a b =>
      cases i with
      | zero => cases e; exact ⟨d, rfl, a⟩
      | succ i => exact dps_at (i := i) b (by simpa using e)
theorem dps_ix : ∀ {ds : List PyData} {xs : List V} {i : Nat} {d : PyData}, DpAll K H xs ds → ds[i]? = some d → ∃ x, xs[i]? = some x ∧ Dp K H x d
  | [], _, i, x, h, e => by cases h; simp at e
  | d :: ds, _, i, x, h, e => by
    cases h with
    | cons a b =>
      cases i with
      | zero => cases e; exact ⟨_, rfl, a⟩
      | succ i => exact dps_ix (i := i) b (by simpa using e)
theorem dps_app : ∀ {ds es : List PyData} {xs ys : List V}, DpAll K H xs ds → DpAll K H ys es → DpAll K H (xs ++ ys) (ds ++ es)
  | [], _, _, _, h, g => by cases h; exact g
  | d :: ds, _, _, _, h, g => by
    cases h with
    | cons a b => exact .cons a (dps_app b g)
theorem dps_take : ∀ {ds : List PyData} {xs : List V} (n : Nat), DpAll K H xs ds → DpAll K H (xs.take n) (ds.take n)
  | _, _, 0, _ => .nil
  | [], _, n + 1, h => by cases h; exact .nil
  | d :: ds, _, n + 1, h => by
    cases h with
    | cons a b => exact .cons a (dps_take n b)
end
/-- a list of data -/
def LsIs (K : PySem.W.Frag) (H : Hp) (p : Addr) (ds : List PyData) : Prop := ∃ vs, H p = some (.lst vs) ∧ DpAll K H vs ds
theorem LsIs.same {K : PySem.W.Frag} {H H' : Hp} {p : Addr} {ds : List PyData} (r : ∀ d ∈ ds, RN.kb d = true) (s : Same H H') (h : LsIs K H p ds) : LsIs K H' p ds := let ⟨vs, h1, h2⟩ := h; ⟨vs, s _ _ h1, dps_tk (Same.tk s) h2 r⟩
theorem LsIs.dp {K : PySem.W.Frag} {H : Hp} {p : Addr} {ds : List PyData} (h : LsIs K H p ds) : Dp K H (.ref p) (.list ds) := let ⟨vs, h1, h2⟩ := h; .lst (.of h1) h2
theorem kp_tk {H H' : Hp} {o : Addr} {ob : HO} (ho : H o = some ob) (hn : NoTup ob) (k : Kp o H H') : Tk H H' := tk_but ho hn fun b u ne z => k b u ne z
theorem sta_tk {H H' : Hp} {sc st : Addr} (S : Sta sc H st) (k : Kp st H H') : Tk H H' := by
  obtain ⟨ns, i, b, s, l, hne, hst, _⟩ := S.ex
  exact kp_tk hst True.intro k
theorem Sta.same {H H' : Hp} {sc st : Addr} (S : Sta sc H st) (s : Same H H') : Sta sc H' st := by
  obtain ⟨ns, i, b, s1, l, hne, hst, hsc, r⟩ := S.ex
  exact ⟨ns, i, b, s1, l, hne, s _ _ hst, s _ _ hsc, r⟩
theorem Sta.nn {H : Hp} {D sc st : Addr} (S0 : Sta sc H st) (nD : H D = none) : D ≠ st := by
  obtain ⟨ns0, i0, b0, s0, l0, _, h1, h2, _⟩ := S0.ex
  exact (ne_of_none h1 nD).symm
theorem Sta.mut {H H' : Hp} {D sc st : Addr} {o : HO} (S0 : Sta sc H st) (nD : H D = none) (S : Sta sc H' st) : Sta sc (upd H' D o) st := by
  obtain ⟨ns0, i0, b0, s0, l0, _, h1, h2, _⟩ := S0.ex
  obtain ⟨ns, i, b, s1, l, hne, hst, hsc, r⟩ := S.ex
  refine ⟨ns, i, b, s1, l, hne, ?_, ?_, r⟩
  · rw [upd_ne (ne_of_none h1 nD)]; exact hst
  · rw [upd_ne (ne_of_none h2 nD)]; exact hsc
theorem kp_free {H H' : Hp} {sc st p : Addr} (S : Sta sc H' st) (k : Kp st H H') (h : H' p = none) : H p = none := by
  by_cases z : p = st
  · subst z
    obtain ⟨ns, i, b, s, l, hne, hst, _⟩ := S.ex
    rw [hst] at h; cases h
  · cases q : H p with
    | none => rfl
    | some o => rw [k _ _ z q] at h; cases h
/-! ### data of a bounded size -/
structure Ok (n m : Nat) (d : PyData) : Prop where
  kb : RN.kb d = true
  dep : d.depth ≤ n
  cl : d.canLay0 = true
  wt : wl d ≤ m
theorem Ok.mono {n m n' m' : Nat} {d : PyData} (h : Ok n m d) (a : n ≤ n') (b : m ≤ m') : Ok n' m' d := ⟨h.kb, Nat.le_trans h.dep a, h.cl, Nat.le_trans h.wt b⟩
theorem ok_tup {n m : Nat} : ∀ {ds : List PyData}, (∀ d ∈ ds, Ok n m d) → RN.kb (.tuple ds) = true ∧ PyData.depthAll ds ≤ n ∧ PyData.canLayAll0 ds = true ∧ wlAll ds ≤ m * ds.length
  | [], _ => ⟨rfl, Nat.zero_le _, rfl, Nat.zero_le _⟩
  | d :: ds, h => by
    obtain ⟨a1, a2, a3, a4⟩ := ok_tup fun x hx => h x (List.mem_cons_of_mem _ hx)
    have hd := h d List.mem_cons_self
    refine ⟨?_, ?_, ?_, ?_⟩
    · show (RN.kb d && RN.kb (.tuple ds)) = true
      rw [hd.kb, a1]; rfl
    · show max d.depth (PyData.depthAll ds) ≤ n
      have := hd.dep
      omega
    · show (d.canLay0 && PyData.canLayAll0 ds) = true
      rw [hd.cl, a3]; rfl
    · show wl d + wlAll ds ≤ m * (ds.length + 1)
      have := hd.wt
      rw [Nat.mul_add]
      omega
theorem Ok.tup {n m : Nat} {ds : List PyData} (h : ∀ d ∈ ds, Ok n m d) : Ok (n + 1) ((m + 1) * ds.length) (.tuple ds) := by
  obtain ⟨a1, a2, a3, a4⟩ := ok_tup h
  refine ⟨a1, ?_, ?_, ?_⟩
  · show PyData.depthAll ds + 1 ≤ n + 1
    omega
  · exact a3
  · show ds.length + wlAll ds ≤ (m + 1) * ds.length
    rw [Nat.add_mul]
    omega
theorem Ok.int (i : Int) : Ok 0 0 (.int i) := ⟨rfl, Nat.le_refl _, rfl, Nat.le_refl _⟩
theorem Ok.bool (b : Bool) : Ok 0 0 (.bool b) := ⟨rfl, Nat.le_refl _, rfl, Nat.le_refl _⟩
theorem Ok.non : Ok 0 0 .none := ⟨rfl, Nat.le_refl _, rfl, Nat.le_refl _⟩
theorem Ok.str {s : Str} (h : PyData.strOk s = true) : Ok 0 0 (.str s) := ⟨rfl, Nat.le_refl _, h, Nat.le_refl _⟩
/-! ### what displays give -/
section
variable {K : PySem.W.Frag} {σ : L2.St} {H0 : Hp}
def GD (K : PySem.W.Frag) (t : TE) (σ : L2.St) (H0 : Hp) (d : PyData) : Prop := ∀ (H1 : Hp), Same H0 H1 → ∀ Q : VK, (∀ x H2, Same H1 H2 → Dp K H2 x d → Q x H2) → t σ H1 Q
def GA (K : PySem.W.Frag) (t : TA) (σ : L2.St) (H0 : Hp) (ds : List PyData) : Prop := (∀ d ∈ ds, RN.kb d = true) ∧ ∀ (H1 : Hp), Same H0 H1 → ∀ Q : List V → Hp → Prop, (∀ xs H2, Same H1 H2 → DpAll K H2 xs ds → Q xs H2) → t σ H1 Q
def GS (K : PySem.W.Frag) (t : TE) (σ : L2.St) (H0 : Hp) (ds : List PyData) : Prop := ∀ (H1 : Hp), Same H0 H1 → ∀ Q : VK, (∀ p H2, H1 p = none → Same H1 H2 → LsIs K H2 p ds → Q (.ref p) H2) → t σ H1 Q
theorem ga_nil : GA K tNil σ H0 [] := ⟨(fun d h => nomatch h), fun H1 _ Q c => c [] H1 (Same.refl _) .nil⟩
theorem ga_cons {te : TE} {t : TA} {d : PyData} {ds : List PyData} (h : GD K te σ H0 d) (kd : RN.kb d = true) (g : GA K t σ H0 ds) : GA K (tCons te t) σ H0 (d :: ds) :=
  ⟨fun x hx => (List.mem_cons.mp hx).elim (fun e => by rw [e]; exact kd) (g.1 x), fun H1 s1 Q c => h H1 s1 _ fun x H2 s2 hx => g.2 H2 (s1.trans s2) _ fun xs H3 s3 hxs => c _ H3 (s2.trans s3) (.cons (dp_tk (Same.tk s3) _ _ hx kd) hxs)⟩
theorem gd_tup {t : TA} {ds : List PyData} (h : GA K t σ H0 ds) (l : ds.length ≤ 400) : GD K (tTup t) σ H0 (.tuple ds) := fun H1 s1 Q c => h.2 H1 s1 _ fun xs H2 s2 hxs => ⟨Nat.le_of_lt (small1000 (by rw [dps_le hxs]; omega)), fun p np => c _ _ (s2.trans (same_upd np)) (.tup (.of upd_same) (dps_tk (tk_new np) hxs h.1))⟩
theorem gd_str {s : Str} : GD K (tC (.str s)) σ H0 (.str s) := fun H1 _ Q c => c _ H1 (Same.refl _) (.str _)
theorem gd_int {i : Int} : GD K (tC (.int i)) σ H0 (.int i) := fun H1 _ Q c => c _ H1 (Same.refl _) (.int _)
theorem gd_bl {b : Bool} : GD K (tC (.bl b)) σ H0 (.bool b) := fun H1 _ Q c => c _ H1 (Same.refl _) (.bl _)
theorem gd_non : GD K (tC .non) σ H0 .none := fun H1 _ Q c => c _ H1 (Same.refl _) .non
theorem gd_var {i : Nat} {x : V} {d : PyData} (h : σ[i]? = some (some x)) (hx : Dp K H0 x d) (kd : RN.kb d = true) : GD K (tVar i) σ H0 d := fun H1 s1 Q c => ⟨x, h, c _ H1 (Same.refl _) (dp_tk (Same.tk s1) _ _ hx kd)⟩
theorem gs_lst {t : TA} {ds : List PyData} (h : GA K t σ H0 ds) (l : ds.length ≤ 400) : GS K (tLst t) σ H0 ds := fun H1 s1 Q c => h.2 H1 s1 _ fun xs H2 s2 hxs => ⟨Nat.le_of_lt (small1000 (by rw [dps_le hxs]; omega)), fun p np => c p _ (s2.free np) (s2.trans (same_upd np)) ⟨xs, upd_same, dps_tk (tk_new np) hxs h.1⟩⟩
theorem gs_cat {t1 t2 : TE} {ds es : List PyData} (h : GS K t1 σ H0 ds) (g : GS K t2 σ H0 es) (kd : ∀ d ∈ ds, RN.kb d = true) (ke : ∀ d ∈ es, RN.kb d = true) (l : ds.length + es.length ≤ 400) : GS K (tOp rCat t1 t2) σ H0 (ds ++ es) := fun H1 s1 Q c =>
  h H1 s1 _ fun p H2 np s2 ⟨xs, hp, hxs⟩ => g H2 (s1.trans s2) _ fun p2 H3 np2 s3 ⟨ys, hp2, hys⟩ => ⟨p, p2, _, _, rfl, rfl, s3 _ _ hp, hp2, Nat.le_of_lt (small1000 (by rw [dps_le hxs, dps_le hys]; omega)), fun z nz => c z _ ((s2.trans s3).free nz) ((s2.trans s3).trans (same_upd nz)) ⟨_, upd_same, dps_app (dps_tk (Same.tk (s3.trans (same_upd nz))) hxs kd) (dps_tk (tk_new nz) hys ke)⟩⟩
theorem gs_var {i : Nat} {p : Addr} {ds : List PyData} (h : σ[i]? = some (some (.ref p))) (hp : LsIs K H0 p ds) (kd : ∀ d ∈ ds, RN.kb d = true) : ∀ (H1 : Hp), Same H0 H1 → ∀ Q : VK, (LsIs K H1 p ds → Q (.ref p) H1) → tVar i σ H1 Q := fun H1 s1 Q c => ⟨_, h, c (let ⟨vs, h1, h2⟩ := hp; ⟨vs, s1 _ _ h1, dps_tk (Same.tk s1) h2 kd⟩)⟩
theorem gs_vcat {i : Nat} {p : Addr} {t2 : TE} {ds es : List PyData} (h : σ[i]? = some (some (.ref p))) (hp : LsIs K H0 p ds) (g : GS K t2 σ H0 es) (kd : ∀ d ∈ ds, RN.kb d = true) (ke : ∀ d ∈ es, RN.kb d = true) (l : ds.length + es.length ≤ 400) : GS K (tOp rCat (tVar i) t2) σ H0 (ds ++ es) := fun H1 s1 Q c =>
  gs_var h hp kd H1 s1 _ fun ⟨xs, hp, hxs⟩ => g H1 s1 _ fun p2 H3 np2 s3 ⟨ys, hp2, hys⟩ => ⟨p, p2, _, _, rfl, rfl, s3 _ _ hp, hp2, Nat.le_of_lt (small1000 (by rw [dps_le hxs, dps_le hys]; omega)), fun z nz => c z _ (s3.free nz) (s3.trans (same_upd nz)) ⟨_, upd_same, dps_app (dps_tk (Same.tk (s3.trans (same_upd nz))) hxs kd) (dps_tk (tk_new nz) hys ke)⟩⟩
theorem GS.run {t : TE} {H : Hp} {ds : List PyData} {Q : VK} (h : GS K t σ H ds) (c : ∀ p H2, H p = none → Same H H2 → LsIs K H2 p ds → Q (.ref p) H2) : t σ H Q := h H (Same.refl _) Q c
theorem GD.run {t : TE} {H : Hp} {d : PyData} {Q : VK} (h : GD K t σ H d) (c : ∀ x H2, Same H H2 → Dp K H2 x d → Q x H2) : t σ H Q := h H (Same.refl _) Q c
theorem LsIs.kp {H H' : Hp} {sc st p : Addr} {ds : List PyData} (S : Sta sc H st) (k : Kp st H H') (n : p ≠ st) (kd : ∀ d ∈ ds, RN.kb d = true) (h : LsIs K H p ds) : LsIs K H' p ds := let ⟨vs, h1, h2⟩ := h; ⟨vs, k _ _ n h1, dps_tk (sta_tk S k) h2 kd⟩
end
/-! ### taking data apart -/
section
variable {K : PySem.W.Frag} {H H' : Hp}
theorem Dp.tupD {x : V} {ds : List PyData} (h : Dp K H x (.tuple ds)) : ∃ p vs, x = .ref p ∧ SqT K H p vs ∧ DpAll K H vs ds := by
  cases h with
  | tup a b => exact ⟨_, _, rfl, a, b⟩
theorem dps_int : ∀ {ns : List Int} {vs : List V}, DpAll K H vs (ns.map .int) → vs = ns.map V.int
  | [], _, h => by cases h; rfl
  | n :: ns, _, h => by
    cases h with
    | cons a b => cases a; rw [dps_int b]; rfl
theorem dps_str : ∀ {ns : List Str} {vs : List V}, DpAll K H vs (ns.map .str) → vs = ns.map V.str
  | [], _, h => by cases h; rfl
  | n :: ns, _, h => by
    cases h with
    | cons a b => cases a; rw [dps_str b]; rfl
theorem int_dps : ∀ (ns : List Int), DpAll K H (ns.map V.int) (ns.map .int)
  | [] => .nil
  | n :: ns => .cons (.int n) (int_dps ns)
theorem str_dps : ∀ (ns : List Str), DpAll K H (ns.map V.str) (ns.map .str)
  | [] => .nil
  | n :: ns => .cons (.str n) (str_dps ns)
theorem kbs_map {α : Type} (f : α → PyData) : ∀ {l : List α}, (∀ x ∈ l, RN.kb (f x) = true) → RN.kb (.tuple (l.map f)) = true
  | [], _ => rfl
  | x :: l, h => by
    show (RN.kb (f x) && RN.kb (.tuple (l.map f))) = true
    rw [h x List.mem_cons_self, kbs_map f fun y hy => h y (List.mem_cons_of_mem _ hy)]; rfl
theorem rix {x : V} {ds : List PyData} {i : Nat} {d : PyData} {Q : VK} (h : Dp K H x (.tuple ds)) (e : ds[i]? = some d) (c : ∀ y, Dp K H y d → Q y H) : rIx K x (.int (i : Int)) H Q := by
  obtain ⟨p, vs, rfl, hs, ha⟩ := Dp.tupD h
  obtain ⟨y, ey, hy⟩ := dps_ix ha e
  exact .inr (.inl ⟨p, vs, i, y, rfl, rfl, hs, atI_nat ey, c y hy⟩)
theorem rixL {p : Addr} {ds : List PyData} {i : Nat} {d : PyData} {Q : VK} (h : LsIs K H p ds) (e : ds[i]? = some d) (c : ∀ y, Dp K H y d → Q y H) : rIx K (.ref p) (.int (i : Int)) H Q := by
  obtain ⟨vs, hs, ha⟩ := h
  obtain ⟨y, ey, hy⟩ := dps_ix ha e
  exact .inl ⟨p, vs, i, y, rfl, rfl, .of hs, atI_nat ey, c y hy⟩
theorem eqS {x y : Str} {Q : VK} (q : Q (.bl (decide (x = y))) H) : rEq (.str x) (.str y) H Q := ⟨rfl, by
  have e : decide (V.str x = V.str y) = decide (x = y) := by
    by_cases h : x = y
    · rw [decide_eq_true h, decide_eq_true (by rw [h])]
    · rw [decide_eq_false h, decide_eq_false (fun z => h (V.str.inj z))]
  rw [e]; exact q⟩
theorem eqI {x y : Int} {Q : VK} (q : Q (.bl (decide (x = y))) H) : rEq (.int x) (.int y) H Q := ⟨rfl, by
  have e : decide (V.int x = V.int y) = decide (x = y) := by
    by_cases h : x = y
    · rw [decide_eq_true h, decide_eq_true (by rw [h])]
    · rw [decide_eq_false h, decide_eq_false (fun z => h (V.int.inj z))]
  rw [e]; exact q⟩
theorem neI {x y : Int} {Q : VK} (q : Q (.bl (!decide (x = y))) H) : rNe (.int x) (.int y) H Q := ⟨rfl, by
  have e : decide (V.int x = V.int y) = decide (x = y) := by
    by_cases h : x = y
    · rw [decide_eq_true h, decide_eq_true (by rw [h])]
    · rw [decide_eq_false h, decide_eq_false (fun z => h (V.int.inj z))]
  rw [e]; exact q⟩
theorem eqB {x y : Bool} {Q : VK} (q : Q (.bl (x == y)) H) : rEq (.bl x) (.bl y) H Q := ⟨rfl, by
  have e : decide (V.bl x = V.bl y) = (x == y) := by
    by_cases h : x = y
    · rw [h, beq_self_eq_true]; exact decide_eq_true rfl
    · rw [decide_eq_false (fun z => h (V.bl.inj z)), beq_eq_false_iff_ne.mpr h]
  rw [e]; exact q⟩
end
/-! ### names, cells, cards, own parts and literals as data -/
def eS (l : List Str) : PyData := .tuple (l.map .str)
def eI (l : List Int) : PyData := .tuple (l.map .int)
def eM (ms : List Nat) : PyData := eI (ivals ms)
def eC (c : Nat × List Nat) : PyData := .tuple [.int (c.1 : Int), eM c.2]
def eRow (p : Str × Int) : PyData := .tuple [.str p.1, .int p.2]
def eRows (rows : KR) : PyData := .tuple (rows.map eRow)
def eCard (rows : KR) : PyData := .tuple [.str "kinds", eRows rows]
def eRing (n : Nat) : PyData := .tuple [.str "ring", .int (n : Int)]
def eKA (l : KL) : PyData := .tuple [.str l.o, .str "kind", .str l.z, .str l.k]
def eKL (l : KL) : PyData := .tuple [eKA l, .bool l.b]
def eRA (l : RL) : PyData := .tuple [.str l.o, .str "turn", .str l.x, .str l.y, .int l.s]
def eRL (l : RL) : PyData := .tuple [eRA l, .bool l.b]
theorem kbS (l : List Str) : RN.kb (eS l) = true := kbs_map _ fun _ _ => rfl
theorem kbI (l : List Int) : RN.kb (eI l) = true := kbs_map _ fun _ _ => rfl
theorem kbM (ms : List Nat) : RN.kb (eM ms) = true := kbI _
theorem kbC (c : Nat × List Nat) : RN.kb (eC c) = true := by
  show (true && (RN.kb (eM c.2) && true)) = true
  rw [kbM]; rfl
theorem kbRows (rows : KR) : RN.kb (eRows rows) = true := kbs_map _ fun _ _ => rfl
theorem kbCard (rows : KR) : RN.kb (eCard rows) = true := by
  show (true && (RN.kb (eRows rows) && true)) = true
  rw [kbRows]; rfl
theorem kbRing (n : Nat) : RN.kb (eRing n) = true := rfl
theorem kbKL (l : KL) : RN.kb (eKL l) = true := rfl
theorem kbRL (l : RL) : RN.kb (eRL l) = true := rfl
theorem kbm {α : Type} {f : α → PyData} (h : ∀ x, RN.kb (f x) = true) (l : List α) : ∀ d ∈ l.map f, RN.kb d = true := fun d hd => by
  obtain ⟨x, _, rfl⟩ := List.mem_map.mp hd
  exact h x
/-- a card of kinds -/
structure CdOk (rows : KR) : Prop where
  nd : (rows.map Prod.fst).Nodup
  nn : ∀ p ∈ rows, 0 ≤ p.2
  le : rows.length ≤ 3
  pos : 0 < rows.length
  st : ∀ p ∈ rows, PyData.strOk p.1 = true
/-- a tuple of texts whose object is known -/
def FS (H : Hp) (x : V) (l : List Str) : Prop := ∃ p, x = .ref p ∧ RN.FrzT H p (l.map V.str)
section
variable {K : PySem.W.Frag} {H H' : Hp}
theorem FS.same {x : V} {l : List Str} (s : Same H H') (h : FS H x l) : FS H' x l := let ⟨p, e, f⟩ := h; ⟨p, e, f.same s⟩
theorem FS.dp {x : V} {l : List Str} (h : FS H x l) : Dp K H x (eS l) := let ⟨p, e, f⟩ := h; e ▸ .tup f.sq (str_dps l)
theorem FS.kp {sc st : Addr} {x : V} {l : List Str} (S : Sta sc H st) (k : Kp st H H') (h : FS H x l) : FS H' x l := by
  obtain ⟨p, e, o, d, f⟩ := h
  refine ⟨p, e, o, d, k _ _ (fun z => ?_) f⟩
  obtain ⟨ns, i, b, s, l, hne, hst, _⟩ := S.ex
  rw [z, hst] at f; cases f
theorem FS.upd {D : Addr} {l1 : List V} {o : HO} {x : V} {l : List Str} (hD : H D = some (.lst l1)) (h : FS H x l) : FS (L2.upd H D o) x l := by
  obtain ⟨p, e, ob, d, f⟩ := h
  refine ⟨p, e, ob, d, ?_⟩
  rw [upd_ne (fun z => by rw [z, hD] at f; cases f)]; exact f
/-! ### alike -/
theorem dw {ds : List PyData} (h : ∀ d ∈ ds, d.depth ≤ 8 ∧ wl d ≤ 100) : PyData.depthAll ds ≤ 8 ∧ wlAll ds ≤ 100 * ds.length := by
  induction ds with
  | nil => exact ⟨Nat.zero_le _, Nat.zero_le _⟩
  | cons d ds ih =>
    obtain ⟨a, b⟩ := ih fun x hx => h x (List.mem_cons_of_mem _ hx)
    obtain ⟨c, e⟩ := h d List.mem_cons_self
    refine ⟨?_, ?_⟩
    · show max d.depth (PyData.depthAll ds) ≤ 8
      omega
    · show wl d + wlAll ds ≤ 100 * (ds.length + 1)
      omega
theorem sm_list {x y : V} {ds : List PyData} (h : ∀ d ∈ ds, d.depth ≤ 8 ∧ wl d ≤ 100) (l : ds.length ≤ 1000) (hx : Dp K H x (.list ds)) (hy : Dp K H y (.list ds)) : Sm K 30 H x y := by
  obtain ⟨a, b⟩ := dw h
  refine sm_dp (.list ds) 30 _ _ hx hy ?_ ?_
  · show PyData.depthAll ds + 1 < 30
    omega
  · show ds.length + wlAll ds ≤ 1000000
    omega
theorem dw_flat {α : Type} (f : α → PyData) (h0 : ∀ x, (f x).depth = 0 ∧ wl (f x) = 0) : ∀ l : List α, PyData.depthAll (l.map f) = 0 ∧ wlAll (l.map f) = 0
  | [] => ⟨rfl, rfl⟩
  | x :: l => by
    obtain ⟨a, b⟩ := dw_flat f h0 l
    obtain ⟨c, d⟩ := h0 x
    refine ⟨?_, ?_⟩
    · show max (f x).depth (PyData.depthAll (l.map f)) = 0
      omega
    · show wl (f x) + wlAll (l.map f) = 0
      omega
theorem dwS {l : List Str} (h : l.length ≤ 100) : (eS l).depth ≤ 8 ∧ wl (eS l) ≤ 100 := by
  obtain ⟨a, b⟩ := dw_flat PyData.str (fun _ => ⟨rfl, rfl⟩) l
  refine ⟨?_, ?_⟩
  · show PyData.depthAll (l.map .str) + 1 ≤ 8
    omega
  · show (l.map PyData.str).length + wlAll (l.map .str) ≤ 100
    rw [b, List.length_map]; omega
theorem dwI {l : List Int} (h : l.length ≤ 100) : (eI l).depth ≤ 8 ∧ wl (eI l) ≤ 100 := by
  obtain ⟨a, b⟩ := dw_flat PyData.int (fun _ => ⟨rfl, rfl⟩) l
  refine ⟨?_, ?_⟩
  · show PyData.depthAll (l.map .int) + 1 ≤ 8
    omega
  · show (l.map PyData.int).length + wlAll (l.map .int) ≤ 100
    rw [b, List.length_map]; omega
theorem dwKL (l : KL) : (eKL l).depth ≤ 8 ∧ wl (eKL l) ≤ 100 := ⟨by show (2 : Nat) ≤ 8; decide, by show (6 : Nat) ≤ 100; decide⟩
theorem dwRL (l : RL) : (eRL l).depth ≤ 8 ∧ wl (eRL l) ≤ 100 := ⟨by show (2 : Nat) ≤ 8; decide, by show (7 : Nat) ≤ 100; decide⟩
/-! ### lists that grow -/
theorem Same.kput {D : Addr} {o : HO} (nD : H D = none) (s : Same H H') : Same H (L2.upd H' D o) := Same.mut s nD
theorem ls_snoc {D : Addr} {acc : List V} {ds : List PyData} {y : V} {d : PyData} (hD : H D = some (.lst acc)) (h : DpAll K H acc ds) (k : ∀ d ∈ ds, RN.kb d = true) (hy : Dp K H y d) (ky : RN.kb d = true) : LsIs K (L2.upd H D (.lst (acc ++ [y]))) D (ds ++ [d]) :=
  ⟨_, upd_same, dps_app (dps_tk (tk_upd hD True.intro) h k) (.cons (dp_tk (tk_upd hD True.intro) _ _ hy ky) .nil)⟩
theorem ls_nil {D : Addr} : LsIs K (L2.upd H D (.lst [])) D [] := ⟨[], upd_same, .nil⟩
end
end K21


/-! the number of blocks, the block of a name, the size of a kinds card, what holds -/
namespace K21
open PySem PySem.Spec PyProof.Rows L2 RN
section
variable {P : Program} {w : World} {K : PySem.W.Frag} {mg : Str → Option Value} {base : Heap} {a : Ad}
def spBlk (K : PySem.W.Frag) : Sp := fun vs H Q _ => ∃ (x : V) (n : Nat) (ms : List Nat), vs = [x] ∧ Dp K H x (eM ms) ∧ MkOk n ms ∧ Q (.int (blk ms : Int)) H
theorem ok_blk (T : Top K mg a) : FnOk P w K mg base CX0 1 a.f_block_count a.d_block_count ["marks"] (spBlk K) := by
  refine T.F_block_count.ok sc_block_count (fun vs H Q E h => ?_) (fun cdv A outer s H vs Q E hr h => ?_)
  · obtain ⟨x, n, ms, rfl, _⟩ := h
    rfl
  · obtain ⟨x, n, ms, rfl, hx, ok, q⟩ := h
    refine ⟨_, (pss_one (ps_ret (pe_op op_add (pe_callBK (R0.ck_maxD rfl hr.units) (by rfl) T.z_max (by decide +kernel) (pa_cons (pv 0) pa_nil) (pk_cons (pe_un un_neg pe_int) pk_nil)) pe_int))), ?_⟩
    obtain ⟨p, vs, rfl, hs, ha⟩ := Dp.tupD hx
    rw [dps_int ha] at hs
    rw [← ok.mx] at q
    exact ⟨_, rfl, 1, rfl, p, ivals ms, -1, rfl, rfl, .inl hs, _, 1, rfl, rfl, q⟩
def spBof (K : PySem.W.Frag) : Sp := fun vs H Q _ => ∃ (x y : V) (z : Str) (nm : List Str) (c : Nat × List Nat), vs = [x, y, .str z] ∧ FS H x nm ∧ Dp K H y (eC c) ∧ MkOk nm.length c.2 ∧ z ∈ nm ∧ Q (.int (bk nm c.2 z : Int)) H
theorem marks_at {H : Hp} {m : V} {nm : List Str} {ms : List Nat} {z : Str} {Q : VK} (hm : Dp K H m (eM ms)) (ok : MkOk nm.length ms) (hz : z ∈ nm) (q : Q (.int (bk nm ms z : Int)) H) : rIx K m (.int (ixS nm z : Int)) H Q := by
  obtain ⟨e, _⟩ := bk_get ok rfl hz
  refine rix (d := .int (bk nm ms z : Int)) hm ?_ fun y hy => by cases hy; exact q
  unfold ivals
  rw [List.map_map, List.getElem?_map, e]; rfl
theorem name_ix {H : Hp} {x : V} {nm : List Str} {z : Str} {Q : VK} (hx : FS H x nm) (hz : z ∈ nm) (q : Q (.int (ixS nm z : Int)) H) : RT.rTIx K x [.str z] H Q := by
  obtain ⟨p, rfl, f⟩ := hx
  obtain ⟨a, b⟩ := ixS_get hz
  exact ⟨p, nm, z, ixS nm z, rfl, rfl, f.sq, a, b, q⟩
theorem FS.ty {H : Hp} {x : V} {nm : List Str} (hx : FS H x nm) : ∃ p xs, x = V.ref p ∧ FrzT H p xs := let ⟨p, e, f⟩ := hx; ⟨p, _, e, f⟩
theorem ok_bof (T : Top K mg a) : FnOk P w K mg base CX0 1 a.f_block_of a.d_block_of ["names", "cell", "name"] (spBof K) := by
  refine T.F_block_of.ok sc_block_of (fun vs H Q E h => ?_) (fun cdv A outer s H vs Q E hr h => ?_)
  · obtain ⟨x, y, z, nm, c, rfl, _⟩ := h
    rfl
  · obtain ⟨x, y, z, nm, c, rfl, hx, hy, ok, hz, q⟩ := h
    refine ⟨_, (pss_one (ps_ret (pe_ix ix_seq (pe_ix ix_seq (pv 1) pe_int (fun _ _ => rfl)) (RT.pe_bmF PySem.F.slot_tuple_index PySem.F.type_tuple_index (RT.mt_tindex (K := K) rfl) (pv 0) (pa_cons (pv 2) pa_nil)) (fun _ _ => rfl)))), ?_⟩
    refine ⟨y, rfl, rix (i := 1) hy rfl fun m hm => ⟨x, rfl, hx.ty, _, rfl, ?_⟩⟩
    dsimp only [tNil]
    exact name_ix hx hz (marks_at hm ok hz q)
/-! ### the size -/
theorem inV_int (n : Int) (ns : List Int) : inV (.int n) (ns.map V.int) = decide (n ∈ ns) := by
  rw [Bool.eq_iff_iff, decide_eq_true_eq]
  unfold inV
  rw [List.any_map, List.any_eq_true]
  constructor
  · rintro ⟨m, hm, e⟩
    have : (m == n) = true := e
    rw [← eq_of_beq this]; exact hm
  · intro h
    exact ⟨n, h, show (n == n) = true from beq_self_eq_true n⟩
theorem flat_ints (ns : List Int) : (ns.map V.int).all flatV = true := by
  rw [List.all_map]
  exact List.all_eq_true.mpr fun _ _ => rfl
theorem ksz_eq (rows : KR) : ksz rows = if (0 : Int) ∈ rows.map Prod.snd then 3 else (rows.map Prod.snd).sum := by
  unfold ksz
  have : (rows.any fun p => decide (p.2 = 0)) = decide ((0 : Int) ∈ rows.map Prod.snd) := by
    rw [Bool.eq_iff_iff, List.any_eq_true, decide_eq_true_eq, List.mem_map]
    constructor
    · rintro ⟨p, hp, e⟩; exact ⟨p, hp, of_decide_eq_true e⟩
    · rintro ⟨p, hp, e⟩; exact ⟨p, hp, decide_eq_true e⟩
  rw [this]
  by_cases e : (0 : Int) ∈ rows.map Prod.snd
  · rw [if_pos (decide_eq_true e), if_pos e]
  · rw [if_neg (by simp [e]), if_neg e]
/-- [count for _, count in card[1]] -/
def IntsAt (H : Hp) (p : Addr) (ns : List Int) : Prop := H p = some (.lst (ns.map V.int))
def spKsz (K : PySem.W.Frag) : Sp := fun vs H Q _ => ∃ (x : V) (rows : KR), vs = [x] ∧ Dp K H x (eCard rows) ∧ rows.length ≤ 3 ∧ ∀ H', Same H H' → Q (.int (ksz rows)) H'
theorem ok_ksz (T : Top K mg a) : FnOk P w K mg base CX0 1 a.f_kinds_size a.d_kinds_size ["card"] (spKsz K) := by
  refine T.F_kinds_size.ok sc_kinds_size (fun vs H Q E h => ?_) (fun cdv A outer s H vs Q E hr h => ?_)
  · obtain ⟨x, rows, rfl, _⟩ := h
    rfl
  · obtain ⟨x, rows, rfl, hx, le, q⟩ := h
    obtain ⟨tE, hE⟩ := T.m_ENDLESS
    refine ⟨_, (pss_cons (ps_setLc (own := [("_", 2), ("count", 3)]) (i := 1) rfl sc_kinds_size.nd rfl rfl (sw_true rfl rfl rfl (by decide +kernel)) (R1.PI.or (pi_list (pe_ix ix_seq (pv 0) pe_int (fun _ _ => rfl))) (pi_tup (pe_ix ix_seq (pv 0) pe_int (fun _ _ => rfl)))) (blkOk_by (own := [("_", 2), ("count", 3)]) (N := ["card", "counts", "_", "count"]) (sc := defScope s_kinds_size) (by decide +kernel)) (fun _ _ _ _ _ => (R1.pg_tupK (K := K) (n := 2) rfl rfl (pgs_cons (pg_name (i := 2) sc_kinds_size.nd rfl (.inl rfl)) (pgs_cons (pg_name (i := 3) sc_kinds_size.nd rfl (.inl rfl)) pgs_nil)))) (fun _ _ _ _ _ => pts_nil) (fun _ _ _ _ _ => (pv 3)))
    (pss_one (ps_ret (pe_ifExp (pt_cmpR op_in_seq pe_int (pv 1) rfl) (pe_glob (by rfl) hE (show RelV (.int 3) _ from ⟨_, rfl⟩)) (pe_callB (cr_sum rfl) (by rfl) T.z_sum (by decide +kernel) (pa_cons (pv 1) pa_nil)))))), ?_⟩
    refine .inr ⟨x, rfl, rix (i := 1) hx rfl fun y hy => ?_⟩
    obtain ⟨p, vs, rfl, hs, ha⟩ := Dp.tupD hy
    have lv : vs.length = rows.length := by rw [dps_le ha, List.length_map]
    refine ⟨p, rfl, ⟨vs, hs⟩, fun D nD => lc_it (walk_tup (xs := vs)) (fun i H2 => Same H H2 ∧ IntsAt H2 D ((rows.take i).map Prod.snd)) ⟨Same.mut (Same.refl _) nD, upd_same⟩ (fun i H2 _ h => sqT_tk (Same.tk h.1) hs) ?_ ?_⟩
    · rintro i x _ H2 hi ⟨sm, hD⟩ ⟨rfl, hxi⟩
      obtain ⟨d, ed, hd⟩ := dps_at ha hxi
      obtain ⟨pr, er, rfl⟩ : ∃ pr, rows[i]? = some pr ∧ eRow pr = d := by
        rw [List.getElem?_map] at ed
        cases e : rows[i]? with
        | none => rw [e] at ed; cases ed
        | some pr => rw [e] at ed; exact ⟨pr, rfl, Option.some.inj ed⟩
      obtain ⟨t, us, rfl, ht, hu⟩ := Dp.tupD (dp_tk (Same.tk sm) _ _ hd rfl)
      obtain ⟨k, c⟩ := pr
      cases hu with
      | cons h1 h2 =>
        cases h2 with
        | cons h2 h3 =>
          cases h3
          cases h1
          cases h2
          refine ⟨t, _, rfl, ht, rfl, _, _, rfl, _, _, rfl, rfl, rfl, _, rfl, _, hD, small1000 (by rw [List.length_map, List.length_map, List.length_take]; omega), ?_⟩
          refine ⟨Same.mut sm nD, ?_⟩
          unfold IntsAt
          rw [upd_same, List.take_add_one, er]
          simp
    · rintro H2 ⟨sm, hD⟩
      rw [lv, List.take_length] at hD
      refine ⟨_, rfl, D, _, rfl, .inl (.of hD), rfl, flat_ints _, _, rfl, ?_⟩
      have q2 := q H2 sm
      rw [ksz_eq] at q2
      rw [inV_int]
      refine ite2 (fun e => ?_) (fun e => ?_)
      · rw [if_pos (of_decide_eq_true e)] at q2
        exact q2
      · rw [if_neg (of_decide_eq_false (Bool.eq_false_iff.mpr e))] at q2
        exact ⟨_, rfl, D, _, rfl, .of hD, q2⟩
/-! ### what holds of a kind -/
theorem own_at {H : Hp} {o : V} {own : List Str} {i : Nat} {Q : VK} (ho : Dp K H o (eS own)) (h : i < own.length) (q : Q (.str (own.getD i "")) H) : rIx K o (.int (i : Int)) H Q := by
  refine rix (d := .str (own.getD i "")) ho ?_ fun y hy => by cases hy; exact q
  rw [List.getElem?_map, List.getElem?_eq_getElem h, List.getD_eq_getElem?_getD, List.getElem?_eq_getElem h]; rfl
theorem kT_eq {nm : List Str} {ms : List Nat} {own : List Str} {z k : Str} (h : bk nm ms z < own.length) : kT nm ms own z k = decide (own.getD (bk nm ms z) "" = k) := by
  unfold kT
  rw [List.getD_eq_getElem?_getD, List.getElem?_eq_getElem h]
  simp
def spKtr (K : PySem.W.Frag) : Sp := fun vs H Q _ => ∃ (c x y o t : V) (nm : List Str) (ce : Nat × List Nat) (own : List Str) (w0 w1 z k : Str), vs = [c, x, y, o, t] ∧ FS H x nm ∧ Dp K H y (eC ce) ∧ MkOk nm.length ce.2 ∧ Dp K H o (eS own) ∧ own.length = blk ce.2 ∧ Dp K H t (.tuple [.str w0, .str w1, .str z, .str k]) ∧ z ∈ nm ∧ Q (.bl (kT nm ce.2 own z k)) H
theorem ok_ktr (T : Top K mg a) (G_block_of : FnOk P w K mg base CX0 1 a.f_block_of a.d_block_of ["names", "cell", "name"] (spBof K)) : FnOk P w K mg base CX0 2 a.f_kinds_truth a.d_kinds_truth ["card", "names", "cell", "own", "atom"] (spKtr K) := by
  refine T.F_kinds_truth.ok sc_kinds_truth (fun vs H Q E h => ?_) (fun cdv A outer s H vs Q E hr h => ?_)
  · obtain ⟨_, _, _, _, _, _, _, _, _, _, _, _, rfl, _⟩ := h
    rfl
  · obtain ⟨c, x, y, o, t, nm, ce, own, w0, w1, z, k, rfl, hx, hy, ok, ho, lo, ht, hz, q⟩ := h
    refine ⟨_, (pss_one (ps_ret (pe_cmpR (OpR.or op_eq (op_eqD hr.units)) (pe_ix ix_seq (pv 3) (pe_call G_block_of (hr.mono (by decide)) (by rfl) T.m_block_of T.F_block_of.kp T.b_block_of .nil pass0 (pa_cons (pv 1) (pa_cons (pv 2) (pa_cons (pe_ix ix_seq (pv 4) pe_int (fun _ _ => rfl)) pa_nil)))) (fun _ _ => rfl)) (pe_ix ix_seq (pv 4) pe_int (fun _ _ => rfl)) (nomark _)))), ?_⟩
    obtain ⟨_, lt⟩ := bk_get ok rfl hz
    refine ⟨o, rfl, x, rfl, y, rfl, t, rfl, rix (i := 2) ht rfl fun z1 hz1 => ?_⟩
    cases hz1
    refine ⟨x, y, z, nm, ce, rfl, hx, hy, ok, hz, own_at ho (by omega) ⟨t, rfl, rix (i := 3) ht rfl fun k1 hk1 => ?_⟩⟩
    cases hk1
    rw [kT_eq (by omega)] at q
    exact .inl (eqS q)
end
end K21


/-! kinds of blocks, within their counts -/
namespace K21
open PySem PySem.Spec PyProof.Rows L2 RN
section
variable {P : Program} {w : World} {K : PySem.W.Frag} {mg : Str → Option Value} {base : Heap} {a : Ad}
theorem flat_take {α β : Type} (f : α → List β) (l : List α) (i : Nat) : ((l.take i).flatMap f).length ≤ (l.flatMap f).length := by
  have e : (l.take i).flatMap f ++ (l.drop i).flatMap f = l.flatMap f := by rw [← List.flatMap_append, List.take_append_drop]
  rw [← e, List.length_append]
  omega
theorem flat_snoc {α β : Type} (f : α → List β) {l : List α} {i : Nat} {x : α} (h : l[i]? = some x) : (l.take (i + 1)).flatMap f = (l.take i).flatMap f ++ f x := by
  rw [List.take_add_one, h, List.flatMap_append]
  simp
theorem flat_le {α β : Type} (f : α → List β) (c : Nat) : ∀ (l : List α), (∀ x ∈ l, (f x).length ≤ c) → (l.flatMap f).length ≤ l.length * c
  | [], _ => by simp
  | x :: l, h => by
    have := flat_le f c l fun y hy => h y (List.mem_cons_of_mem _ hy)
    have h1 := h x List.mem_cons_self
    rw [List.flatMap_cons, List.length_append, List.length_cons, Nat.add_mul]
    omega
def stepF (rows : KR) (own : List Str) : List (List Str) := (rows.filter (fitB own)).map fun p => own ++ [p.1]
theorem stepF_len (rows : KR) (own : List Str) : (stepF rows own).length ≤ rows.length := by
  unfold stepF; rw [List.length_map]; exact List.length_filter_le _ _
theorem fill_len {rows : KR} (h : rows.length ≤ 3) : ∀ n, (fillS rows n).length ≤ 3 ^ n
  | 0 => by show (1 : Nat) ≤ 3 ^ 0; decide
  | n + 1 => by
    have ih := fill_len h n
    have := flat_le (stepF rows) 3 (fillS rows n) fun x _ => Nat.le_trans (stepF_len rows x) h
    show ((fillS rows n).flatMap (stepF rows)).length ≤ 3 ^ (n + 1)
    rw [Nat.pow_succ]
    omega
theorem fill_small {rows : KR} (h : rows.length ≤ 3) {n : Nat} (hn : n ≤ 3) : (fillS rows n).length ≤ 27 := Nat.le_trans (fill_len h n) (Nat.le_trans (Nat.pow_le_pow_right (by omega) hn) (by decide))
theorem fill_own {rows : KR} : ∀ {n : Nat} {own : List Str}, own ∈ fillS rows n → own.length = n
  | 0, own, h => by rw [List.mem_singleton.mp h]; rfl
  | n + 1, own, h => by
    obtain ⟨q, hq, hr⟩ := List.mem_flatMap.mp h
    obtain ⟨k, hk, rfl⟩ := List.mem_map.mp hr
    simp [fill_own hq]
theorem dps_row {H : Hp} {rows : KR} {vs : List V} {i : Nat} {x : V} (ha : DpAll K H vs (rows.map eRow)) (hx : vs[i]? = some x) : ∃ p, rows[i]? = some p ∧ Dp K H x (eRow p) := by
  obtain ⟨d, ed, hd⟩ := dps_at ha hx
  rw [List.getElem?_map] at ed
  cases e : rows[i]? with
  | none => rw [e] at ed; cases ed
  | some pr => rw [e] at ed; cases ed; exact ⟨pr, rfl, hd⟩
theorem row_tup {H : Hp} {x : V} {p : Str × Int} (h : Dp K H x (eRow p)) : ∃ t, x = .ref t ∧ SqT K H t [.str p.1, .int p.2] := by
  obtain ⟨t, us, rfl, ht, hu⟩ := Dp.tupD h
  cases hu with
  | cons h1 h2 =>
    cases h2 with
    | cons h2 h3 =>
      cases h3
      cases h1
      cases h2
      exact ⟨t, rfl, ht⟩
def spFill (K : PySem.W.Frag) : Sp := fun vs H Q _ => ∃ (x : V) (rows : KR) (n : Nat), vs = [x, .int (n : Int)] ∧ Dp K H x (eRows rows) ∧ rows.length ≤ 3 ∧ n ≤ 3 ∧ ∀ p xs H', Same H H' → H p = none → H' p = some (.lst xs) → R1.Al (FS H') xs (fillS rows n) → Q (.ref p) H'
theorem ans_or2 {t u : TT} {σ : L2.St} {H : Hp} {b1 b2 : Bool} (h1 : Ans t σ H b1) (h2 : Ans u σ H b2) : Ans (tOr t u) σ H (b1 || b2) := by
  cases b1 with
  | true => exact ans_or1 h1
  | false => exact ans_or h1 h2
theorem ok_fill (T : Top K mg a) : FnOk P w K mg base CX0 1 a.f_fillings a.d_fillings ["counts", "blocks"] (spFill K) := by
  refine T.F_fillings.ok sc_fillings (fun vs H Q E h => ?_) (fun cdv A outer s H vs Q E hr h => ?_)
  · obtain ⟨x, rows, n, rfl, _⟩ := h
    rfl
  · obtain ⟨x, rows, n, rfl, hx, le, hn, q⟩ := h
    refine ⟨_, (pss_cons (ps_set (i := 2) sc_fillings.nd rfl (.inl rfl) (pe_lst (pa_cons (RT.pe_tupF pa_nil) pa_nil)))
    (pss_cons (ps_for PassesOwn.never rfl (pi_range1 (by rfl) T.z_range (pa_cons (pv 1) pa_nil)) (pg_name (i := 3) sc_fillings.nd rfl (.inl rfl))
      (pss_one (ps_setLc2 (own := [("own", 4), ("kind", 5), ("count", 6)]) (vs1 := [5, 6]) (i := 2) rfl sc_fillings.nd rfl rfl (sw_true rfl rfl rfl (by decide +kernel)) (R1.PI.or (pi_list (pv 2)) (pi_tup (pv 2))) (blkOk_by (own := [("own", 4), ("kind", 5), ("count", 6)]) (N := ["counts", "blocks", "found", "_", "own", "kind", "count"]) (sc := defScope s_fillings) (by decide +kernel)) (by decide) (fun _ _ _ _ _ => (pg_name (i := 4) sc_fillings.nd rfl (.inl rfl))) (fun _ _ _ _ _ => pts_nil) (fun _ _ _ _ _ => (R1.PI.or (R1.pi_listK (K := K) rfl (pv 0)) (R1.pi_tupK (K := K) rfl (pv 0)))) (fun _ _ _ _ _ => (R1.pg_tupK (K := K) (n := 2) rfl rfl (pgs_cons (pg_name (i := 5) sc_fillings.nd rfl (.inl rfl)) (pgs_cons (pg_name (i := 6) sc_fillings.nd rfl (.inl rfl)) pgs_nil)))) (fun _ _ _ _ _ => pts_one (PW.pt (pw_or (pt_cmpR op_eq (pv 6) pe_int (nomark _)) (pw_or1 (pt_cmpR op_lt (RT.pe_bmF PySem.F.slot_tuple_count PySem.F.type_tuple_count (RT.mt_tcount (K := K) rfl) (pv 4) (pa_cons (pv 5) pa_nil)) (pv 6) (nomark _)))))) (fun _ _ _ _ _ => (RT.pe_tupF (R1.pa_starK (K := K) rfl (pv 4) (pa_cons (pv 5) pa_nil)))))))
    (pss_one (ps_ret (pv 2))))), ?_⟩
    obtain ⟨pc, cs, rfl, hc, hcs⟩ := Dp.tupD hx
    have lc : cs.length = rows.length := by rw [dps_le hcs, List.length_map]
    refine ⟨Nat.zero_le _, fun p0 o0 n0 d0 => ⟨Nat.le_of_lt (small1000 (by simp)), fun p1 n1 => ?_⟩⟩
    have h1n : H p1 = none := by
      by_cases e : p1 = p0
      · rw [e]; exact n0
      · rw [upd_ne e] at n1; exact n1
    have s0 : Same H (upd (upd H p0 (.frz o0 (.tup []))) p1 (.lst [V.ref p0])) := Same.mut (Same.mut (Same.refl _) n0) h1n
    have hp0 : (upd (upd H p0 (.frz o0 (.tup []))) p1 (.lst [V.ref p0])) p0 = some (.frz o0 (.tup [])) := by
      rw [upd_ne (fun e => by rw [← e, upd_same] at n1; cases n1), upd_same]
    refine ⟨.int (n : Int), rfl, (n : Int), rfl, by omega, by omega, for_it walk_range (fun i σ' H' => ∃ p xs y3, σ' = [some (.ref pc), some (.int (n : Int)), some (.ref p), y3, none, none, none] ∧ Same H H' ∧ H p = none ∧ H' p = some (.lst xs) ∧ R1.Al (FS H') xs (fillS rows i)) ⟨p1, [V.ref p0], none, rfl, s0, h1n, upd_same, R1.Al.one ⟨p0, rfl, o0, d0, hp0⟩⟩ (fun _ _ _ _ _ => trivial) ?_ ?_⟩
    · rintro i x σ' _ H1 hi ⟨p, xs, y3, rfl, sm, np, hp, hA⟩ ⟨rfl, rfl⟩
      have b2 := fill_small le (show i + 1 ≤ 3 by omega)
      refine .inl ⟨.ref p, rfl, p, rfl, ⟨_, SqL.of hp⟩, fun D nD => R1.walk_it (walk_list (xs := xs)) (fun u H2 => Same H1 H2 ∧ ∃ acc, H2 D = some (.lst acc) ∧ R1.Al (FS H2) acc (((fillS rows i).take u).flatMap (stepF rows))) ⟨Same.mut (Same.refl _) nD, [], upd_same, R1.Al.nil⟩ (fun u H2 _ h => h.1.seq (SqL.of hp)) ?_ ?_⟩
      · rintro u x _ H2 hu ⟨sm2, acc, hD, hB⟩ ⟨rfl, hx⟩
        obtain ⟨own, hown, hfs⟩ := hA.at hx
        obtain ⟨b, rfl, hb⟩ := hfs
        have lown := fill_own (List.mem_of_getElem? hown)
        have ln : ((fillS rows i).take (u + 1)).flatMap (stepF rows) = ((fillS rows i).take u).flatMap (stepF rows) ++ stepF rows own := flat_snoc (stepF rows) hown
        have l2 : (((fillS rows i).take u).flatMap (stepF rows)).length ≤ 27 := Nat.le_trans (flat_take (stepF rows) (fillS rows i) u) b2
        have s12 : Same H H2 := sm.trans sm2
        refine ⟨rfl, .inr ⟨.ref pc, rfl, pc, rfl, ⟨cs, sqT_tk (Same.tk s12) hc⟩, R1.walk_it (walk_tup (xs := cs)) (fun v H3 => Same H1 H3 ∧ ∃ acc, H3 D = some (.lst acc) ∧ R1.Al (FS H3) acc (((fillS rows i).take u).flatMap (stepF rows) ++ stepF (rows.take v) own)) ⟨sm2, acc, hD, by simpa [stepF] using hB⟩ (fun v H3 _ h => sqT_tk (Same.tk (sm.trans h.1)) hc) ?_ ?_⟩⟩
        · rintro v x _ H3 hv ⟨sm3, acc3, hD3, hA3⟩ ⟨rfl, hxv⟩
          obtain ⟨⟨k, c⟩, hpr, hd⟩ := dps_row hcs hxv
          obtain ⟨t, rfl, ht⟩ := row_tup (dp_tk (Same.tk (sm.trans sm3)) _ _ hd rfl)
          have hb3 : FrzT H3 b (own.map V.str) := hb.same sm3
          have la : acc3.length ≤ 100 := by
            have := hA3.1
            have e1 := stepF_len (rows.take v) own
            rw [List.length_append] at this
            rw [List.length_take] at e1
            omega
          have et : rows.take (v + 1) = rows.take v ++ [(k, c)] := by rw [List.take_add_one, hpr]; rfl
          refine ⟨t, _, rfl, ht, rfl, _, _, rfl, _, _, rfl, rfl, rfl, ?_⟩
          refine (ans_or2 (b1 := decide (c = 0)) (b2 := decide (((own.count k : Nat) : Int) < c)) (fun Q q => ⟨_, rfl, by dsimp only [tC]; exact eqI ⟨_, rfl, q⟩⟩) (fun Q q => ⟨_, rfl, ⟨b, _, rfl, hb3⟩, _, rfl, ⟨b, own, k, rfl, rfl, hb3.sq, _, rfl, _, _, rfl, rfl, _, rfl, q⟩⟩)) _ ?_
          have es : stepF (rows.take (v + 1)) own = stepF (rows.take v) own ++ if fitB own (k, c) = true then [own ++ [k]] else [] := by
            unfold stepF
            rw [et, List.filter_append, List.map_append]
            congr 1
            rw [List.filter_cons, List.filter_nil]
            split <;> rfl
          refine ite2 (fun e => ?_) (fun e => ?_)
          · have ef : fitB own (k, c) = true := e
            rw [if_pos ef] at es
            refine ⟨.ref b, rfl, b, _, rfl, .inl hb3.sq, _, rfl, ?_⟩
            refine ⟨Nat.le_of_lt (small1000 (by simp; omega)), fun pt ot nt dt => ?_⟩
            have sT : Same H3 (upd H3 pt (.frz ot (.tup (own.map V.str ++ [.str k])))) := same_upd nt
            have hD4 := sT _ _ hD3
            refine ⟨acc3, hD4, small1000 (by omega), Same.mut (sm3.trans sT) nD, _, upd_same, ?_⟩
            rw [es, ← List.append_assoc]
            refine R1.Al.snoc (hA3.mono fun x r h => (h.same sT).upd hD4) ⟨pt, rfl, ot, dt, ?_⟩
            rw [upd_ne (fun e => by rw [e, hD3] at nt; cases nt), upd_same]
            simp
          · have ef : ¬ fitB own (k, c) = true := e
            rw [if_neg ef, List.append_nil] at es
            refine ⟨sm3, acc3, hD3, ?_⟩
            rw [es]; exact hA3
        · rintro H3 ⟨sm3, acc3, hD3, hA3⟩
          refine ⟨sm3, acc3, hD3, ?_⟩
          rw [lc, List.take_length] at hA3
          rw [ln]
          exact hA3
      · rintro H2 ⟨sm2, acc, hD, hB⟩
        refine ⟨D, acc, _, rfl, sm.trans sm2, sm.free nD, hD, ?_⟩
        rw [hA.1, List.take_length] at hB
        exact hB
    · rintro σ' H1 ⟨p, xs, y3, rfl, sm, np, hp, hA⟩
      exact ⟨.ref p, rfl, q p xs H1 sm np hp (by simpa using hA)⟩
end
end K21

/-! a comprehension within a comprehension; all, any, K named -/
namespace RT
open PySem PySem.Spec PyProof.Rows L2 RN
theorem lookup_fc {env : Env} : ∀ {names : List (Str × NameKind)} {x : Str}, (names.lookup x = some .cell ∨ names.lookup x = some .free) →
    ((names.map fun (n, k) => if (k == NameKind.free && env.scope.kind == .function && env.kindOf n == some .cell) then (n, NameKind.cell) else (n, k)).lookup x = some .cell ∨
      (names.map fun (n, k) => if (k == NameKind.free && env.scope.kind == .function && env.kindOf n == some .cell) then (n, NameKind.cell) else (n, k)).lookup x = some .free)
  | [], _, h => by simp at h
  | (n, k) :: r, x, h => by
    have ih := @lookup_fc env r x
    show (List.lookup x ((if (k == NameKind.free && env.scope.kind == .function && env.kindOf n == some .cell) = true then (n, NameKind.cell) else (n, k)) :: _) = _) ∨ (List.lookup x ((if (k == NameKind.free && env.scope.kind == .function && env.kindOf n == some .cell) = true then (n, NameKind.cell) else (n, k)) :: _) = _)
    cases hx : x == n with
    | true =>
      simp only [List.lookup_cons, hx] at h
      by_cases hc : (k == NameKind.free && env.scope.kind == .function && env.kindOf n == some .cell) = true
      · rw [if_pos hc]; simp [List.lookup_cons, hx]
      · rw [if_neg hc]; simp only [List.lookup_cons, hx]; exact h
    | false =>
      simp only [List.lookup_cons, hx] at h
      by_cases hc : (k == NameKind.free && env.scope.kind == .function && env.kindOf n == some .cell) = true
      · rw [if_pos hc]; simp only [List.lookup_cons, hx]; exact ih h
      · rw [if_neg hc]; simp only [List.lookup_cons, hx]; exact ih h
theorem blkIn {X : Cx} {s : Shared} {H : Hp} {scope0 scope : Scope} {cl : List (Str × Addr)} {C : Addr} {env : Env} {fp : List Addr} {own : List (Str × Nat)} {N : List Str} (hN : X.N = N) (h : BlkOk N scope0 scope own) : BlkOk (X.blk s H scope0 (compEnvC scope0 cl C env) fp).N (X.blk s H scope0 (compEnvC scope0 cl C env) fp).env.scope scope own := by
  subst hN
  exact ⟨h.kind, h.uniq, h.ix, fun y hy e => lookup_fc (env := env) (h.free y hy e), h.own⟩
theorem cr_allK {X : Cx} {K : PySem.W.Frag} (hK : X.K = K) (hc : X.calm = true) : CallR X (.builtin "all") (rAll K) := by subst hK; exact cr_all hc
theorem cr_anyK {X : Cx} {K : PySem.W.Frag} (hK : X.K = K) (hc : X.calm = true) : CallR X (.builtin "any") (rAny K) := by subst hK; exact cr_any hc
theorem cr_sumK {X : Cx} {K : PySem.W.Frag} (hK : X.K = K) (hc : X.calm = true) : CallR X (.builtin "sum") (rSum K) := by subst hK; exact cr_sum hc
end RT
namespace R1
open PySem PySem.Spec PyProof.Rows L2
theorem ix_seqK {X : Cx} {K : PySem.W.Frag} (hK : X.K = K) : IxR X (rIx K) := by subst hK; exact ix_seq
end R1


/-! the own parts of a kinds card -/
namespace K21
open PySem PySem.Spec PyProof.Rows L2 RN
section
variable {P : Program} {w : World} {K : PySem.W.Frag} {mg : Str → Option Value} {base : Heap} {a : Ad}
theorem dps_map {α : Type} {H : Hp} {f : α → PyData} {ls : List α} {vs : List V} {i : Nat} {x : V} (ha : DpAll K H vs (ls.map f)) (hx : vs[i]? = some x) : ∃ p, ls[i]? = some p ∧ Dp K H x (f p) := by
  obtain ⟨d, ed, hd⟩ := dps_at ha hx
  rw [List.getElem?_map] at ed
  cases e : ls[i]? with
  | none => rw [e] at ed; cases ed
  | some pr => rw [e] at ed; cases ed; exact ⟨pr, rfl, hd⟩
theorem pair_tup {H : Hp} {x : V} {d : PyData} {b : Bool} (h : Dp K H x (.tuple [d, .bool b])) : ∃ t v, x = .ref t ∧ SqT K H t [v, .bl b] ∧ Dp K H v d := by
  obtain ⟨t, us, rfl, ht, hu⟩ := Dp.tupD h
  cases hu with
  | cons h1 h2 =>
    cases h2 with
    | cons h2 h3 =>
      cases h3
      cases h2
      exact ⟨t, _, rfl, ht, h1⟩
theorem take_filter_snoc {α β : Type} (f : α → Bool) (g : α → β) {l : List α} {u : Nat} {x : α} (h : l[u]? = some x) : ((l.take (u + 1)).filter f).map g = ((l.take u).filter f).map g ++ if f x = true then [g x] else [] := by
  rw [List.take_add_one, h, List.filter_append, List.map_append]
  congr 1
  show List.map g (List.filter f [x]) = _
  rw [List.filter_cons, List.filter_nil]
  split <;> rfl
def spKparts (K : PySem.W.Frag) : Sp := fun vs H Q _ => ∃ (c x y : V) (l : Addr) (rows : KR) (nm : List Str) (ce : Nat × List Nat) (lits : List KL), vs = [c, x, .ref l, y] ∧ Dp K H c (eCard rows) ∧ CdOk rows ∧ FS H x nm ∧ Dp K H y (eC ce) ∧ MkOk nm.length ce.2 ∧ LsIs K H l (lits.map eKL) ∧ (∀ q ∈ lits, q.z ∈ nm) ∧ lits.length ≤ 100 ∧
  ∀ p H', Same H H' → LsIs K H' p (((kParts rows ce.1 ce.2).filter fun own => lits.all fun q => q.holds nm ce.2 own).map eS) → Q (.ref p) H'
theorem ok_kparts (T : Top K mg a) (G_block_count : FnOk P w K mg base CX0 1 a.f_block_count a.d_block_count ["marks"] (spBlk K)) (G_kinds_size : FnOk P w K mg base CX0 1 a.f_kinds_size a.d_kinds_size ["card"] (spKsz K)) (G_fillings : FnOk P w K mg base CX0 1 a.f_fillings a.d_fillings ["counts", "blocks"] (spFill K)) (G_kinds_truth : FnOk P w K mg base CX0 2 a.f_kinds_truth a.d_kinds_truth ["card", "names", "cell", "own", "atom"] (spKtr K)) : FnOk P w K mg base CX0 3 a.f_kinds_parts a.d_kinds_parts ["card", "names", "literals", "cell"] (spKparts K) := by
  refine T.F_kinds_parts.ok sc_kinds_parts (fun vs H Q E h => ?_) (fun cdv A outer s H vs Q E hr h => ?_)
  · obtain ⟨_, _, _, _, _, _, _, _, rfl, _⟩ := h
    rfl
  · obtain ⟨c, x, y, l, rows, nm, ce, lits, rfl, hc, cd, hx, hy, ok, hl, hz, ll, q⟩ := h
    refine ⟨_, (pss_cons (ps_if (pt_cmpR op_ne (pe_ix ix_seq (pv 3) pe_int (fun _ _ => rfl)) (pe_call G_kinds_size (hr.mono (by decide)) (by rfl) T.m_kinds_size T.F_kinds_size.kp T.b_kinds_size .nil pass0 (pa_cons (pv 0) pa_nil)) (nomark _))
      (pss_one (ps_ret (pe_lst pa_nil)))
      pss_nil)
    (pss_one (ps_ret (pe_lc (own := [("own", 4)]) rfl sc_kinds_parts.nd (R1.PI.or (pi_list (pe_call G_fillings (hr.mono (by decide)) (by rfl) T.m_fillings T.F_fillings.kp T.b_fillings .nil pass0 (pa_cons (pe_ix ix_seq (pv 0) pe_int (fun _ _ => rfl)) (pa_cons (pe_call G_block_count (hr.mono (by decide)) (by rfl) T.m_block_count T.F_block_count.kp T.b_block_count .nil pass0 (pa_cons (pe_ix ix_seq (pv 3) pe_int (fun _ _ => rfl)) pa_nil)) pa_nil)))) (pi_tup (pe_call G_fillings (hr.mono (by decide)) (by rfl) T.m_fillings T.F_fillings.kp T.b_fillings .nil pass0 (pa_cons (pe_ix ix_seq (pv 0) pe_int (fun _ _ => rfl)) (pa_cons (pe_call G_block_count (hr.mono (by decide)) (by rfl) T.m_block_count T.F_block_count.kp T.b_block_count .nil pass0 (pa_cons (pe_ix ix_seq (pv 3) pe_int (fun _ _ => rfl)) pa_nil)) pa_nil))))) (blkOk_by (own := [("own", 4)]) (N := ["card", "names", "literals", "cell", "own", "atom", "sign"]) (sc := defScope s_kinds_parts) (by decide +kernel)) (fun _ _ _ _ _ => (pg_name (i := 4) sc_kinds_parts.nd rfl (.inr rfl))) (fun _ _ _ _ _ => pts_one (pt_val (pe_callB (RT.cr_allK (K := K) rfl rfl) (by rfl) T.z_all (by decide +kernel) (pa_cons (pe_lc (own := [("atom", 5), ("sign", 6)]) rfl sc_kinds_parts.nd (R1.PI.or (R1.pi_listK (K := K) rfl (pv 2)) (R1.pi_tupK (K := K) rfl (pv 2))) (RT.blkIn (own := [("atom", 5), ("sign", 6)]) rfl (N := ["card", "names", "literals", "cell", "own", "atom", "sign"]) (blkOk_by (by decide +kernel))) (fun _ _ _ _ _ => (R1.pg_tupK (K := K) (n := 2) rfl rfl (pgs_cons (pg_name (i := 5) sc_kinds_parts.nd rfl (.inl rfl)) (pgs_cons (pg_name (i := 6) sc_kinds_parts.nd rfl (.inl rfl)) pgs_nil)))) (fun _ _ _ _ _ => pts_nil) (fun _ _ _ _ _ => (pe_cmpR op_eq (pe_call G_kinds_truth (hr.mono (by decide)) (by rfl) T.m_kinds_truth T.F_kinds_truth.kp T.b_kinds_truth .nil pass0 (pa_cons (pv 0) (pa_cons (pv 1) (pa_cons (pv 3) (pa_cons (pv 4) (pa_cons (pv 5) pa_nil)))))) (pv 6) (nomark _)))) pa_nil)))) (fun _ _ _ _ _ => (pv 4)))))), ?_⟩
    refine ⟨y, rfl, rix (i := 0) hy rfl fun v hv => ?_⟩
    cases hv
    refine ⟨c, rfl, c, rows, rfl, hc, cd.le, fun H1 s1 => ?_⟩
    have E := fun f => kParts_eq cd.nd cd.nn ce.1 ce.2 f
    refine neI ⟨_, rfl, ite2 (fun e => ?_) (fun e => ?_)⟩
    · have ne : ¬ (ce.1 : Int) = ksz rows := by simpa using e
      refine ⟨Nat.zero_le _, fun p np => q p _ (s1.trans (same_upd np)) ?_⟩
      rw [← E, if_neg ne]
      exact ls_nil
    · have eq : (ce.1 : Int) = ksz rows := by simpa using e
      have hc1 := dp_tk (Same.tk s1) _ _ hc (kbCard rows)
      have hy1 := dp_tk (Same.tk s1) _ _ hy (kbC ce)
      refine .inl ⟨c, rfl, rix (i := 1) hc1 rfl fun r hr => ⟨y, rfl, rix (i := 1) hy1 rfl fun m hm => ⟨m, nm.length, ce.2, rfl, hm, ok, r, rows, blk ce.2, rfl, hr, cd.le, ok.le, fun p xs H2 s2 np hp hA => ?_⟩⟩⟩
      have lx := hA.1
      have l27 := fill_small cd.le ok.le
      refine ⟨p, rfl, ⟨xs, SqL.of hp⟩, fun D nD => ?_⟩
      refine lc_it (walk_list (xs := xs)) (fun u H3 => Same H2 H3 ∧ LsIs K H3 D ((((fillS rows (blk ce.2)).take u).filter fun own => lits.all fun q => q.holds nm ce.2 own).map eS)) ⟨Same.mut (Same.refl _) nD, ls_nil⟩ (fun u H3 _ h => h.1.seq (SqL.of hp)) ?_ ?_
      · rintro u v _ H3 hu ⟨s3, hD⟩ ⟨rfl, hv⟩
        obtain ⟨own, hown, hfs⟩ := hA.at hv
        have lown := fill_own (List.mem_of_getElem? hown)
        have s03 : Same H H3 := s1.trans (s2.trans s3)
        have hfs3 := hfs.same s3
        have hl3 := hl.same (kbm kbKL _) s03
        obtain ⟨us, hus, hdu⟩ := hl3
        have lus : us.length = lits.length := by rw [dps_le hdu, List.length_map]
        refine ⟨rfl, .inl ⟨.ref l, rfl, l, rfl, ⟨us, SqL.of hus⟩, fun D2 nD2 => ?_⟩⟩
        refine lc_it (walk_list (xs := us)) (fun j H4 => Same H3 H4 ∧ H4 D2 = some (.lst (((lits.take j).map fun q => q.holds nm ce.2 own).map V.bl))) ⟨Same.mut (Same.refl _) nD2, upd_same⟩ (fun j H4 _ h => h.1.seq (SqL.of hus)) ?_ ?_
        · rintro j v2 _ H4 hj ⟨s4, hD2⟩ ⟨rfl, hv2⟩
          obtain ⟨lt, hlt, hdl⟩ := dps_map hdu hv2
          have s04 := s03.trans s4
          obtain ⟨t, va, rfl, ht, hva⟩ := pair_tup (dp_tk (Same.tk s4) _ _ hdl (kbKL lt))
          refine ⟨t, _, rfl, ht, rfl, _, _, rfl, _, _, rfl, rfl, rfl, ?_⟩
          refine ⟨c, rfl, x, rfl, y, rfl, _, rfl, va, rfl, c, x, y, _, va, nm, ce, own, _, _, lt.z, lt.k, rfl, hx.same s04, dp_tk (Same.tk s04) _ _ hy (kbC ce), ok, (hfs3.same s4).dp, lown, hva, hz _ (List.mem_of_getElem? hlt), ⟨_, rfl, ?_⟩⟩
          refine eqB ⟨_, hD2, small1000 (by simp; omega), Same.mut s4 nD2, ?_⟩
          rw [upd_same, List.take_add_one, hlt]
          simp [KL.holds]
        · rintro H4 ⟨s4, hD2⟩
          rw [lus, List.take_length] at hD2
          refine ⟨D2, _, rfl, .of hD2, _, rfl, ?_⟩
          obtain ⟨acc, hD3, hB⟩ := hD
          have ef := take_filter_snoc (fun own => lits.all fun q => q.holds nm ce.2 own) eS hown
          have eall : ((lits.map fun q => q.holds nm ce.2 own).all id) = lits.all fun q => q.holds nm ce.2 own := by
            rw [List.all_map]; rfl
          have la : acc.length ≤ 27 := by
            rw [dps_le hB, List.length_map]
            refine Nat.le_trans (List.length_filter_le _ _) ?_
            rw [List.length_take]; omega
          have hB4 := dps_tk (Same.tk s4) hB (kbm kbS _)
          rw [eall]
          refine ite2 (fun e => ?_) (fun e => ?_)
          · rw [if_pos e] at ef
            refine ⟨_, rfl, acc, s4 _ _ hD3, small1000 (by omega), Same.mut (s3.trans s4) nD, ?_⟩
            rw [ef]
            exact ls_snoc (s4 _ _ hD3) hB4 (kbm kbS _) ((hfs3.same s4).dp) (kbS _)
          · rw [if_neg e, List.append_nil] at ef
            refine ⟨s3.trans s4, ?_⟩
            rw [ef]
            exact ⟨acc, s4 _ _ hD3, hB4⟩
      · rintro H3 ⟨s3, hD⟩
        rw [lx, List.take_length] at hD
        refine q D H3 (s1.trans (s2.trans s3)) ?_
        rw [← E, if_pos eq]
        exact hD
end
end K21


/-! the own parts of a ring card -/
namespace K21
open PySem PySem.Spec PyProof.Rows L2 RN
section
variable {P : Program} {w : World} {K : PySem.W.Frag} {mg : Str → Option Value} {base : Heap} {a : Ad}
theorem ownI_at {H : Hp} {o : V} {own : List Int} {i : Nat} {Q : VK} (ho : Dp K H o (eI own)) (h : i < own.length) (q : Q (.int (own.getD i 0)) H) : rIx K o (.int (i : Int)) H Q := by
  refine rix (d := .int (own.getD i 0)) ho ?_ fun y hy => by cases hy; exact q
  rw [List.getElem?_map, List.getElem?_eq_getElem h, List.getD_eq_getElem?_getD, List.getElem?_eq_getElem h]; rfl
def spRtr (K : PySem.W.Frag) : Sp := fun vs H Q _ => ∃ (c x y o t : V) (n : Nat) (nm : List Str) (ce : Nat × List Nat) (own : List Int) (w0 w1 z1 z2 : Str) (s : Int), vs = [c, x, y, o, t] ∧ Dp K H c (eRing n) ∧ 0 < n ∧ FS H x nm ∧ Dp K H y (eC ce) ∧ MkOk nm.length ce.2 ∧ Dp K H o (eI own) ∧ own.length = blk ce.2 ∧ Dp K H t (.tuple [.str w0, .str w1, .str z1, .str z2, .int s]) ∧ z1 ∈ nm ∧ z2 ∈ nm ∧ ∀ H', Same H H' → Q (.bl (rT n nm ce.2 own z1 z2 s)) H'
theorem ok_rtr (T : Top K mg a) (G_block_of : FnOk P w K mg base CX0 1 a.f_block_of a.d_block_of ["names", "cell", "name"] (spBof K)) : FnOk P w K mg base CX0 2 a.f_ring_truth a.d_ring_truth ["card", "names", "cell", "own", "atom"] (spRtr K) := by
  refine T.F_ring_truth.ok sc_ring_truth (fun vs H Q E h => ?_) (fun cdv A outer s H vs Q E hr h => ?_)
  · obtain ⟨_, _, _, _, _, _, _, _, _, _, _, _, _, _, rfl, _⟩ := h
    rfl
  · obtain ⟨c, x, y, o, t, n, nm, ce, own, w0, w1, z1, z2, s', rfl, hc, hn, hx, hy, ok, ho, lo, ht, hz1, hz2, q⟩ := h
    refine ⟨_, (pss_cons (ps_par (i := 5) (j := 6) rfl sc_ring_truth.nd rfl rfl (by decide) rfl rfl (pa_cons (pe_ix ix_seq (pv 3) (pe_call G_block_of (hr.mono (by decide)) (by rfl) T.m_block_of T.F_block_of.kp T.b_block_of .nil pass0 (pa_cons (pv 1) (pa_cons (pv 2) (pa_cons (pe_ix ix_seq (pv 4) pe_int (fun _ _ => rfl)) pa_nil)))) (fun _ _ => rfl)) (pa_cons (pe_ix ix_seq (pv 3) (pe_call G_block_of (hr.mono (by decide)) (by rfl) T.m_block_of T.F_block_of.kp T.b_block_of .nil pass0 (pa_cons (pv 1) (pa_cons (pv 2) (pa_cons (pe_ix ix_seq (pv 4) pe_int (fun _ _ => rfl)) pa_nil)))) (fun _ _ => rfl)) pa_nil)) rfl)
    (pss_one (ps_ret (pe_cmpR op_eq (pe_op op_mod (pe_op op_add (pv 5) (pe_ix ix_seq (pv 4) pe_int (fun _ _ => rfl))) (pe_ix ix_seq (pv 0) pe_int (fun _ _ => rfl))) (pv 6) (nomark _))))), ?_⟩
    obtain ⟨_, lt1⟩ := bk_get ok rfl hz1
    obtain ⟨_, lt2⟩ := bk_get ok rfl hz2
    refine ⟨o, rfl, x, rfl, y, rfl, t, rfl, rix (i := 2) ht rfl fun a1 ha1 => ?_⟩
    cases ha1
    refine ⟨x, y, z1, nm, ce, rfl, hx, hy, ok, hz1, ownI_at ho (by omega) ?_⟩
    refine ⟨o, rfl, x, rfl, y, rfl, t, rfl, rix (i := 3) ht rfl fun a2 ha2 => ?_⟩
    cases ha2
    refine ⟨x, y, z2, nm, ce, rfl, hx, hy, ok, hz2, ownI_at ho (by omega) ?_⟩
    have s1 : Same H H := Same.refl _
    refine ⟨_, _, rfl, ?_⟩
    refine ⟨_, rfl, t, rfl, rix (i := 4) (dp_tk (Same.tk s1) _ _ ht rfl) rfl fun s2 hs2 => ?_⟩
    cases hs2
    refine ⟨_, _, rfl, rfl, c, rfl, rix (i := 1) (dp_tk (Same.tk s1) _ _ hc rfl) rfl fun n2 hn2 => ?_⟩
    cases hn2
    exact ⟨_, _, rfl, rfl, by omega, _, rfl, eqI (q _ s1)⟩
def cols (c : Nat) : List Int := (List.range c).map fun (i : Nat) => (i : Int)
theorem cols_len (c : Nat) : (cols c).length = c := by unfold cols; simp
def stepB {α : Type} (ks : List α) (r : List α) : List (List α) := ks.map fun k => r ++ [k]
def spCol (K : PySem.W.Frag) : Sp := fun vs H Q _ => ∃ (c n : Nat), vs = [.int (c : Int), .int (n : Int)] ∧ c ≤ 3 ∧ n ≤ 3 ∧ ∀ p H', Same H H' → LsIs K H' p ((rowsB (cols c) n).map eI) → Q (.ref p) H'
theorem ok_col (T : Top K mg a) : FnOk P w K mg base CX0 1 a.f_colorings a.d_colorings ["colors", "blocks"] (spCol K) := by
  refine T.F_colorings.ok sc_colorings (fun vs H Q E h => ?_) (fun cdv A outer s H vs Q E hr h => ?_)
  · obtain ⟨c, n, rfl, _⟩ := h
    rfl
  · obtain ⟨c, n, rfl, hc, hn, q⟩ := h
    refine ⟨_, (pss_cons (ps_set (i := 2) sc_colorings.nd rfl (.inl rfl) (pe_lst (pa_cons (pe_tup pa_nil) pa_nil)))
    (pss_cons (ps_for PassesOwn.never rfl (pi_range1 (by rfl) T.z_range (pa_cons (pv 1) pa_nil)) (pg_name (i := 3) sc_colorings.nd rfl (.inl rfl))
      (pss_one (ps_setLc2 (own := [("own", 4), ("color", 5)]) (vs1 := [5]) (i := 2) rfl sc_colorings.nd rfl rfl (sw_true rfl rfl rfl (by decide +kernel)) (R1.PI.or (pi_list (pv 2)) (pi_tup (pv 2))) (blkOk_by (own := [("own", 4), ("color", 5)]) (N := ["colors", "blocks", "found", "_", "own", "color"]) (sc := defScope s_colorings) (by decide +kernel)) (by decide) (fun _ _ _ _ _ => (pg_name (i := 4) sc_colorings.nd rfl (.inl rfl))) (fun _ _ _ _ _ => pts_nil) (fun _ _ _ _ _ => (pi_range1 (by rfl) T.z_range (pa_cons (pv 0) pa_nil))) (fun _ _ _ _ _ => (pg_name (i := 5) sc_colorings.nd rfl (.inl rfl))) (fun _ _ _ _ _ => pts_nil) (fun _ _ _ _ _ => (pe_tup (R1.pa_starK (K := K) rfl (pv 4) (pa_cons (pv 5) pa_nil)))))))
    (pss_one (ps_ret (pv 2))))), ?_⟩
    refine ⟨Nat.zero_le _, fun p0 n0 => ⟨Nat.le_of_lt (small1000 (by simp)), fun p1 n1 => ?_⟩⟩
    have h1n : H p1 = none := by
      by_cases e : p1 = p0
      · rw [e]; exact n0
      · rw [upd_ne e] at n1; exact n1
    have s0 : Same H (upd (upd H p0 (.tup [])) p1 (.lst [V.ref p0])) := Same.mut (Same.mut (Same.refl _) n0) h1n
    have hp0 : (upd (upd H p0 (.tup [])) p1 (.lst [V.ref p0])) p0 = some (.tup []) := by
      rw [upd_ne (fun e => by rw [← e, upd_same] at n1; cases n1), upd_same]
    refine ⟨.int (n : Int), rfl, (n : Int), rfl, by omega, by omega, for_it walk_range (fun i σ' H' => ∃ p y3, σ' = [some (.int (c : Int)), some (.int (n : Int)), some (.ref p), y3, none, none] ∧ Same H H' ∧ LsIs K H' p ((rowsB (cols c) i).map eI)) ⟨p1, none, rfl, s0, [V.ref p0], upd_same, .cons (.tup (SqT.of hp0) .nil) .nil⟩ (fun _ _ _ _ _ => trivial) ?_ ?_⟩
    · rintro i x σ' _ H1 hi ⟨p, y3, rfl, sm, hp⟩ ⟨rfl, rfl⟩
      have b2 := rowsB_small (ks := cols c) (by rw [cols_len]; exact hc) (show i + 1 ≤ 3 by omega)
      obtain ⟨xs, hp, hA⟩ := hp
      have lx : xs.length = (rowsB (cols c) i).length := by rw [dps_le hA, List.length_map]
      refine .inl ⟨.ref p, rfl, p, rfl, ⟨_, SqL.of hp⟩, fun D nD => R1.walk_it (walk_list (xs := xs)) (fun u H2 => Same H1 H2 ∧ LsIs K H2 D ((((rowsB (cols c) i).take u).flatMap (stepB (cols c))).map eI)) ⟨Same.mut (Same.refl _) nD, ls_nil⟩ (fun u H2 _ h => h.1.seq (SqL.of hp)) ?_ ?_⟩
      · rintro u x _ H2 hu ⟨sm2, hD⟩ ⟨rfl, hx⟩
        obtain ⟨own, hown, hd⟩ := dps_map hA hx
        obtain ⟨b, vs, rfl, hb, hvs⟩ := Dp.tupD hd
        have evs := dps_int hvs
        subst evs
        have lown := (rowsB_mem (List.mem_of_getElem? hown)).1
        have ln : ((rowsB (cols c) i).take (u + 1)).flatMap (stepB (cols c)) = ((rowsB (cols c) i).take u).flatMap (stepB (cols c)) ++ stepB (cols c) own := flat_snoc (stepB (cols c)) hown
        have l2 : (((rowsB (cols c) i).take u).flatMap (stepB (cols c))).length ≤ 27 := Nat.le_trans (flat_take (stepB (cols c)) (rowsB (cols c) i) u) b2
        refine ⟨rfl, .int (c : Int), rfl, _, rfl, by omega, by omega, ?_⟩
        refine R1.walk_it walk_range (fun v H3 => Same H1 H3 ∧ LsIs K H3 D ((((rowsB (cols c) i).take u).flatMap (stepB (cols c)) ++ stepB ((cols c).take v) own).map eI)) ⟨sm2, by simpa [stepB] using hD⟩ (fun _ _ _ _ => trivial) ?_ ?_
        · rintro v x _ H3 hv ⟨sm3, acc3, hD3, hA3⟩ ⟨rfl, rfl⟩
          have hv' : v < c := by omega
          have rv : (cols c).take (v + 1) = (cols c).take v ++ [(v : Int)] := by
            rw [List.take_add_one]
            unfold cols
            rw [List.getElem?_map, List.getElem?_range hv']; rfl
          have la : acc3.length ≤ 100 := by
            have := dps_le hA3
            rw [List.length_map, List.length_append] at this
            have e1 : (stepB ((cols c).take v) own).length ≤ 3 := by
              unfold stepB
              rw [List.length_map, List.length_take]
              omega
            omega
          have hb3 : SqT K H3 b (own.map V.int) := sqT_tk (Same.tk sm3) hb
          refine ⟨rfl, .ref b, rfl, b, _, rfl, .inl hb3, _, rfl, ?_⟩
          refine ⟨Nat.le_of_lt (small1000 (by simp; omega)), fun pt nt => ?_⟩
          have sT : Same H3 (upd H3 pt (.tup (own.map V.int ++ [.int (0 + (v : Int))]))) := same_upd nt
          have hD4 := sT _ _ hD3
          refine ⟨acc3, hD4, small1000 (by omega), Same.mut (sm3.trans sT) nD, ?_⟩
          have e2 : (((rowsB (cols c) i).take u).flatMap (stepB (cols c)) ++ stepB ((cols c).take (v + 1)) own).map eI = (((rowsB (cols c) i).take u).flatMap (stepB (cols c)) ++ stepB ((cols c).take v) own).map eI ++ [eI (own ++ [(v : Int)])] := by
            rw [rv]
            unfold stepB
            simp
          rw [e2]
          refine ls_snoc hD4 (dps_tk (Same.tk sT) hA3 (kbm kbI _)) (kbm kbI _) ?_ (kbI _)
          refine .tup (SqT.of upd_same) ?_
          have := int_dps (K := K) (H := upd H3 pt (.tup (own.map V.int ++ [.int (0 + (v : Int))]))) (own ++ [(v : Int)])
          simpa using this
        · rintro H3 ⟨sm3, hD3⟩
          refine ⟨sm3, ?_⟩
          rw [show ((c : Int)).toNat = c by omega, show (cols c).take c = cols c from List.take_of_length_le (by rw [cols_len]; exact Nat.le_refl _)] at hD3
          rw [ln]
          exact hD3
      · rintro H2 ⟨sm2, hD⟩
        refine ⟨D, _, rfl, sm.trans sm2, ?_⟩
        rw [lx, List.take_length] at hD
        exact hD
    · rintro σ' H1 ⟨p, y3, rfl, sm, hp⟩
      exact ⟨.ref p, rfl, q p H1 sm (by simpa using hp)⟩
def spRparts (K : PySem.W.Frag) : Sp := fun vs H Q _ => ∃ (c x y : V) (l : Addr) (n : Nat) (nm : List Str) (ce : Nat × List Nat) (lits : List RL), vs = [c, x, .ref l, y] ∧ Dp K H c (eRing n) ∧ 0 < n ∧ n ≤ 3 ∧ FS H x nm ∧ Dp K H y (eC ce) ∧ MkOk nm.length ce.2 ∧ LsIs K H l (lits.map eRL) ∧ (∀ q ∈ lits, q.x ∈ nm ∧ q.y ∈ nm) ∧ lits.length ≤ 100 ∧
  ∀ p H', Same H H' → LsIs K H' p (((rParts n ce.2).filter fun own => lits.all fun q => q.holds n nm ce.2 own).map eI) → Q (.ref p) H'
theorem ok_rparts (T : Top K mg a) (G_block_count : FnOk P w K mg base CX0 1 a.f_block_count a.d_block_count ["marks"] (spBlk K)) (G_colorings : FnOk P w K mg base CX0 1 a.f_colorings a.d_colorings ["colors", "blocks"] (spCol K)) (G_ring_truth : FnOk P w K mg base CX0 2 a.f_ring_truth a.d_ring_truth ["card", "names", "cell", "own", "atom"] (spRtr K)) : FnOk P w K mg base CX0 3 a.f_ring_parts a.d_ring_parts ["card", "names", "literals", "cell"] (spRparts K) := by
  refine T.F_ring_parts.ok sc_ring_parts (fun vs H Q E h => ?_) (fun cdv A outer s H vs Q E hr h => ?_)
  · obtain ⟨_, _, _, _, _, _, _, _, rfl, _⟩ := h
    rfl
  · obtain ⟨c, x, y, l, n, nm, ce, lits, rfl, hc, hn, hn3, hx, hy, ok, hl, hz, ll, q⟩ := h
    refine ⟨_, (pss_one (ps_ret (pe_lc (own := [("own", 4)]) rfl sc_ring_parts.nd (R1.PI.or (pi_list (pe_call G_colorings (hr.mono (by decide)) (by rfl) T.m_colorings T.F_colorings.kp T.b_colorings .nil pass0 (pa_cons (pe_ix ix_seq (pv 0) pe_int (fun _ _ => rfl)) (pa_cons (pe_call G_block_count (hr.mono (by decide)) (by rfl) T.m_block_count T.F_block_count.kp T.b_block_count .nil pass0 (pa_cons (pe_ix ix_seq (pv 3) pe_int (fun _ _ => rfl)) pa_nil)) pa_nil)))) (pi_tup (pe_call G_colorings (hr.mono (by decide)) (by rfl) T.m_colorings T.F_colorings.kp T.b_colorings .nil pass0 (pa_cons (pe_ix ix_seq (pv 0) pe_int (fun _ _ => rfl)) (pa_cons (pe_call G_block_count (hr.mono (by decide)) (by rfl) T.m_block_count T.F_block_count.kp T.b_block_count .nil pass0 (pa_cons (pe_ix ix_seq (pv 3) pe_int (fun _ _ => rfl)) pa_nil)) pa_nil))))) (blkOk_by (own := [("own", 4)]) (N := ["card", "names", "literals", "cell", "own", "atom", "sign"]) (sc := defScope s_ring_parts) (by decide +kernel)) (fun _ _ _ _ _ => (pg_name (i := 4) sc_ring_parts.nd rfl (.inr rfl))) (fun _ _ _ _ _ => pts_one (pt_val (pe_callB (RT.cr_allK (K := K) rfl rfl) (by rfl) T.z_all (by decide +kernel) (pa_cons (pe_lc (own := [("atom", 5), ("sign", 6)]) rfl sc_ring_parts.nd (R1.PI.or (R1.pi_listK (K := K) rfl (pv 2)) (R1.pi_tupK (K := K) rfl (pv 2))) (RT.blkIn (own := [("atom", 5), ("sign", 6)]) rfl (N := ["card", "names", "literals", "cell", "own", "atom", "sign"]) (blkOk_by (by decide +kernel))) (fun _ _ _ _ _ => (R1.pg_tupK (K := K) (n := 2) rfl rfl (pgs_cons (pg_name (i := 5) sc_ring_parts.nd rfl (.inl rfl)) (pgs_cons (pg_name (i := 6) sc_ring_parts.nd rfl (.inl rfl)) pgs_nil)))) (fun _ _ _ _ _ => pts_nil) (fun _ _ _ _ _ => (pe_cmpR op_eq (pe_call G_ring_truth (hr.mono (by decide)) (by rfl) T.m_ring_truth T.F_ring_truth.kp T.b_ring_truth .nil pass0 (pa_cons (pv 0) (pa_cons (pv 1) (pa_cons (pv 3) (pa_cons (pv 4) (pa_cons (pv 5) pa_nil)))))) (pv 6) (nomark _)))) pa_nil)))) (fun _ _ _ _ _ => (pv 4))))), ?_⟩
    refine .inl ⟨c, rfl, rix (i := 1) hc rfl fun r hr => ⟨y, rfl, rix (i := 1) hy rfl fun m hm => ⟨m, nm.length, ce.2, rfl, hm, ok, ?_⟩⟩⟩
    cases hr
    refine ⟨n, blk ce.2, rfl, hn3, ok.le, fun p H2 s2 hp => ?_⟩
    obtain ⟨xs, hp, hA⟩ := hp
    have lx : xs.length = (rParts n ce.2).length := by rw [dps_le hA, List.length_map]; rfl
    have l27 : (rParts n ce.2).length ≤ 27 := rowsB_small (ks := cols n) (by rw [cols_len]; exact hn3) ok.le
    refine ⟨p, rfl, ⟨xs, SqL.of hp⟩, fun D nD => ?_⟩
    refine lc_it (walk_list (xs := xs)) (fun u H3 => Same H2 H3 ∧ LsIs K H3 D ((((rParts n ce.2).take u).filter fun own => lits.all fun q => q.holds n nm ce.2 own).map eI)) ⟨Same.mut (Same.refl _) nD, ls_nil⟩ (fun u H3 _ h => h.1.seq (SqL.of hp)) ?_ ?_
    · rintro u v _ H3 hu ⟨s3, hD⟩ ⟨rfl, hv⟩
      obtain ⟨own, hown, hd⟩ := dps_map hA hv
      have hown : (rParts n ce.2)[u]? = some own := hown
      have lown : own.length = blk ce.2 := (rowsB_mem (List.mem_of_getElem? hown)).1
      have s03 : Same H H3 := s2.trans s3
      have hd3 := dp_tk (Same.tk s3) _ _ hd (kbI own)
      have hl3 := hl.same (kbm kbRL _) s03
      obtain ⟨us, hus, hdu⟩ := hl3
      have lus : us.length = lits.length := by rw [dps_le hdu, List.length_map]
      refine ⟨rfl, .inl ⟨.ref l, rfl, l, rfl, ⟨us, SqL.of hus⟩, fun D2 nD2 => ?_⟩⟩
      refine lc_it (walk_list (xs := us)) (fun j H4 => Same H3 H4 ∧ H4 D2 = some (.lst (((lits.take j).map fun q => q.holds n nm ce.2 own).map V.bl))) ⟨Same.mut (Same.refl _) nD2, upd_same⟩ (fun j H4 _ h => h.1.seq (SqL.of hus)) ?_ ?_
      · rintro j v2 _ H4 hj ⟨s4, hD2⟩ ⟨rfl, hv2⟩
        obtain ⟨lt, hlt, hdl⟩ := dps_map hdu hv2
        have s04 := s03.trans s4
        obtain ⟨t, va, rfl, ht, hva⟩ := pair_tup (dp_tk (Same.tk s4) _ _ hdl (kbRL lt))
        obtain ⟨hz1, hz2⟩ := hz _ (List.mem_of_getElem? hlt)
        refine ⟨t, _, rfl, ht, rfl, _, _, rfl, _, _, rfl, rfl, rfl, ?_⟩
        refine ⟨c, rfl, x, rfl, y, rfl, _, rfl, va, rfl, c, x, y, _, va, n, nm, ce, own, _, _, lt.x, lt.y, lt.s, rfl, dp_tk (Same.tk s04) _ _ hc rfl, hn, hx.same s04, dp_tk (Same.tk s04) _ _ hy (kbC ce), ok, dp_tk (Same.tk s4) _ _ hd3 (kbI own), lown, hva, hz1, hz2, fun H5 s5 => ⟨_, rfl, ?_⟩⟩
        refine eqB ⟨_, s5 _ _ hD2, small1000 (by simp; omega), Same.mut (s4.trans s5) nD2, ?_⟩
        rw [upd_same, List.take_add_one, hlt]
        simp [RL.holds]
      · rintro H4 ⟨s4, hD2⟩
        rw [lus, List.take_length] at hD2
        refine ⟨D2, _, rfl, .of hD2, _, rfl, ?_⟩
        obtain ⟨acc, hD3, hB⟩ := hD
        have ef := take_filter_snoc (fun own => lits.all fun q => q.holds n nm ce.2 own) eI hown
        have eall : ((lits.map fun q => q.holds n nm ce.2 own).all id) = lits.all fun q => q.holds n nm ce.2 own := by
          rw [List.all_map]; rfl
        have la : acc.length ≤ 27 := by
          rw [dps_le hB, List.length_map]
          refine Nat.le_trans (List.length_filter_le _ _) ?_
          rw [List.length_take]; omega
        have hB4 := dps_tk (Same.tk s4) hB (kbm kbI _)
        rw [eall]
        refine ite2 (fun e => ?_) (fun e => ?_)
        · rw [if_pos e] at ef
          refine ⟨_, rfl, acc, s4 _ _ hD3, small1000 (by omega), Same.mut (s3.trans s4) nD, ?_⟩
          rw [ef]
          exact ls_snoc (s4 _ _ hD3) hB4 (kbm kbI _) (dp_tk (Same.tk s4) _ _ hd3 (kbI own)) (kbI _)
        · rw [if_neg e, List.append_nil] at ef
          refine ⟨s3.trans s4, ?_⟩
          rw [ef]
          exact ⟨acc, s4 _ _ hD3, hB4⟩
    · rintro H3 ⟨s3, hD⟩
      rw [lx, List.take_length] at hD
      exact q D H3 (s2.trans s3) hD
end
end K21


/-! the names -/
namespace K21
open PySem PySem.Spec PyProof.Rows L2 RN
section
variable {P : Program} {w : World} {K : PySem.W.Frag} {mg : Str → Option Value} {base : Heap} {a : Ad}
theorem vEq {σ : L2.St} {H : Hp} {Q : VK} {i : Nat} {x c : Int} (h : σ[i]? = some (some (.int x))) (q : Q (.bl (decide (x = c))) H) : tOp rEq (tVar i) (tC (.int c)) σ H Q := ⟨_, h, eqI q⟩
theorem vEqT {σ : L2.St} {H : Hp} {Q : Bool → Hp → Prop} {i : Nat} {x c : Int} (h : σ[i]? = some (some (.int x))) (q : Q (decide (x = c)) H) : tTest (tOp rEq (tVar i) (tC (.int c))) σ H Q := vEq h ⟨_, rfl, q⟩
def spNames : Sp := fun vs H Q _ => ∃ (sc st : Addr) (n : Nat), vs = [.ref st, .int (n : Int)] ∧ Sta sc H st ∧ n ≤ 3 ∧ ∀ x nm H', Kp st H H' → Sta sc H' st → FS H' x nm → nm.length = n → Q x H'
theorem ok_names (T : Top K mg a) (G_l_draw : FnOk P w K mg base CX0 1 a.f_l_draw a.d_l_draw ["_law_state_here", "_law_many"] spDraw) : FnOk P w K mg base CX0 2 a.f_l_names a.d_l_names ["_law_state_here", "_law_count"] spNames := by
  refine T.F_l_names.ok sc_l_names (fun vs H Q E h => ?_) (fun cdv A outer s H vs Q E hr h => ?_)
  · obtain ⟨_, _, _, rfl, _⟩ := h
    rfl
  · obtain ⟨sc, st, n, rfl, S0, hn, q⟩ := h
    refine ⟨_, (pss_cons (ps_set (i := 2) sc_l_names.nd rfl (.inl rfl) (pe_call G_l_draw (hr.mono (by decide)) (by rfl) T.m_l_draw T.F_l_draw.kp T.b_l_draw .nil pass0 (pa_cons (pv 0) (pa_cons pe_int pa_nil))))
    (pss_cons (ps_set (i := 3) sc_l_names.nd rfl (.inr rfl) (pe_call G_l_draw (hr.mono (by decide)) (by rfl) T.m_l_draw T.F_l_draw.kp T.b_l_draw .nil pass0 (pa_cons (pv 0) (pa_cons pe_int pa_nil))))
    (pss_cons (ps_set (i := 4) sc_l_names.nd rfl (.inr rfl) (pe_lst (pa_cons pe_str (pa_cons pe_str (pa_cons pe_str pa_nil)))))
    (C8.pss_cut (ps_if (pt_cmpR op_eq (pv 2) pe_int (nomark _))
      (pss_one (ps_set (i := 4) sc_l_names.nd rfl (.inr rfl) (pe_lst (pa_cons (pe_op op_add_str pe_str (pe_callTy call_str_int (by rfl) T.z_str (by decide +kernel) (pa_cons (pv 3) pa_nil))) (pa_cons (pe_op op_add_str pe_str (pe_callTy call_str_int (by rfl) T.z_str (by decide +kernel) (pa_cons (pe_op op_add (pv 3) pe_int) pa_nil))) (pa_cons pe_str pa_nil))))))
      (pss_one (ps_if (pt_cmpR op_eq (pv 2) pe_int (nomark _))
        (pss_one (ps_set (i := 4) sc_l_names.nd rfl (.inr rfl) (pe_lst (pa_cons pe_str (pa_cons pe_str (pa_cons pe_str pa_nil))))))
        (pss_one (ps_if (pt_cmpR op_eq (pv 2) pe_int (nomark _))
          (pss_one (ps_set (i := 4) sc_l_names.nd rfl (.inr rfl) (pe_lst (pa_cons pe_str (pa_cons (pe_op op_add_str pe_str (pe_callTy call_str_int (by rfl) T.z_str (by decide +kernel) (pa_cons (pv 3) pa_nil))) (pa_cons (pe_op op_add_str (pe_op op_add_str pe_str (pe_callTy call_str_int (by rfl) T.z_str (by decide +kernel) (pa_cons (pv 3) pa_nil))) pe_str) pa_nil))))))
          pss_nil)))))
    (pss_one (ps_ret (pe_callTy RN.call_tupleF (by rfl) T.z_tuple (by decide +kernel) (pa_cons (pe_callB cr_sortedS (by rfl) T.z_sorted (by decide +kernel) (pa_cons (pe_lc (own := [("_law_k", 5)]) rfl sc_l_names.nd (pi_range1 (by rfl) T.z_range (pa_cons (pv 1) pa_nil)) (blkOk_by (own := [("_law_k", 5)]) (N := ["_law_state_here", "_law_count", "_law_style", "_law_at", "_law_names_here", "_law_k"]) (sc := defScope s_l_names) (by decide +kernel)) (fun _ _ _ _ _ => (pg_name (i := 5) sc_l_names.nd rfl (.inl rfl))) (fun _ _ _ _ _ => pts_nil) (fun _ _ _ _ _ => (pe_ix (R1.ix_seqK (K := K) rfl) (pv 4) (pe_op op_mod (pe_callTy call_int1 (by rfl) T.z_int (by decide +kernel) (pa_cons (pe_op op_add (pv 5) (pv 3)) pa_nil)) pe_int) (fun _ _ => rfl)))) pa_nil)) pa_nil)))))))), ?_⟩
    refine ⟨.ref st, rfl, sc, st, 4, rfl, S0, by decide, by decide, fun H1 v1 k1 S1 a0 a1 => ?_⟩
    refine ⟨.ref st, rfl, sc, st, 9, rfl, S1, by decide, by decide, fun H2 v2 k2 S2 b0 b1 => ?_⟩
    have k02 := k1.trans k2
    obtain ⟨l9, l10, t1, t2, t3, t4, t5⟩ : v2.natAbs.log2 < 1920 ∧ (v2 + 10).natAbs.log2 < 1920 ∧ ("a" : Str).length + (toString v2 : Str).length ≤ sizeLine ∧ ("a" : Str).length + (toString (v2 + 10) : Str).length ≤ sizeLine ∧ ("z" : Str).length + (toString v2 : Str).length ≤ sizeLine ∧ ("h" : Str).length + (toString v2 : Str).length ≤ sizeLine ∧ (("h" : Str) ++ (toString v2 : Str)).length + ("00" : Str).length ≤ sizeLine := by
      obtain ⟨m, hm, rfl⟩ : ∃ m : Nat, m < 9 ∧ v2 = (m : Int) := ⟨v2.toNat, by omega, by omega⟩
      have : ∀ m : Fin 9, (((m : Nat) : Int)).natAbs.log2 < 1920 ∧ (((m : Nat) : Int) + 10).natAbs.log2 < 1920 ∧ ("a" : Str).length + (toString ((m : Nat) : Int) : Str).length ≤ sizeLine ∧ ("a" : Str).length + (toString (((m : Nat) : Int) + 10) : Str).length ≤ sizeLine ∧ ("z" : Str).length + (toString ((m : Nat) : Int) : Str).length ≤ sizeLine ∧ ("h" : Str).length + (toString ((m : Nat) : Int) : Str).length ≤ sizeLine ∧ (("h" : Str) ++ (toString ((m : Nat) : Int) : Str)).length + ("00" : Str).length ≤ sizeLine := by decide +kernel
      exact this ⟨m, hm⟩
    refine ⟨by show 3 ≤ sizeLine; decide, fun L nL => ?_⟩
    have k03 := k02.new (o := .lst [.str "a", .str "b", .str "c"]) nL
    have S3 := S2.same (same_upd (o := .lst [.str "a", .str "b", .str "c"]) nL)
    have three : ∀ (L : Addr) (H3 : Hp) (x y z : Str), H3 L = none → Kp st H H3 → Sta sc H3 st → ∃ L' l3, (upd H3 L (.lst [.str x, .str y, .str z])) L' = some (.lst ((l3 : List Str).map V.str)) ∧ l3.length = 3 ∧ Kp st H (upd H3 L (.lst [.str x, .str y, .str z])) ∧ Sta sc (upd H3 L (.lst [.str x, .str y, .str z])) st ∧ L' = L := fun L H3 x y z nL k S => ⟨L, [x, y, z], upd_same, rfl, k.new nL, S.same (same_upd nL), rfl⟩
    refine ⟨fun σ' H' => ∃ L l3, σ' = [some (.ref st), some (.int (n : Int)), some (.int v1), some (.int v2), some (.ref L), none] ∧ H' L = some (.lst ((l3 : List Str).map V.str)) ∧ l3.length = 3 ∧ Kp st H H' ∧ Sta sc H' st, ?_, ?_⟩
    · refine vEqT rfl (ite2 (fun e1 => ?_) (fun e1 => ?_))
      · refine ⟨_, rfl, v2, rfl, l9, _, _, rfl, rfl, t1, _, rfl, _, _, rfl, rfl, _, rfl, l10, _, _, rfl, rfl, t2, by show 3 ≤ sizeLine; decide, fun L2 nL2 => ?_⟩
        obtain ⟨_, l3, h1, h2, h3, h4, rfl⟩ := three L2 _ ("a" ++ toString v2) ("a" ++ toString (v2 + 10)) "b" nL2 k03 S3
        exact ⟨_, l3, rfl, h1, h2, h3, h4⟩
      · refine vEqT rfl (ite2 (fun e2 => ?_) (fun e2 => ?_))
        · refine ⟨by show 3 ≤ sizeLine; decide, fun L2 nL2 => ?_⟩
          obtain ⟨_, l3, h1, h2, h3, h4, rfl⟩ := three L2 _ "x1" "x10" "x2" nL2 k03 S3
          exact ⟨_, l3, rfl, h1, h2, h3, h4⟩
        · refine vEqT rfl (ite2 (fun e3 => ?_) (fun e3 => ?_))
          · refine ⟨_, rfl, v2, rfl, l9, _, _, rfl, rfl, t3, _, rfl, v2, rfl, l9, _, _, rfl, rfl, t4, _, _, rfl, rfl, t5, by show 3 ≤ sizeLine; decide, fun L2 nL2 => ?_⟩
            obtain ⟨_, l3, h1, h2, h3, h4, rfl⟩ := three L2 _ "z" ("z" ++ toString v2) ("h" ++ toString v2 ++ "00") nL2 k03 S3
            exact ⟨_, l3, rfl, h1, h2, h3, h4⟩
          · exact ⟨L, ["a", "b", "c"], rfl, upd_same, rfl, k03, S3⟩
    · rintro σ' H3 ⟨L, l3, rfl, hL, h3, k03, S3⟩
      refine ⟨.int (n : Int), rfl, _, rfl, by omega, by omega, fun D nD => ?_⟩
      refine lc_it walk_range (fun i H4 => Same H3 H4 ∧ ∃ ls : List Str, ls.length = i ∧ H4 D = some (.lst (ls.map V.str))) ⟨Same.mut (Same.refl _) nD, [], rfl, upd_same⟩ (fun _ _ _ _ => trivial) ?_ ?_
      · rintro i x _ H4 hi ⟨s4, ls, ll, hD⟩ ⟨rfl, rfl⟩
        have h0 : 0 ≤ (0 + (i : Int) + v2) % 3 := Int.emod_nonneg _ (by decide)
        have h1 : (0 + (i : Int) + v2) % 3 < 3 := Int.emod_lt_of_pos _ (by decide)
        obtain ⟨j, hj⟩ : ∃ j : Nat, (0 + (i : Int) + v2) % 3 = (j : Int) := ⟨((0 + (i : Int) + v2) % 3).toNat, by omega⟩
        have hj3 : j < l3.length := by omega
        refine ⟨rfl, .ref L, rfl, _, rfl, _, rfl, _, _, rfl, rfl, .inl ⟨_, rfl, _, _, rfl, rfl, (by show (0 : Int) < 3; decide), ?_⟩⟩
        show rIx K (.ref L) (.int ((0 + (i : Int) + v2) % 3)) H4 _
        rw [hj]
        refine .inl ⟨L, _, _, .str l3[j], rfl, rfl, .of (s4 _ _ hL), atI_nat (by rw [List.getElem?_map, List.getElem?_eq_getElem hj3]; rfl), _, hD, small1000 (by simp; omega), Same.mut s4 nD, ls ++ [l3[j]], by simp [ll], ?_⟩
        rw [upd_same]
        simp
      · rintro H4 ⟨s4, ls, ll, hD⟩
        refine ⟨D, ls, rfl, .of hD, by omega, fun ys p pe _ np => ⟨p, _, rfl, upd_same, fun t H5 nt s5 hf => ?_⟩⟩
        have s35 : Same H3 H5 := s4.trans ((same_upd np).trans s5)
        exact q _ ys H5 (k03.same s35) (S3.same s35) ⟨t, rfl, hf⟩ (by rw [pe.length_eq, ll]; omega)
end
end K21


/-! marks and cells -/
namespace K21
open PySem PySem.Spec PyProof.Rows L2 RN
section
variable {P : Program} {w : World} {K : PySem.W.Frag} {mg : Str → Option Value} {base : Heap} {a : Ad}
/-- a tuple of these values whose object is known -/
def FZ (H : Hp) (x : V) (vs : List V) : Prop := ∃ p, x = .ref p ∧ FrzT H p vs
theorem FZ.same {H H' : Hp} {x : V} {vs : List V} (s : Same H H') (h : FZ H x vs) : FZ H' x vs := let ⟨p, e, f⟩ := h; ⟨p, e, f.same s⟩
theorem FZ.upd {H : Hp} {D : Addr} {l1 : List V} {o : HO} {x : V} {vs : List V} (hD : H D = some (.lst l1)) (h : FZ H x vs) : FZ (L2.upd H D o) x vs := by
  obtain ⟨p, e, ob, d, f⟩ := h
  refine ⟨p, e, ob, d, ?_⟩
  rw [upd_ne (fun z => by rw [z, hD] at f; cases f)]; exact f
theorem al_fz {α : Type} {H : Hp} {g : α → List V} {e : α → PyData} (h : ∀ (r : α), DpAll K H (g r) (match e r with | .tuple ds => ds | _ => [])) (he : ∀ r, ∃ ds, e r = .tuple ds) : ∀ {xs : List V} {rs : List α}, R1.Al (fun x r => FZ H x (g r)) xs rs → DpAll K H xs (rs.map e)
  | [], [], _ => .nil
  | [], _ :: _, h => by have := h.1; simp at this
  | _ :: _, [], h => by have := h.1; simp at this
  | x :: xs, r :: rs, q => by
    refine .cons ?_ (al_fz h he ⟨Nat.succ.inj q.1, fun i y m a b => q.2 (i + 1) y m (by simpa using a) (by simpa using b)⟩)
    obtain ⟨p, rfl, f⟩ := q.2 0 x r rfl rfl
    obtain ⟨ds, ed⟩ := he r
    have := h r
    rw [ed] at this ⊢
    exact .tup f.sq this
theorem nv_dps {H : Hp} (ms : List Nat) : DpAll K H (nvals ms) ((ivals ms).map .int) := by
  rw [nvals_i]; exact int_dps _
def spMarks (K : PySem.W.Frag) : Sp := fun vs H Q _ => ∃ n : Nat, vs = [.int (n : Int)] ∧ n ≤ 3 ∧ ∀ p H', Same H H' → H p = none → LsIs K H' p ((parts n).map eM) → Q (.ref p) H'
theorem ok_marks (T : Top K mg a) : FnOk P w K mg base CX0 1 a.f_l_marks a.d_l_marks ["_law_count"] (spMarks K) := by
  refine T.F_l_marks.ok sc_l_marks (fun vs H Q E h => ?_) (fun cdv A outer s H vs Q E hr h => ?_)
  · obtain ⟨n, rfl, _⟩ := h
    rfl
  · obtain ⟨n, rfl, hn, q⟩ := h
    refine ⟨_, (pss_cons (ps_set (i := 1) sc_l_marks.nd rfl (.inl rfl) (pe_lst (pa_cons (RT.pe_tupF pa_nil) pa_nil)))
    (pss_cons (ps_for PassesOwn.never rfl (pi_range1 (by rfl) T.z_range (pa_cons (pv 0) pa_nil)) (pg_name (i := 2) sc_l_marks.nd rfl (.inl rfl))
      (pss_cons (ps_set (i := 3) sc_l_marks.nd rfl (.inl rfl) (pe_lst pa_nil))
      (pss_cons (ps_for PassesOwn.never rfl (R1.PI.or (pi_list (pe_callTy call_list_of (by rfl) T.z_list (by decide +kernel) (pa_cons (pv 1) pa_nil))) (pi_tup (pe_callTy call_list_of (by rfl) T.z_list (by decide +kernel) (pa_cons (pv 1) pa_nil)))) (pg_name (i := 4) sc_l_marks.nd rfl (.inl rfl))
        (pss_one (ps_for PassesOwn.never rfl (pi_range1 (by rfl) T.z_range (pa_cons (pe_op op_add (R1.pe_lenSetX rfl (by rfl) T.z_len (by rfl) T.z_set (pv 4)) pe_int) pa_nil)) (pg_name (i := 5) sc_l_marks.nd rfl (.inl rfl))
          (pss_one (ps_expr (pe_bm PySem.F.plainAttrs_list PySem.F.slot_list_append PySem.F.type_list_append mt_append (pv 3) (pa_cons (pe_op RT.op_catF (pv 4) (RT.pe_tupF (pa_cons (pv 5) pa_nil))) pa_nil)))))))
      (pss_one (ps_set (i := 1) sc_l_marks.nd rfl (.inl rfl) (pv 3))))))
    (pss_one (ps_ret (pv 1))))), ?_⟩
    refine ⟨Nat.zero_le _, fun p0 o0 n0 d0 => ⟨Nat.le_of_lt (small1000 (by simp)), fun p1 n1 => ?_⟩⟩
    have h1n : H p1 = none := by
      by_cases e : p1 = p0
      · rw [e]; exact n0
      · rw [upd_ne e] at n1; exact n1
    have s0 : Same H (upd (upd H p0 (.frz o0 (.tup []))) p1 (.lst [V.ref p0])) := Same.mut (Same.mut (Same.refl _) n0) h1n
    have hp0 : (upd (upd H p0 (.frz o0 (.tup []))) p1 (.lst [V.ref p0])) p0 = some (.frz o0 (.tup [])) := by
      rw [upd_ne (fun e => by rw [← e, upd_same] at n1; cases n1), upd_same]
    refine ⟨.int (n : Int), rfl, (n : Int), rfl, by omega, by omega, for_it walk_range (fun i σ' H' => ∃ p xs y2 y3 y4 y5, σ' = [some (.int (n : Int)), some (.ref p), y2, y3, y4, y5] ∧ Same H H' ∧ H p = none ∧ H' p = some (.lst xs) ∧ R1.Al (fun x ms => FZ H' x (nvals ms)) xs (parts i)) ⟨p1, [V.ref p0], none, none, none, none, rfl, s0, h1n, upd_same, R1.Al.one ⟨p0, rfl, o0, d0, hp0⟩⟩ (fun _ _ _ _ _ => trivial) ?_ ?_⟩
    · rintro i x σ' _ H1 hi ⟨p, xs, y2, y3, y4, y5, rfl, sm, np, hp, hA⟩ ⟨rfl, rfl⟩
      have b1 := (parts_ok (show i ≤ 3 by omega)).2
      have b2 := (parts_ok (show i + 1 ≤ 3 by omega)).1
      have lx : xs.length = (parts i).length := hA.1
      refine ⟨Nat.zero_le _, fun D nD => ?_⟩
      have hp1 := same_upd (o := .lst []) nD _ _ hp
      refine .inl ⟨.ref p, rfl, p, xs, rfl, .inl (SqL.of hp1), fun l nl => ?_⟩
      have nlH : H1 l = none := by
        by_cases e : l = D
        · rw [e]; exact nD
        · rw [upd_ne e] at nl; exact nl
      have lD : l ≠ D := fun e => by rw [e, upd_same] at nl; cases nl
      have hD0 : (upd (upd H1 D (.lst [])) l (.lst xs)) D = some (.lst []) := by rw [upd_ne (Ne.symm lD), upd_same]
      have hl0 : (upd (upd H1 D (.lst [])) l (.lst xs)) l = some (.lst xs) := upd_same
      have sm0 : Same H1 (upd (upd H1 D (.lst [])) l (.lst xs)) := Same.mut (Same.mut (Same.refl _) nD) nlH
      refine ⟨l, rfl, ⟨xs, SqL.of hl0⟩, for_it (walk_list (xs := xs)) (fun u σ' H2 => ∃ y4 y5 acc, σ' = [some (.int (n : Int)), some (.ref p), some (.int (0 + (i : Int))), some (.ref D), y4, y5] ∧ Same H1 H2 ∧ H2 l = some (.lst xs) ∧ H2 D = some (.lst acc) ∧ R1.Al (fun x ms => FZ H2 x (nvals ms)) acc (((parts i).take u).flatMap nextP)) ⟨y4, y5, [], rfl, sm0, hl0, hD0, R1.Al.nil⟩ ?_ ?_ ?_⟩
      · rintro u σ' H2 _ ⟨_, _, _, _, _, h, _⟩
        exact SqL.of h
      · rintro u x σ' _ H2 hu ⟨z4, z5, acc, rfl, sm2, hl2, hD, hB⟩ ⟨rfl, hx⟩
        obtain ⟨ms, hms, b, rfl, hb⟩ := hA.at hx
        have mo := b1 ms (List.mem_of_getElem? hms)
        have hb2 := hb.same sm2
        have ln : ((parts i).take (u + 1)).flatMap nextP = ((parts i).take u).flatMap nextP ++ nextP ms := flat_snoc nextP hms
        have l2 : (((parts i).take u).flatMap nextP).length ≤ 5 := Nat.le_trans (flat_take nextP (parts i) u) b2
        refine ⟨.ref b, rfl, b, ivals ms, rfl, .inr (by rw [← nvals_i]; exact hb2.sq), by unfold ivals; rw [List.length_map, mo.len]; omega, _, 1, rfl, rfl, _, rfl, ?_, ?_, ?_⟩
        · rw [mo.ds]; have := mo.le; omega
        · rw [mo.ds]; have := mo.le; omega
        refine for_it walk_range (fun v σ' H3 => ∃ y5 acc, σ' = [some (.int (n : Int)), some (.ref p), some (.int (0 + (i : Int))), some (.ref D), some (.ref b), y5] ∧ Same H1 H3 ∧ H3 l = some (.lst xs) ∧ H3 D = some (.lst acc) ∧ R1.Al (fun x ms => FZ H3 x (nvals ms)) acc (((parts i).take u).flatMap nextP ++ ((List.range (blk ms + 1)).take v).map fun m => ms ++ [m])) ⟨z5, acc, rfl, sm2, hl2, hD, by simpa using hB⟩ (fun _ _ _ _ _ => trivial) ?_ ?_
        · rintro v x σ' _ H3 hv ⟨w5, acc3, rfl, sm3, hl3, hD3, hA3⟩ ⟨rfl, rfl⟩
          have hv' : v < blk ms + 1 := by rw [mo.ds] at hv; omega
          have rv : (List.range (blk ms + 1)).take (v + 1) = (List.range (blk ms + 1)).take v ++ [v] := by
            rw [List.take_add_one, List.getElem?_range hv']; rfl
          have la : acc3.length ≤ 1000 := by
            have := hA3.1
            have := mo.le
            rw [List.length_append, List.length_map, List.length_take, List.length_range] at *
            omega
          have hb3 := hb.same sm3
          refine ⟨.ref D, rfl, .inl ⟨rfl, acc3, SqL.of hD3⟩, .ref b, rfl, .int (0 + (v : Int)), rfl, Nat.le_of_lt (small1000 (by simp)), fun pt ot nt dt => ?_⟩
          have sT : Same H3 (upd H3 pt (.frz ot (.tup [.int (0 + (v : Int))]))) := same_upd nt
          refine ⟨b, pt, _, _, rfl, rfl, hb3.same sT, ⟨ot, dt, upd_same⟩, ?_, fun p2 H4 s4 hf => ?_⟩
          · refine Nat.le_of_lt (small1000 ?_)
            unfold nvals
            rw [List.length_map, mo.len]
            show i + 1 ≤ 1000
            omega
          have sT2 : Same H3 H4 := sT.trans s4
          have hD4 := sT2 _ _ hD3
          refine ⟨D, acc3, .ref p2, rfl, rfl, hD4, small1000 la, _, _, rfl, ?_, ?_, upd_same, ?_⟩
          · exact Same.mut (sm3.trans sT2) nD
          · rw [upd_ne lD]; exact sT2 _ _ hl3
          · rw [rv, List.map_append, ← List.append_assoc]
            refine R1.Al.snoc (hA3.mono fun x r h => (h.same sT2).upd hD4) (FZ.upd hD4 ⟨p2, rfl, ?_⟩)
            have e : nvals (ms ++ [v]) = nvals ms ++ [V.int (0 + (v : Int))] := by unfold nvals; simp
            rw [e]; exact hf
        · rintro σ' H3 ⟨w5, acc3, rfl, sm3, hl3, hD3, hA3⟩
          refine ⟨_, _, acc3, rfl, sm3, hl3, hD3, ?_⟩
          rw [show (((R1.dist (ivals ms)).length : Int) + 1).toNat = blk ms + 1 by rw [mo.ds]; omega, show (List.range (blk ms + 1)).take (blk ms + 1) = List.range (blk ms + 1) from List.take_of_length_le (by simp)] at hA3
          rw [ln]
          exact hA3
      · rintro σ' H2 ⟨z4, z5, acc, rfl, sm2, hl2, hD, hB⟩
        rw [lx, List.take_length] at hB
        exact ⟨_, rfl, D, acc, _, _, _, _, rfl, sm.trans sm2, sm.free nD, hD, hB⟩
    · rintro σ' H1 ⟨p, xs, y2, y3, y4, y5, rfl, sm, np, hp, hA⟩
      have hA : R1.Al (fun x ms => FZ H1 x (nvals ms)) xs (parts n) := by simpa using hA
      refine ⟨.ref p, rfl, q p H1 sm np ⟨xs, hp, ?_⟩⟩
      exact al_fz (g := nvals) (e := eM) (fun ms => nv_dps ms) (fun ms => ⟨_, rfl⟩) hA
theorem if_ans {c : TT} {t u : TS} {D : Ends} {σ : L2.St} {H : Hp} {b : Bool} (h : Ans c σ H b) (h1 : b = true → t D σ H) (h2 : b = false → u D σ H) : tIfS c t u D σ H := by
  refine h _ ?_
  show if b = true then t D σ H else u D σ H
  exact ite2 h1 (fun e => h2 (Bool.eq_false_iff.mpr e))
def spCells (K : PySem.W.Frag) : Sp := fun vs H Q _ => ∃ n : Nat, vs = [.int (n : Int)] ∧ n ≤ 3 ∧ ∀ p H', Same H H' → H p = none → LsIs K H' p ((cellsN n).map eC) → Q (.ref p) H'
theorem ok_cells (T : Top K mg a) (G_l_marks : FnOk P w K mg base CX0 1 a.f_l_marks a.d_l_marks ["_law_count"] (spMarks K)) : FnOk P w K mg base CX0 2 a.f_l_cells a.d_l_cells ["_law_count"] (spCells K) := by
  refine T.F_l_cells.ok sc_l_cells (fun vs H Q E h => ?_) (fun cdv A outer s H vs Q E hr h => ?_)
  · obtain ⟨n, rfl, _⟩ := h
    rfl
  · obtain ⟨n, rfl, hn, q⟩ := h
    refine ⟨_, (pss_cons (ps_set (i := 1) sc_l_cells.nd rfl (.inl rfl) (pe_lst pa_nil))
    (pss_cons (ps_for PassesOwn.never rfl (pi_range2 (by rfl) T.z_range (pa_cons pe_int (pa_cons pe_int pa_nil))) (pg_name (i := 2) sc_l_cells.nd rfl (.inl rfl))
      (pss_one (ps_for PassesOwn.never rfl (R1.PI.or (pi_list (pe_call G_l_marks (hr.mono (by decide)) (by rfl) T.m_l_marks T.F_l_marks.kp T.b_l_marks .nil pass0 (pa_cons (pv 0) pa_nil))) (pi_tup (pe_call G_l_marks (hr.mono (by decide)) (by rfl) T.m_l_marks T.F_l_marks.kp T.b_l_marks .nil pass0 (pa_cons (pv 0) pa_nil)))) (pg_name (i := 3) sc_l_cells.nd rfl (.inl rfl))
        (pss_one (ps_if (PW.pt (pw_or (pt_cmpR op_eq (pv 2) pe_int (nomark _)) (pw_or1 (pt_cmpR op_le (R1.pe_lenSetX rfl (by rfl) T.z_len (by rfl) T.z_set (pv 3)) (pv 2) (nomark _)))))
          (pss_one (ps_expr (pe_bm PySem.F.plainAttrs_list PySem.F.slot_list_append PySem.F.type_list_append mt_append (pv 1) (pa_cons (pe_tup (pa_cons (pv 2) (pa_cons (pv 3) pa_nil))) pa_nil))))
          pss_nil)))))
    (pss_one (ps_ret (pv 1))))), ?_⟩
    obtain ⟨b2, b1⟩ := parts_ok hn
    refine ⟨Nat.zero_le _, fun D nD => ?_⟩
    have s0 : Same H (upd H D (.lst [])) := same_upd nD
    refine ⟨1, 4, rfl, by decide, for_it walk_range (fun i σ' H2 => ∃ y2 y3, σ' = [some (.int (n : Int)), some (.ref D), y2, y3] ∧ Same H H2 ∧ LsIs K H2 D ((([1, 2, 3].take i).flatMap (cellsS (parts n))).map eC)) ⟨none, none, rfl, s0, ls_nil⟩ (fun _ _ _ _ _ => trivial) ?_ ?_⟩
    · rintro i x σ' _ H2 hi ⟨y2, y3, rfl, sm, hD⟩ ⟨rfl, rfl⟩
      have hi3 : i < 3 := hi
      have h3 : ([1, 2, 3] : List Nat)[i]? = some (i + 1) := by
        rcases (by omega : i = 0 ∨ i = 1 ∨ i = 2) with rfl | rfl | rfl <;> rfl
      have ei : (1 : Int) + (i : Int) = ((i + 1 : Nat) : Int) := by omega
      dsimp only [gName]
      rw [ei]
      have ln : (([1, 2, 3] : List Nat).take (i + 1)).flatMap (cellsS (parts n)) = (([1, 2, 3] : List Nat).take i).flatMap (cellsS (parts n)) ++ cellsS (parts n) (i + 1) := flat_snoc _ h3
      have l3 : ((([1, 2, 3] : List Nat).take i).flatMap (cellsS (parts n))).length ≤ 15 := by
        refine Nat.le_trans (flat_take _ _ i) ?_
        have e1 := cellsS_len (parts n) 1
        have e2 := cellsS_len (parts n) 2
        have e3 := cellsS_len (parts n) 3
        simp only [List.flatMap_cons, List.flatMap_nil, List.length_append, List.append_nil]
        omega
      refine .inl ⟨.int (n : Int), rfl, n, rfl, hn, fun p H3 s3 np hp => ?_⟩
      obtain ⟨xs, hp, hA⟩ := hp
      have lx : xs.length = (parts n).length := by rw [dps_le hA, List.length_map]
      obtain ⟨accD, hDD, _⟩ := id hD
      have pD : p ≠ D := fun e => by rw [e, hDD] at np; cases np
      refine ⟨p, rfl, ⟨xs, SqL.of hp⟩, for_it (walk_list (xs := xs)) (fun v σ' H4 => ∃ y3, σ' = [some (.int (n : Int)), some (.ref D), some (.int ((i + 1 : Nat) : Int)), y3] ∧ Same H H4 ∧ H4 p = some (.lst xs) ∧ Tk H3 H4 ∧ LsIs K H4 D (((([1, 2, 3] : List Nat).take i).flatMap (cellsS (parts n)) ++ cellsS ((parts n).take v) (i + 1)).map eC)) ⟨y3, rfl, sm.trans s3, hp, Tk.rfl', by simpa [cellsS] using hD.same (kbm kbC _) s3⟩ ?_ ?_ ?_⟩
      · rintro v σ' H4 _ ⟨_, _, _, h, _⟩
        exact SqL.of h
      · rintro v x σ' _ H4 hv ⟨z3, rfl, s4, hp4, k4, acc3, hD3, hA3⟩ ⟨rfl, hx⟩
        obtain ⟨ms, hms, hd⟩ := dps_map hA hx
        have mo := b1 ms (List.mem_of_getElem? hms)
        have hd4 := dp_tk k4 _ _ hd (kbM ms)
        obtain ⟨b, us, rfl, hb4, hus⟩ := Dp.tupD hd4
        rw [dps_int hus] at hb4
        have et : (parts n).take (v + 1) = (parts n).take v ++ [ms] := by rw [List.take_add_one, hms]; rfl
        have la : acc3.length ≤ 100 := by
          have := dps_le hA3
          have e1 := cellsS_len ((parts n).take v) (i + 1)
          rw [List.length_map, List.length_append] at this
          rw [List.length_take] at e1
          omega
        have hk := mo.ds
        have h3le := mo.le
        have hd : (decide ((((i + 1 : Nat) : Int)) = 3) || decide (((R1.dist (ivals ms)).length : Int) ≤ ((i + 1 : Nat) : Int))) = decide (blk ms ≤ i + 1) := by
          rw [Bool.eq_iff_iff, Bool.or_eq_true, decide_eq_true_eq, decide_eq_true_eq, decide_eq_true_eq]
          omega
        refine if_ans (b := decide (blk ms ≤ i + 1)) (by
          rw [← hd]
          exact ans_or2 (fun Q q => vEqT rfl q) (fun Q q => ⟨_, rfl, b, ivals ms, rfl, .inr hb4, by unfold ivals; rw [List.length_map, mo.len]; omega, _, rfl, _, _, rfl, rfl, _, rfl, q⟩)) (fun he => ?_) (fun he => ?_)
        · have hle := of_decide_eq_true he
          refine ⟨.ref D, rfl, .inl ⟨rfl, acc3, SqL.of hD3⟩, .int ((i + 1 : Nat) : Int), rfl, .ref b, rfl, Nat.le_of_lt (small1000 (by simp)), fun pu nu => ?_⟩
          have sT : Same H4 (upd H4 pu (.tup [.int ((i + 1 : Nat) : Int), .ref b])) := same_upd nu
          have hD4 := sT _ _ hD3
          refine ⟨D, acc3, .ref pu, rfl, rfl, hD4, small1000 (by omega), _, rfl, Same.mut (s4.trans sT) nD, ?_, ?_, ?_⟩
          · rw [upd_ne pD]; exact sT _ _ hp4
          · exact k4.trans ((Same.tk sT).trans (tk_upd hD4 True.intro))
          have ec : cellsS ((parts n).take (v + 1)) (i + 1) = cellsS ((parts n).take v) (i + 1) ++ [(i + 1, ms)] := by
            unfold cellsS
            rw [et, List.filter_append, List.map_append]
            congr 1
            simp [hle]
          rw [ec, ← List.append_assoc, List.map_append]
          refine ls_snoc hD4 (dps_tk (Same.tk sT) hA3 (kbm kbC _)) (kbm kbC _) ?_ (kbC _)
          exact .tup (SqT.of upd_same) (.cons (.int _) (.cons (dp_tk (Same.tk sT) _ _ hd4 (kbM ms)) .nil))
        · have hle := of_decide_eq_false he
          refine ⟨_, rfl, s4, hp4, k4, acc3, hD3, ?_⟩
          have ec : cellsS ((parts n).take (v + 1)) (i + 1) = cellsS ((parts n).take v) (i + 1) := by
            unfold cellsS
            rw [et, List.filter_append, List.map_append]
            simp [hle]
          rw [ec]
          exact hA3
      · rintro σ' H4 ⟨z3, rfl, s4, hp4, k4, hD3⟩
        refine ⟨_, _, rfl, s4, ?_⟩
        rw [lx, List.take_length] at hD3
        rw [ln]
        exact hD3
    · rintro σ' H2 ⟨y2, y3, rfl, sm, hD⟩
      exact ⟨.ref D, rfl, q D H2 sm nD hD⟩
end
end K21


/-! the drawn kinds card -/
namespace K21
open PySem PySem.Spec PyProof.Rows L2 RN
section
variable {P : Program} {w : World} {K : PySem.W.Frag} {mg : Str → Option Value} {base : Heap} {a : Ad}
theorem dp_new {H : Hp} {p : Addr} {vs : List V} {ds : List PyData} (np : H p = none) (h : DpAll K H vs ds) (k : ∀ d ∈ ds, RN.kb d = true) : Dp K (upd H p (.tup vs)) (.ref p) (.tuple ds) := .tup (SqT.of upd_same) (dps_tk (tk_new np) h k)
structure RwOk (rows : KR) : Prop where
  nn : ∀ p ∈ rows, 0 ≤ p.2
  le : rows.length ≤ 3
  pos : 0 < rows.length
def spCard (K : PySem.W.Frag) : Sp := fun vs H Q _ => ∃ (sc st : Addr), vs = [.ref st] ∧ Sta sc H st ∧ ∀ y rows H', Kp st H H' → Sta sc H' st → Dp K H' y (eCard rows) → RwOk rows → Q y H'
theorem kbcard1 (rows : KR) : ∀ d ∈ [PyData.str "kinds", eRows rows], RN.kb d = true := fun d hd => by
  rcases List.mem_cons.mp hd with rfl | hd
  · rfl
  · rw [List.mem_singleton.mp hd]; exact kbRows rows
theorem ok_card (T : Top K mg a) (G_l_draw : FnOk P w K mg base CX0 1 a.f_l_draw a.d_l_draw ["_law_state_here", "_law_many"] spDraw) : FnOk P w K mg base CX0 2 a.f_l_kinds_card a.d_l_kinds_card ["_law_state_here"] (spCard K) := by
  refine T.F_l_kinds_card.ok sc_l_kinds_card (fun vs H Q E h => ?_) (fun cdv A outer s H vs Q E hr h => ?_)
  · obtain ⟨_, _, rfl, _⟩ := h
    rfl
  · obtain ⟨sc, st, rfl, S0, q⟩ := h
    refine ⟨_, (pss_cons (ps_set (i := 1) sc_l_kinds_card.nd rfl (.inl rfl) (pe_call G_l_draw (hr.mono (by decide)) (by rfl) T.m_l_draw T.F_l_draw.kp T.b_l_draw .nil pass0 (pa_cons (pv 0) (pa_cons pe_int pa_nil))))
    (pss_cons (ps_if (pt_cmpR op_eq (pv 1) pe_int (nomark _))
      (pss_one (ps_ret (pe_tup (pa_cons pe_str (pa_cons (pe_tup (pa_cons (pe_tup (pa_cons pe_str (pa_cons (pe_op op_add pe_int (pe_call G_l_draw (hr.mono (by decide)) (by rfl) T.m_l_draw T.F_l_draw.kp T.b_l_draw .nil pass0 (pa_cons (pv 0) (pa_cons pe_int pa_nil)))) pa_nil))) pa_nil)) pa_nil)))))
      pss_nil)
    (pss_cons (ps_if (pt_cmpR op_eq (pv 1) pe_int (nomark _))
      (pss_one (ps_ret (pe_tup (pa_cons pe_str (pa_cons (pe_tup (pa_cons (pe_tup (pa_cons pe_str (pa_cons pe_int pa_nil))) (pa_cons (pe_tup (pa_cons pe_str (pa_cons pe_int pa_nil))) pa_nil))) pa_nil)))))
      pss_nil)
    (pss_cons (ps_set (i := 2) sc_l_kinds_card.nd rfl (.inl rfl) (pe_op op_add pe_int (pe_call G_l_draw (hr.mono (by decide)) (by rfl) T.m_l_draw T.F_l_draw.kp T.b_l_draw .nil pass0 (pa_cons (pv 0) (pa_cons pe_int pa_nil)))))
    (pss_cons (ps_set (i := 3) sc_l_kinds_card.nd rfl (.inl rfl) (pe_call G_l_draw (hr.mono (by decide)) (by rfl) T.m_l_draw T.F_l_draw.kp T.b_l_draw .nil pass0 (pa_cons (pv 0) (pa_cons (pv 2) pa_nil))))
    (pss_cons (ps_set (i := 4) sc_l_kinds_card.nd rfl (.inl rfl) (pe_lst pa_nil))
    (pss_cons (ps_for PassesOwn.never rfl (pi_range1 (by rfl) T.z_range (pa_cons (pv 2) pa_nil)) (pg_name (i := 5) sc_l_kinds_card.nd rfl (.inl rfl))
      (pss_cons (ps_set (i := 6) sc_l_kinds_card.nd rfl (.inl rfl) (pe_call G_l_draw (hr.mono (by decide)) (by rfl) T.m_l_draw T.F_l_draw.kp T.b_l_draw .nil pass0 (pa_cons (pv 0) (pa_cons pe_int pa_nil))))
      (C8.pss_cut (ps_if (pt_cmpR op_eq (pv 5) (pv 3) (nomark _))
        (pss_one (ps_set (i := 6) sc_l_kinds_card.nd rfl (.inl rfl) pe_int))
        pss_nil)
      (pss_one (ps_expr (pe_bm PySem.F.plainAttrs_list PySem.F.slot_list_append PySem.F.type_list_append mt_append (pv 4) (pa_cons (pe_tup (pa_cons (pe_ix ix_seq (pe_lst (pa_cons pe_str (pa_cons pe_str (pa_cons pe_str pa_nil)))) (pv 5) (fun _ _ => rfl)) (pa_cons (pv 6) pa_nil))) pa_nil)))))))
    (pss_one (ps_ret (pe_tup (pa_cons pe_str (pa_cons (pe_callTy call_tuple_of (by rfl) T.z_tuple (by decide +kernel) (pa_cons (pv 4) pa_nil)) pa_nil)))))))))))), ?_⟩
    have len2 : (2 : Nat) ≤ sizeLine := by decide
    have len1 : (1 : Nat) ≤ sizeLine := by decide
    refine ⟨.ref st, rfl, sc, st, 5, rfl, S0, by decide, by decide, fun H1 v1 k1 S1 a0 a1 => ?_⟩
    refine vEqT rfl (ite2 (fun e1 => ?_) (fun e1 => ?_))
    · refine ⟨.ref st, rfl, sc, st, 2, rfl, S1, by decide, by decide, fun H2 v2 k2 S2 b0 b1 => ⟨_, _, rfl, rfl, len2, fun p1 n1 => ⟨len1, fun p2 n2 => ⟨len2, fun p3 n3 => ?_⟩⟩⟩⟩
      have d1 := dp_new (K := K) (vs := [.str "k", .int (1 + v2)]) (ds := [.str "k", .int (1 + v2)]) n1 (.cons (.str _) (.cons (.int _) .nil)) (by simp [RN.kb])
      have d2 := dp_new n2 (.cons d1 .nil) (by intro d hd; rw [List.mem_singleton.mp hd]; rfl)
      have d3 := dp_new n3 (.cons (.str "kinds") (.cons d2 .nil)) (kbcard1 [("k", 1 + v2)])
      refine q _ [("k", 1 + v2)] _ ((((k1.trans k2).new n1).new n2).new n3) (((S2.same (same_upd n1)).same (same_upd n2)).same (same_upd n3)) d3 ⟨fun p hp => ?_, by show (1 : Nat) ≤ 3; decide, by show (0 : Nat) < 1; decide⟩
      rw [List.mem_singleton.mp hp]
      show 0 ≤ 1 + v2
      omega
    refine vEqT rfl (ite2 (fun e2 => ?_) (fun e2 => ?_))
    · refine GD.run (K := K) (d := eCard [("k", 1), ("m2", 1)]) (gd_tup (ga_cons gd_str rfl (ga_cons (gd_tup (ga_cons (gd_tup (ga_cons gd_str rfl (ga_cons gd_int rfl ga_nil)) (by simp)) rfl (ga_cons (gd_tup (ga_cons gd_str rfl (ga_cons gd_int rfl ga_nil)) (by simp)) rfl ga_nil)) (by simp)) rfl ga_nil)) (by simp)) fun x H2 s2 hx => ?_
      refine q x [("k", 1), ("m2", 1)] H2 (k1.same s2) (S1.same s2) hx ⟨?_, by show (2 : Nat) ≤ 3; decide, by show (0 : Nat) < 2; decide⟩
      decide
    · refine ⟨.ref st, rfl, sc, st, 3, rfl, S1, by decide, by decide, fun H2 v2 k2 S2 b0 b1 => ⟨_, _, rfl, rfl, ?_⟩⟩
      refine ⟨.ref st, rfl, _, rfl, sc, st, 1 + v2, rfl, S2, by omega, by omega, fun H3 v3 k3 S3 c0 c1 => ⟨Nat.zero_le _, fun D nD => ?_⟩⟩
      have k03 := k1.trans (k2.trans k3)
      have nD0 : H D = none := kp_free S3 k03 nD
      have nst : D ≠ st := S3.nn nD
      refine ⟨_, rfl, _, rfl, by omega, by omega, for_it walk_range (fun i σ' H' => ∃ y5 y6 rows, σ' = [some (.ref st), some (.int v1), some (.int (1 + v2)), some (.int v3), some (.ref D), y5, y6] ∧ Kp st H H' ∧ Sta sc H' st ∧ LsIs K H' D ((rows : KR).map eRow) ∧ rows.length = i ∧ ∀ p ∈ rows, 0 ≤ p.2) ⟨none, none, [], rfl, k03.new nD, S3.same (same_upd nD), ls_nil, rfl, fun p hp => nomatch hp⟩ (fun _ _ _ _ _ => trivial) ?_ ?_⟩
      · rintro i x σ' _ H4 hi ⟨y5, y6, rows, rfl, k4, S4, hD4, ll, nn⟩ ⟨rfl, rfl⟩
        dsimp only [gName]
        rw [Int.zero_add]
        refine ⟨.ref st, rfl, sc, st, 3, rfl, S4, by decide, by decide, fun H5 v5 k5 S5 d0 d1 => ?_⟩
        have hD5 := hD4.kp S4 k5 nst (kbm (fun _ => rfl) _)
        refine ⟨fun σ' H' => ∃ c, σ' = [some (.ref st), some (.int v1), some (.int (1 + v2)), some (.int v3), some (.ref D), some (.int (i : Int)), some (.int c)] ∧ 0 ≤ c ∧ H' = H5, ?_, ?_⟩
        · refine ⟨_, rfl, _, rfl, eqI ⟨_, rfl, ite2 (fun e => ⟨0, rfl, by omega, rfl⟩) (fun e => ⟨v5, rfl, d0, rfl⟩)⟩⟩
        · rintro σ' H' ⟨c, rfl, c0', rfl⟩
          have hi3 : i < 3 := by omega
          obtain ⟨acc, hDa, hB⟩ := hD5
          have la : acc.length ≤ 3 := by rw [dps_le hB, List.length_map]; omega
          refine ⟨.ref D, rfl, .inl ⟨rfl, acc, SqL.of hDa⟩, by show 3 ≤ sizeLine; decide, fun pl nl => ?_⟩
          have s6 := same_upd (o := .lst [.str "k", .str "k10", .str "m2"]) nl
          obtain ⟨z, gz⟩ : ∃ z : Str, ([V.str "k", V.str "k10", V.str "m2"] : List V)[i]? = some (.str z) := by
            rcases (by omega : i = 0 ∨ i = 1 ∨ i = 2) with rfl | rfl | rfl
            · exact ⟨_, rfl⟩
            · exact ⟨_, rfl⟩
            · exact ⟨_, rfl⟩
          refine ⟨_, rfl, .inl ⟨pl, _, i, _, rfl, rfl, .of upd_same, atI_nat gz, _, rfl, len2, fun pt nt => ?_⟩⟩
          have s7 := same_upd (o := .tup [.str z, .int c]) nt
          have s67 := s6.trans s7
          have hB7 := dps_tk (Same.tk s67) hB (kbm (fun _ => rfl) _)
          refine ⟨D, acc, .ref pt, rfl, rfl, s67 _ _ hDa, small1000 (by omega), _, _, rows ++ [(z, c)], rfl, ((k4.trans k5).same s67).mut nD0, Sta.mut S3 nD (S5.same s67), ?_, by simp [ll], ?_⟩
          · rw [List.map_append]
            exact ls_snoc (s67 _ _ hDa) hB7 (kbm (fun _ => rfl) _) (.tup (SqT.of upd_same) (.cons (.str _) (.cons (.int _) .nil))) rfl
          · intro p hp
            rcases List.mem_append.mp hp with h | h
            · exact nn p h
            · rw [List.mem_singleton.mp h]; exact c0'
      · rintro σ' H4 ⟨y5, y6, rows, rfl, k4, S4, ⟨acc, hDa, hB⟩, ll, nn⟩
        refine ⟨.ref D, rfl, D, acc, rfl, .inl ⟨.of hDa, fun p1 n1 => ⟨len2, fun p2 n2 => ?_⟩⟩⟩
        have d1 := dp_new n1 hB (kbm (fun _ => rfl) _)
        have d2 := dp_new n2 (.cons (.str "kinds") (.cons d1 .nil)) (kbcard1 rows)
        exact q _ rows _ ((k4.new n1).new n2) ((S4.same (same_upd n1)).same (same_upd n2)) d2 ⟨nn, by omega, by omega⟩
/-! ### with one of three spellings -/
def tx : Nat → List Str
  | 0 => ["k", "k10", "m2"]
  | 1 => ["a", "b", "b1"]
  | _ => ["g07", "g7", "z999"]
theorem tx_all : (List.range 3).all (fun j => decide ((tx j).length = 3) && decide ((tx j).Nodup) && (tx j).all PyData.strOk) = true := by decide +kernel
theorem tx_ok {j : Nat} (h : j < 3) : (tx j).length = 3 ∧ (tx j).Nodup ∧ ∀ z ∈ tx j, PyData.strOk z = true := by
  have := List.all_eq_true.mp tx_all j (List.mem_range.mpr h)
  rw [Bool.and_eq_true, Bool.and_eq_true] at this
  exact ⟨of_decide_eq_true this.1.1, of_decide_eq_true this.1.2, fun z hz => List.all_eq_true.mp this.2 z hz⟩
theorem zip_fst_take {α β : Type} : ∀ (l : List α) (m : List β), (l.zip m).map Prod.fst = l.take m.length
  | [], _ => by simp
  | _ :: _, [] => by simp
  | x :: l, y :: m => by
    rw [List.zip_cons_cons, List.map_cons, zip_fst_take l m]; rfl
def named (j : Nat) (rows : KR) : KR := (tx j).zip (rows.map Prod.snd)
theorem named_len {j : Nat} {rows : KR} (h : j < 3) (l : rows.length ≤ 3) : (named j rows).length = rows.length := by
  unfold named
  rw [List.length_zip, (tx_ok h).1, List.length_map]; omega
theorem named_ok {j : Nat} {rows : KR} (h : j < 3) (r : RwOk rows) : CdOk (named j rows) := by
  obtain ⟨t1, t2, t3⟩ := tx_ok h
  have l := named_len h r.le
  refine ⟨?_, fun p hp => ?_, by rw [l]; exact r.le, by rw [l]; exact r.pos, fun p hp => ?_⟩
  · unfold named
    rw [zip_fst_take]
    exact List.Sublist.nodup (List.take_sublist _ _) t2
  · obtain ⟨q, hq, e⟩ := List.mem_map.mp (List.of_mem_zip hp).2
    rw [← e]; exact r.nn q hq
  · exact t3 _ (List.of_mem_zip hp).1
theorem named_at {j : Nat} {rows : KR} {i : Nat} {p : Str × Int} {z : Str} (hz : (tx j)[i]? = some z) (hp : rows[i]? = some p) : (named j rows)[i]? = some (z, p.2) := by
  unfold named
  rw [List.getElem?_zip_eq_some]
  exact ⟨hz, by rw [List.getElem?_map, hp]; rfl⟩
def spKinds (K : PySem.W.Frag) : Sp := fun vs H Q _ => ∃ (sc st : Addr), vs = [.ref st] ∧ Sta sc H st ∧ ∀ y rows H', Kp st H H' → Sta sc H' st → Dp K H' y (eCard rows) → CdOk rows → Q y H'
theorem ok_kinds (T : Top K mg a) (G_l_draw : FnOk P w K mg base CX0 1 a.f_l_draw a.d_l_draw ["_law_state_here", "_law_many"] spDraw) (G_l_kinds_card : FnOk P w K mg base CX0 2 a.f_l_kinds_card a.d_l_kinds_card ["_law_state_here"] (spCard K)) : FnOk P w K mg base CX0 3 a.f_l_kinds a.d_l_kinds ["_law_state_here"] (spKinds K) := by
  refine T.F_l_kinds.ok sc_l_kinds (fun vs H Q E h => ?_) (fun cdv A outer s H vs Q E hr h => ?_)
  · obtain ⟨_, _, rfl, _⟩ := h
    rfl
  · obtain ⟨sc, st, rfl, S0, q⟩ := h
    refine ⟨_, (pss_cons (ps_set (i := 1) sc_l_kinds.nd rfl (.inr rfl) (pe_call G_l_kinds_card (hr.mono (by decide)) (by rfl) T.m_l_kinds_card T.F_l_kinds_card.kp T.b_l_kinds_card .nil pass0 (pa_cons (pv 0) pa_nil)))
    (pss_cons (ps_set (i := 2) sc_l_kinds.nd rfl (.inr rfl) (pe_ix ix_seq (pe_lst (pa_cons (pe_lst (pa_cons pe_str (pa_cons pe_str (pa_cons pe_str pa_nil)))) (pa_cons (pe_lst (pa_cons pe_str (pa_cons pe_str (pa_cons pe_str pa_nil)))) (pa_cons (pe_lst (pa_cons pe_str (pa_cons pe_str (pa_cons pe_str pa_nil)))) pa_nil)))) (pe_call G_l_draw (hr.mono (by decide)) (by rfl) T.m_l_draw T.F_l_draw.kp T.b_l_draw .nil pass0 (pa_cons (pv 0) (pa_cons pe_int pa_nil))) (fun _ _ => rfl)))
    (pss_one (ps_ret (pe_tup (pa_cons pe_str (pa_cons (pe_callTy call_tuple_of (by rfl) T.z_tuple (by decide +kernel) (pa_cons (pe_lc (own := [("_law_k", 3)]) rfl sc_l_kinds.nd (pi_range1 (by rfl) T.z_range (pa_cons (pe_callB call_len_seq (by rfl) T.z_len (by decide +kernel) (pa_cons (pe_ix ix_seq (pv 1) pe_int (fun _ _ => rfl)) pa_nil)) pa_nil)) (blkOk_by (own := [("_law_k", 3)]) (N := ["_law_state_here", "_law_card", "_law_texts", "_law_k"]) (sc := defScope s_l_kinds) (by decide +kernel)) (fun _ _ _ _ _ => (pg_name (i := 3) sc_l_kinds.nd rfl (.inl rfl))) (fun _ _ _ _ _ => pts_nil) (fun _ _ _ _ _ => (pe_tup (pa_cons (pe_ix (R1.ix_seqK (K := K) rfl) (pv 2) (pv 3) (fun _ _ => rfl)) (pa_cons (pe_ix (R1.ix_seqK (K := K) rfl) (pe_ix (R1.ix_seqK (K := K) rfl) (pe_ix (R1.ix_seqK (K := K) rfl) (pv 1) pe_int (fun _ _ => rfl)) (pv 3) (fun _ _ => rfl)) pe_int (fun _ _ => rfl)) pa_nil))))) pa_nil)) pa_nil))))))), ?_⟩
    have len2 : (2 : Nat) ≤ sizeLine := by decide
    have len3 : (3 : Nat) ≤ sizeLine := by decide
    refine ⟨.ref st, rfl, sc, st, rfl, S0, fun y rows H1 k1 S1 hy rk => ?_⟩
    refine ⟨len3, fun p1 n1 => ⟨len3, fun p2 n2 => ⟨len3, fun p3 n3 => ⟨len3, fun p4 n4 => ?_⟩⟩⟩⟩
    have s1 := same_upd (o := .lst [.str "k", .str "k10", .str "m2"]) n1
    have s2 := same_upd (o := .lst [.str "a", .str "b", .str "b1"]) n2
    have s3 := same_upd (o := .lst [.str "g07", .str "g7", .str "z999"]) n3
    have s4 := same_upd (o := .lst [.ref p1, .ref p2, .ref p3]) n4
    have s14 := s1.trans (s2.trans (s3.trans s4))
    have S2 := S1.same s14
    refine ⟨.ref st, rfl, sc, st, 3, rfl, S2, by decide, by decide, fun H3 v3 k3 S3 a0 a1 => ?_⟩
    obtain ⟨j, rfl⟩ : ∃ n : Nat, v3 = n := ⟨v3.toNat, by omega⟩
    have hj : j < 3 := by omega
    have hp4 := k3 p4 _ (S1.nn (s1.free (s2.free (s3.free n4)))) upd_same
    obtain ⟨L, hL, hLt⟩ : ∃ L, ([V.ref p1, V.ref p2, V.ref p3] : List V)[j]? = some (.ref L) ∧ H3 L = some (.lst ((tx j).map V.str)) := by
      rcases (by omega : j = 0 ∨ j = 1 ∨ j = 2) with rfl | rfl | rfl
      · exact ⟨p1, rfl, k3 p1 _ (S1.nn n1) (s4 _ _ (s3 _ _ (s2 _ _ upd_same)))⟩
      · exact ⟨p2, rfl, k3 p2 _ (S1.nn (s1.free n2)) (s4 _ _ (s3 _ _ upd_same))⟩
      · exact ⟨p3, rfl, k3 p3 _ (S1.nn (s1.free (s2.free n3))) (s4 _ _ upd_same)⟩
    refine .inl ⟨p4, _, (j : Int), _, rfl, rfl, .of hp4, atI_nat hL, ?_⟩
    have k13 : Kp st H1 H3 := (Same.kp s14).trans k3
    have hy3 := dp_tk (sta_tk S1 k13) _ _ hy (kbCard rows)
    have k03 := k1.trans k13
    refine ⟨y, rfl, rix (i := 1) hy3 rfl fun r hr => ?_⟩
    obtain ⟨t, us, rfl, ht, hus⟩ := Dp.tupD hr
    have lus : us.length = rows.length := by rw [dps_le hus, List.length_map]
    have := rk.le
    refine ⟨t, us, rfl, .inr ht, _, rfl, by omega, by omega, fun D nD => ?_⟩
    refine lc_it walk_range (fun i H4 => Same H3 H4 ∧ LsIs K H4 D (((named j rows).take i).map eRow)) ⟨Same.mut (Same.refl _) nD, ls_nil⟩ (fun _ _ _ _ => trivial) ?_ ?_
    · rintro i x _ H4 hi ⟨s5, acc, hD, hB⟩ ⟨rfl, rfl⟩
      dsimp only [gName]
      rw [Int.zero_add]
      have hi' : i < rows.length := by omega
      have hi3 : i < (tx j).length := by rw [(tx_ok hj).1]; omega
      have hz : (tx j)[i]? = some (tx j)[i] := List.getElem?_eq_getElem hi3
      have hp : rows[i]? = some rows[i] := List.getElem?_eq_getElem hi'
      have hy4 := dp_tk (Same.tk s5) _ _ hy3 (kbCard rows)
      refine ⟨rfl, .ref L, rfl, .int (i : Int), rfl, .inl ⟨L, _, i, .str (tx j)[i], rfl, rfl, .of (s5 _ _ hLt), atI_nat (by rw [List.getElem?_map, hz]; rfl), ?_⟩⟩
      refine ⟨y, rfl, rix (i := 1) hy4 rfl fun r hr => ⟨.int (i : Int), rfl, rix (d := eRow rows[i]) hr (by rw [List.getElem?_map, hp]; rfl) fun pr hpr => rix (i := 1) hpr rfl fun c hc => ?_⟩⟩
      cases hc
      have la : acc.length ≤ 3 := by
        rw [dps_le hB, List.length_map, List.length_take]
        have := named_len hj rk.le
        omega
      refine ⟨len2, fun pt nt => ⟨acc, same_upd nt _ _ hD, small1000 (by omega), Same.mut (s5.trans (same_upd nt)) nD, ?_⟩⟩
      rw [List.take_add_one, named_at hz hp, List.map_append]
      exact ls_snoc (same_upd nt _ _ hD) (dps_tk (tk_new nt) hB (kbm (fun _ => rfl) _)) (kbm (fun _ => rfl) _) (.tup (SqT.of upd_same) (.cons (.str _) (.cons (.int _) .nil))) rfl
    · rintro H4 ⟨s5, hD⟩
      have e : ((us.length : Int)).toNat = (named j rows).length := by rw [named_len hj rk.le]; omega
      rw [e, List.take_length] at hD
      obtain ⟨acc, hD, hB⟩ := hD
      refine ⟨D, acc, rfl, .inl ⟨.of hD, fun q1 m1 => ⟨len2, fun q2 m2 => ?_⟩⟩⟩
      have d1 := dp_new m1 hB (kbm (fun _ => rfl) _)
      have d2 := dp_new m2 (.cons (.str "kinds") (.cons d1 .nil)) (kbcard1 (named j rows))
      exact q _ _ _ (((k03.same s5).new m1).new m2) (((S3.same s5).same (same_upd m1)).same (same_upd m2)) d2 (named_ok hj rk)
end
end K21


/-! the size; whether kinds are right -/
namespace K21
open PySem PySem.Spec PyProof.Rows L2 RN
section
variable {P : Program} {w : World} {K : PySem.W.Frag} {mg : Str → Option Value} {base : Heap} {a : Ad}
theorem ok_size (T : Top K mg a) : FnOk P w K mg base CX0 1 a.f_l_size a.d_l_size ["_law_card"] (spKsz K) := by
  refine T.F_l_size.ok sc_l_size (fun vs H Q E h => ?_) (fun cdv A outer s H vs Q E hr h => ?_)
  · obtain ⟨x, rows, rfl, _⟩ := h
    rfl
  · obtain ⟨x, rows, rfl, hx, le, q⟩ := h
    refine ⟨_, (pss_cons (ps_setLc (own := [("_law_pair", 2)]) (i := 1) rfl sc_l_size.nd rfl rfl (sw_true rfl rfl rfl (by decide +kernel)) (R1.PI.or (pi_list (pe_ix ix_seq (pv 0) pe_int (fun _ _ => rfl))) (pi_tup (pe_ix ix_seq (pv 0) pe_int (fun _ _ => rfl)))) (blkOk_by (own := [("_law_pair", 2)]) (N := ["_law_card", "_law_counts", "_law_pair"]) (sc := defScope s_l_size) (by decide +kernel)) (fun _ _ _ _ _ => (pg_name (i := 2) sc_l_size.nd rfl (.inl rfl))) (fun _ _ _ _ _ => pts_nil) (fun _ _ _ _ _ => (pe_ix (R1.ix_seqK (K := K) rfl) (pv 2) pe_int (fun _ _ => rfl))))
    (pss_cons (ps_if (pt_cmpR op_in_seq pe_int (pv 1) rfl)
      (pss_one (ps_ret pe_int))
      pss_nil)
    (pss_one (ps_ret (pe_callB (cr_sum rfl) (by rfl) T.z_sum (by decide +kernel) (pa_cons (pv 1) pa_nil)))))), ?_⟩
    refine .inr ⟨x, rfl, rix (i := 1) hx rfl fun y hy => ?_⟩
    obtain ⟨p, vs, rfl, hs, ha⟩ := Dp.tupD hy
    have lv : vs.length = rows.length := by rw [dps_le ha, List.length_map]
    refine ⟨p, rfl, ⟨vs, hs⟩, fun D nD => lc_it (walk_tup (xs := vs)) (fun i H2 => Same H H2 ∧ IntsAt H2 D ((rows.take i).map Prod.snd)) ⟨Same.mut (Same.refl _) nD, upd_same⟩ (fun i H2 _ h => sqT_tk (Same.tk h.1) hs) ?_ ?_⟩
    · rintro i x _ H2 hi ⟨sm, hD⟩ ⟨rfl, hxi⟩
      obtain ⟨pr, er, hd⟩ := dps_row ha hxi
      refine ⟨rfl, _, rfl, rix (i := 1) (dp_tk (Same.tk sm) _ _ hd rfl) rfl fun c hc => ?_⟩
      cases hc
      refine ⟨_, hD, small1000 (by rw [List.length_map, List.length_map, List.length_take]; omega), Same.mut sm nD, ?_⟩
      unfold IntsAt
      rw [upd_same, List.take_add_one, er]
      simp
    · rintro H2 ⟨sm, hD⟩
      rw [lv, List.take_length] at hD
      have q2 := q H2 sm
      rw [ksz_eq] at q2
      refine ⟨_, rfl, D, _, rfl, .inl (.of hD), rfl, flat_ints _, _, rfl, ?_⟩
      rw [inV_int]
      refine ite2 (fun e => ?_) (fun e => ?_)
      · rw [if_pos (of_decide_eq_true e)] at q2
        exact q2
      · rw [if_neg (of_decide_eq_false (Bool.eq_false_iff.mpr e))] at q2
        exact ⟨_, rfl, D, _, rfl, .of hD, q2⟩
/-! ### kinds within their counts -/
theorem any_snoc {rows : KR} {i : Nat} {p : Str × Int} (h : rows[i]? = some p) : (rows.take (i + 1)).any (fun p => decide (p.2 = 0)) = ((rows.take i).any (fun p => decide (p.2 = 0)) || decide (p.2 = 0)) := by
  rw [List.take_add_one, h, List.any_append]; simp
theorem all_snoc {rows : KR} {own : List Str} {i : Nat} {p : Str × Int} (h : rows[i]? = some p) : (rows.take (i + 1)).all (capB own) = ((rows.take i).all (capB own) && capB own p) := by
  rw [List.take_add_one, h, List.all_append]; simp
def spKright (K : PySem.W.Frag) : Sp := fun vs H Q _ => ∃ (x y o : V) (rows : KR) (ce : Nat × List Nat) (own : List Str), vs = [x, y, o] ∧ Dp K H x (eCard rows) ∧ rows.length ≤ 3 ∧ Dp K H y (eC ce) ∧ FS H o own ∧ ∀ H', Same H H' → Q (.bl (capOk rows own && decide ((ce.1 : Int) = ksz rows))) H'
theorem ok_kright (T : Top K mg a) : FnOk P w K mg base CX0 1 a.f_l_kinds_right a.d_l_kinds_right ["_law_card", "_law_cell", "_law_own"] (spKright K) := by
  refine T.F_l_kinds_right.ok sc_l_kinds_right (fun vs H Q E h => ?_) (fun cdv A outer s H vs Q E hr h => ?_)
  · obtain ⟨x, y, o, rows, ce, own, rfl, _⟩ := h
    rfl
  · obtain ⟨x, y, o, rows, ce, own, rfl, hx, le, hy, ho, q⟩ := h
    refine ⟨_, (pss_cons (ps_set (i := 3) sc_l_kinds_right.nd rfl (.inl rfl) pe_int)
    (pss_cons (ps_for PassesOwn.never rfl (R1.PI.or (pi_list (pe_ix ix_seq (pv 0) pe_int (fun _ _ => rfl))) (pi_tup (pe_ix ix_seq (pv 0) pe_int (fun _ _ => rfl)))) (pg_name (i := 4) sc_l_kinds_right.nd rfl (.inl rfl))
      (C8.pss_cut (ps_if (pt_cmpR op_eq (pe_ix ix_seq (pv 4) pe_int (fun _ _ => rfl)) pe_int (nomark _))
        (pss_one (ps_set (i := 3) sc_l_kinds_right.nd rfl (.inl rfl) pe_int))
        pss_nil)
      (pss_one (ps_if (PW.pt (pw_and (pt_cmpR op_gt (pe_ix ix_seq (pv 4) pe_int (fun _ _ => rfl)) pe_int (nomark _)) (pw_and1 (pt_cmpR op_gt (RT.pe_bmF PySem.F.slot_tuple_count PySem.F.type_tuple_count (RT.mt_tcount (K := K) rfl) (pv 2) (pa_cons (pe_ix ix_seq (pv 4) pe_int (fun _ _ => rfl)) pa_nil)) (pe_ix ix_seq (pv 4) pe_int (fun _ _ => rfl)) (nomark _)))))
        (pss_one (ps_ret pe_bl))
        pss_nil))))
    (C8.pss_cut (ps_if (pt_cmpR op_eq (pv 3) pe_int (nomark _))
      (pss_one (ps_set (i := 3) sc_l_kinds_right.nd rfl (.inl rfl) (pe_callB (cr_sum rfl) (by rfl) T.z_sum (by decide +kernel) (pa_cons (pe_lc (own := [("_law_pair", 4)]) rfl sc_l_kinds_right.nd (R1.PI.or (pi_list (pe_ix ix_seq (pv 0) pe_int (fun _ _ => rfl))) (pi_tup (pe_ix ix_seq (pv 0) pe_int (fun _ _ => rfl)))) (blkOk_by (own := [("_law_pair", 4)]) (N := ["_law_card", "_law_cell", "_law_own", "_law_size_here", "_law_pair"]) (sc := defScope s_l_kinds_right) (by decide +kernel)) (fun _ _ _ _ _ => (pg_name (i := 4) sc_l_kinds_right.nd rfl (.inl rfl))) (fun _ _ _ _ _ => pts_nil) (fun _ _ _ _ _ => (pe_ix (R1.ix_seqK (K := K) rfl) (pv 4) pe_int (fun _ _ => rfl)))) pa_nil))))
      pss_nil)
    (pss_one (ps_ret (pe_cmpR op_eq (pe_ix ix_seq (pv 1) pe_int (fun _ _ => rfl)) (pv 3) (nomark _))))))), ?_⟩
    refine .inr ⟨x, rfl, rix (i := 1) hx rfl fun r hr => ?_⟩
    obtain ⟨p, vs, rfl, hs, ha⟩ := Dp.tupD hr
    have lv : vs.length = rows.length := by rw [dps_le ha, List.length_map]
    refine ⟨p, rfl, ⟨vs, hs⟩, for_it (walk_tup (xs := vs)) (fun i σ' H' => ∃ y4, σ' = [some x, some y, some o, some (.int (if (rows.take i).any (fun p => decide (p.2 = 0)) = true then 3 else 0)), y4] ∧ H' = H ∧ (rows.take i).all (capB own) = true) ⟨none, rfl, rfl, rfl⟩ ?_ ?_ ?_⟩
    · rintro i σ' H' _ ⟨_, _, rfl, _⟩
      exact hs
    · rintro i v σ' _ H' hi ⟨y4, rfl, rfl, hall⟩ ⟨rfl, hxi⟩
      obtain ⟨pr, er, hd⟩ := dps_row ha hxi
      refine ⟨fun σ2 H2 => σ2 = [some x, some y, some o, some (.int (if (rows.take (i + 1)).any (fun p => decide (p.2 = 0)) = true then 3 else 0)), some v] ∧ H2 = H', ?_, ?_⟩
      · refine ⟨_, rfl, rix (i := 1) hd rfl fun c hc => ?_⟩
        cases hc
        dsimp only [tC]
        refine eqI ⟨_, rfl, ite2 (fun e => ?_) (fun e => ?_)⟩
        · refine ⟨?_, rfl⟩
          rw [any_snoc er, e, Bool.or_true]; rfl
        · refine ⟨?_, rfl⟩
          rw [any_snoc er, Bool.eq_false_iff.mpr e, Bool.or_false]; rfl
      · rintro σ2 H2 ⟨rfl, rfl⟩
        obtain ⟨po, rfl, hf⟩ := ho
        refine if_ans (b := decide (0 < pr.2) && decide (pr.2 < ((own.count pr.1 : Nat) : Int))) (ans_and2 (fun Q q => ⟨_, rfl, rix (i := 1) hd rfl fun c hc => ?_⟩) (fun Q q => ⟨.ref po, rfl, ⟨po, _, rfl, hf⟩, _, rfl, rix (i := 0) hd rfl fun k hk => ?_⟩)) (fun e => ?_) (fun e => ?_)
        · cases hc
          exact ⟨_, _, rfl, rfl, _, rfl, q⟩
        · cases hk
          refine ⟨po, own, pr.1, rfl, rfl, hf.sq, _, rfl, rix (i := 1) hd rfl fun c hc => ?_⟩
          cases hc
          exact ⟨_, _, rfl, rfl, _, rfl, q⟩
        · have hc : capB own pr = false := by unfold capB; rw [e]; rfl
          have : capOk rows own = false := by
            unfold capOk
            rw [List.all_eq_false]
            exact ⟨pr, List.mem_of_getElem? er, Bool.eq_false_iff.mp hc⟩
          have q2 := q H2 (Same.refl _)
          rw [this, Bool.false_and] at q2
          exact q2
        · have hc : capB own pr = true := by unfold capB; rw [e]; rfl
          refine ⟨_, rfl, rfl, ?_⟩
          rw [all_snoc er, hall, hc]; rfl
    · rintro σ' H' ⟨y4, rfl, rfl, hall⟩
      rw [lv, List.take_length] at hall ⊢
      have hcap : capOk rows own = true := hall
      refine ⟨fun σ2 H2 => ∃ y4, σ2 = [some x, some y, some o, some (.int (ksz rows)), y4] ∧ Same H' H2, ?_, ?_⟩
      · by_cases e0 : rows.any (fun p => decide (p.2 = 0)) = true
        · have ek : ksz rows = 3 := by unfold ksz; rw [if_pos e0]
          rw [if_pos e0]
          refine vEqT rfl (ite2 (fun e => ?_) (fun e => ?_))
          · exact absurd (of_decide_eq_true e) (by decide)
          · exact ⟨_, by rw [ek], Same.refl _⟩
        · have ek : ksz rows = (rows.map Prod.snd).sum := by unfold ksz; rw [if_neg e0]
          rw [if_neg e0]
          refine vEqT rfl (ite2 (fun e => ?_) (fun e => ?_))
          · refine .inr ⟨x, rfl, rix (i := 1) hx rfl fun r2 hr2 => ?_⟩
            obtain ⟨p2, vs2, rfl, hs2, ha2⟩ := Dp.tupD hr2
            have lv2 : vs2.length = rows.length := by rw [dps_le ha2, List.length_map]
            refine ⟨p2, rfl, ⟨vs2, hs2⟩, fun D nD => lc_it (walk_tup (xs := vs2)) (fun i H2 => Same H' H2 ∧ IntsAt H2 D ((rows.take i).map Prod.snd)) ⟨Same.mut (Same.refl _) nD, upd_same⟩ (fun i H2 _ h => sqT_tk (Same.tk h.1) hs2) ?_ ?_⟩
            · rintro i v _ H2 hi ⟨sm, hD⟩ ⟨rfl, hxi⟩
              obtain ⟨pr, er, hd⟩ := dps_row ha2 hxi
              refine ⟨rfl, _, rfl, rix (i := 1) (dp_tk (Same.tk sm) _ _ hd rfl) rfl fun c hc => ?_⟩
              cases hc
              refine ⟨_, hD, small1000 (by rw [List.length_map, List.length_map, List.length_take]; omega), Same.mut sm nD, ?_⟩
              unfold IntsAt
              rw [upd_same, List.take_add_one, er]
              simp
            · rintro H2 ⟨sm, hD⟩
              rw [lv2, List.take_length] at hD
              refine ⟨D, _, rfl, .of hD, ?_⟩
              rw [← ek]
              exact ⟨_, rfl, sm⟩
          · exact absurd (by decide) e
      · rintro σ2 H2 ⟨y5, rfl, s2⟩
        refine ⟨y, rfl, rix (i := 0) (dp_tk (Same.tk s2) _ _ hy (kbC ce)) rfl fun c hc => ?_⟩
        cases hc
        refine ⟨_, rfl, eqI ?_⟩
        have q2 := q H2 s2
        rw [hcap, Bool.true_and] at q2
        exact q2
end
end K21


/-! all own parts -/
namespace K21
open PySem PySem.Spec PyProof.Rows L2 RN
section
variable {P : Program} {w : World} {K : PySem.W.Frag} {mg : Str → Option Value} {base : Heap} {a : Ad}
def spNo : Sp := fun _ _ _ _ => False
theorem ok_orders : FnOk P w K mg base CX0 1 a.f_l_orders a.d_l_orders ["_law_blocks"] spNo :=
  ⟨fun vs H Q E h => h.elim, fun A outer s H args us vs Q E hr he hb hv h => h.elim⟩
theorem eqST {x y : Str} {H : Hp} {Q : VK} (e : x = y) (q : Q (.bl true) H) : rEq (.str x) (.str y) H Q := eqS (by rw [decide_eq_true e]; exact q)
theorem eqSF {x y : Str} {H : Hp} {Q : VK} (e : x ≠ y) (q : Q (.bl false) H) : rEq (.str x) (.str y) H Q := eqS (by rw [decide_eq_false e]; exact q)
theorem ixEqT {σ : L2.St} {H : Hp} {i j : Nat} {x : V} {ds : List PyData} {z c : Str} {Q : Bool → Hp → Prop} (h0 : σ[i]? = some (some x)) (h : Dp K H x (.tuple ds)) (e : ds[j]? = some (.str z)) (q : Q (decide (z = c)) H) : tTest (tOp rEq (tOp (rIx K) (tVar i) (tC (.int (j : Int)))) (tC (.str c))) σ H Q :=
  ⟨x, h0, rix h e fun y hy => by cases hy; dsimp only [tC]; exact eqS ⟨_, rfl, q⟩⟩
theorem al_map {α β : Type} {R : V → β → Prop} {g : α → β} {xs : List V} {l : List α} (h : R1.Al R xs (l.map g)) : R1.Al (fun x r => R x (g r)) xs l :=
  ⟨by rw [h.1, List.length_map], fun i x r hx hr => h.2 i x (g r) hx (by rw [List.getElem?_map, hr]; rfl)⟩
theorem cl_card {rows : KR} (cd : CdOk rows) : SeqAt.shaped (eCard rows) = true := by
  have sk : PyData.strOk ("kinds" : Str) = true := by decide +kernel
  have h : ∀ l : KR, (∀ p ∈ l, PyData.strOk p.1 = true) → PyData.canLayAll0 (l.map eRow) = true ∧ PyData.depthAll (l.map eRow) ≤ 1 := by
    intro l
    induction l with
    | nil => exact fun _ => ⟨rfl, Nat.zero_le _⟩
    | cons p l ih =>
      intro h
      obtain ⟨a, b⟩ := ih fun q hq => h q (List.mem_cons_of_mem _ hq)
      have e := h p List.mem_cons_self
      refine ⟨?_, ?_⟩
      · show ((PyData.strOk p.1 && (true && true)) && PyData.canLayAll0 (l.map eRow)) = true
        rw [e, a]; rfl
      · show max (max 0 (max 0 0) + 1) (PyData.depthAll (l.map eRow)) ≤ 1
        omega
  obtain ⟨a, b⟩ := h rows cd.st
  have c1 : (eCard rows).canLay0 = true := by
    show (PyData.strOk ("kinds" : Str) && (PyData.canLayAll0 (rows.map eRow) && true)) = true
    rw [sk, a]; rfl
  have c2 : (eCard rows).depth ≤ 64 := by
    show max 0 (max (PyData.depthAll (rows.map eRow) + 1) 0) + 1 ≤ 64
    omega
  unfold SeqAt.shaped
  rw [c1, decide_eq_true c2]; rfl
theorem cl_ring (c : Nat) : SeqAt.shaped (eRing c) = true := by
  have sk : PyData.strOk ("ring" : Str) = true := by decide +kernel
  have c1 : (eRing c).canLay0 = true := by
    show (PyData.strOk ("ring" : Str) && (true && true)) = true
    rw [sk]; rfl
  have c2 : (eRing c).depth ≤ 64 := by
    show max 0 (max 0 0) + 1 ≤ 64
    omega
  unfold SeqAt.shaped
  rw [c1, decide_eq_true c2]; rfl
def spParts (K : PySem.W.Frag) : Sp := fun vs H Q _ => ∃ (x y : V) (ce : Nat × List Nat) (n : Nat), vs = [x, y] ∧ Dp K H y (eC ce) ∧ MkOk n ce.2 ∧ n ≤ 3 ∧
  ((∃ rows, Dp K H x (eCard rows) ∧ CdOk rows ∧ ∀ p H', Same H H' → LsIs K H' p ((kParts rows ce.1 ce.2).map eS) → Q (.ref p) H') ∨
  (∃ c, Dp K H x (eRing c) ∧ (c = 2 ∨ c = 3) ∧ ∀ p H', Same H H' → LsIs K H' p ((rParts c ce.2).map eI) → Q (.ref p) H'))
theorem ok_partsL (T : Top K mg a) (G_l_orders : FnOk P w K mg base CX0 1 a.f_l_orders a.d_l_orders ["_law_blocks"] spNo) (G_l_kinds_right : FnOk P w K mg base CX0 1 a.f_l_kinds_right a.d_l_kinds_right ["_law_card", "_law_cell", "_law_own"] (spKright K)) : FnOk P w K mg base CX0 2 a.f_l_parts a.d_l_parts ["_law_card", "_law_cell"] (spParts K) := by
  refine T.F_l_parts.ok sc_l_parts (fun vs H Q E h => ?_) (fun cdv A outer s H vs Q E hr h => ?_)
  · obtain ⟨x, y, ce, n, rfl, _⟩ := h
    rfl
  · obtain ⟨x, y, ce, n, rfl, hy, mo, hn, hQ⟩ := h
    refine ⟨_, (pss_cons (ps_if (pt_cmpR op_isN (pv 0) pe_non (nomark _))
      (pss_one (ps_ret (pe_lst (pa_cons (RT.pe_tupF pa_nil) pa_nil))))
      pss_nil)
    (pss_cons (ps_set (i := 2) sc_l_parts.nd rfl (.inl rfl) (R1.pe_lenSetX rfl (by rfl) T.z_len (by rfl) T.z_set (pe_ix ix_seq (pv 1) pe_int (fun _ _ => rfl))))
    (pss_cons (ps_if (pt_cmpR op_eq (pe_ix ix_seq (pv 0) pe_int (fun _ _ => rfl)) pe_str (nomark _))
      (pss_one (ps_ret (pe_lc (own := [("_law_k", 3)]) rfl sc_l_parts.nd (pi_range1 (by rfl) T.z_range (pa_cons (pe_callB (CallR.or call_len_str call_len_seq) (by rfl) T.z_len (by decide +kernel) (pa_cons (pe_ix ix_seq (pv 0) pe_int (fun _ _ => rfl)) pa_nil)) pa_nil)) (blkOk_by (own := [("_law_k", 3)]) (N := ["_law_card", "_law_cell", "_law_blocks", "_law_k", "_law_signs", "_law_rows", "_law_wider", "_law_row", "_law_sign", "_law_pair"]) (sc := defScope s_l_parts) (by decide +kernel)) (fun _ _ _ _ _ => (pg_name (i := 3) sc_l_parts.nd rfl (.inl rfl))) (fun _ _ _ _ _ => pts_one (pt_cmpR op_eq (pe_ix (R1.ix_seqK (K := K) rfl) (pe_ix (R1.ix_seqK (K := K) rfl) (pe_ix (R1.ix_seqK (K := K) rfl) (pv 0) pe_int (fun _ _ => rfl)) (pv 3) (fun _ _ => rfl)) pe_int (fun _ _ => rfl)) (pv 1) (nomark _))) (fun _ _ _ _ _ => (RT.pe_tupF (pa_cons (pv 3) pa_nil))))))
      pss_nil)
    (pss_cons (ps_if (pt_cmpR op_eq (pe_ix ix_seq (pv 0) pe_int (fun _ _ => rfl)) pe_str (nomark _))
      (pss_one (ps_ret (pe_call G_l_orders (hr.mono (by decide)) (by rfl) T.m_l_orders T.F_l_orders.kp T.b_l_orders .nil pass0 (pa_cons (pv 2) pa_nil))))
      pss_nil)
    (pss_cons (ps_set (i := 4) sc_l_parts.nd rfl (.inl rfl) (pe_lst (pa_cons pe_int (pa_cons pe_int (pa_cons pe_int pa_nil)))))
    (C8.pss_cut (ps_if (pt_cmpR op_eq (pe_ix ix_seq (pv 0) pe_int (fun _ _ => rfl)) pe_str (nomark _))
      (pss_one (ps_setLc (own := [("_law_pair", 9)]) (i := 4) rfl sc_l_parts.nd rfl rfl (sw_true rfl rfl rfl (by decide +kernel)) (R1.PI.or (pi_list (pe_ix ix_seq (pv 0) pe_int (fun _ _ => rfl))) (pi_tup (pe_ix ix_seq (pv 0) pe_int (fun _ _ => rfl)))) (blkOk_by (own := [("_law_pair", 9)]) (N := ["_law_card", "_law_cell", "_law_blocks", "_law_k", "_law_signs", "_law_rows", "_law_wider", "_law_row", "_law_sign", "_law_pair"]) (sc := defScope s_l_parts) (by decide +kernel)) (fun _ _ _ _ _ => (pg_name (i := 9) sc_l_parts.nd rfl (.inl rfl))) (fun _ _ _ _ _ => pts_nil) (fun _ _ _ _ _ => (pe_ix (R1.ix_seqK (K := K) rfl) (pv 9) pe_int (fun _ _ => rfl)))))
      pss_nil)
    (C8.pss_cut (ps_if (pt_cmpR (op_eqD hr.units) (pv 0) (RT.pe_tupF (pa_cons pe_str (pa_cons pe_int pa_nil))) (nomark _))
      (pss_one (ps_set (i := 4) sc_l_parts.nd rfl (.inl rfl) (pe_lst (pa_cons pe_int (pa_cons pe_int pa_nil)))))
      pss_nil)
    (pss_cons (ps_set (i := 5) sc_l_parts.nd rfl (.inl rfl) (pe_lst (pa_cons (RT.pe_tupF pa_nil) pa_nil)))
    (pss_cons (ps_for PassesOwn.never rfl (pi_range1 (by rfl) T.z_range (pa_cons (pv 2) pa_nil)) (pg_name (i := 3) sc_l_parts.nd rfl (.inl rfl))
      (pss_cons (ps_set (i := 6) sc_l_parts.nd rfl (.inl rfl) (pe_lst pa_nil))
      (pss_cons (ps_for PassesOwn.never rfl (R1.PI.or (pi_list (pe_callTy call_list_of (by rfl) T.z_list (by decide +kernel) (pa_cons (pv 5) pa_nil))) (pi_tup (pe_callTy call_list_of (by rfl) T.z_list (by decide +kernel) (pa_cons (pv 5) pa_nil)))) (pg_name (i := 7) sc_l_parts.nd rfl (.inl rfl))
        (pss_one (ps_for PassesOwn.never rfl (R1.PI.or (pi_list (pv 4)) (pi_tup (pv 4))) (pg_name (i := 8) sc_l_parts.nd rfl (.inl rfl))
          (pss_one (ps_expr (pe_bm PySem.F.plainAttrs_list PySem.F.slot_list_append PySem.F.type_list_append mt_append (pv 6) (pa_cons (pe_op RT.op_catF (pv 7) (RT.pe_tupF (pa_cons (pv 8) pa_nil))) pa_nil)))))))
      (pss_one (ps_set (i := 5) sc_l_parts.nd rfl (.inl rfl) (pv 6))))))
    (pss_one (ps_ret (pe_lc (own := [("_law_row", 7)]) rfl sc_l_parts.nd (R1.PI.or (pi_list (pv 5)) (pi_tup (pv 5))) (blkOk_by (own := [("_law_row", 7)]) (N := ["_law_card", "_law_cell", "_law_blocks", "_law_k", "_law_signs", "_law_rows", "_law_wider", "_law_row", "_law_sign", "_law_pair"]) (sc := defScope s_l_parts) (by decide +kernel)) (fun _ _ _ _ _ => (pg_name (i := 7) sc_l_parts.nd rfl (.inl rfl))) (fun _ _ _ _ _ => pts_one (PW.pt (pw_or (pt_cmpR op_eq (pe_ix (R1.ix_seqK (K := K) rfl) (pv 0) pe_int (fun _ _ => rfl)) pe_str (nomark _)) (pw_or1 (pt_val (pe_call G_l_kinds_right (hr.mono (by decide)) (by rfl) T.m_l_kinds_right T.F_l_kinds_right.kp T.b_l_kinds_right .nil pass0 (pa_cons (pv 0) (pa_cons (pv 1) (pa_cons (pv 7) pa_nil))))))))) (fun _ _ _ _ _ => (pv 7)))))))))))))), ?_⟩
    obtain ⟨px, rfl⟩ : ∃ p, x = .ref p := by
      rcases hQ with ⟨rows, hx, _⟩ | ⟨c, hx, _⟩
      · obtain ⟨p, vs, e, _⟩ := Dp.tupD hx; exact ⟨p, e⟩
      · obtain ⟨p, vs, e, _⟩ := Dp.tupD hx; exact ⟨p, e⟩
    have len3 : (3 : Nat) ≤ sizeLine := by decide
    have len2 : (2 : Nat) ≤ sizeLine := by decide
    refine ⟨_, rfl, rfl, _, rfl, iteF ⟨y, rfl, rix (i := 1) hy rfl fun m hm => ?_⟩⟩
    obtain ⟨pm, us, rfl, hpm, hus⟩ := Dp.tupD hm
    rw [dps_int hus] at hpm
    refine ⟨pm, ivals ce.2, rfl, .inr hpm, by unfold ivals; rw [List.length_map, mo.len]; omega, ?_⟩
    rw [mo.ds]
    have h0 : ∃ z : Str, (∃ r, Dp K H (.ref px) (.tuple [.str z, r])) ∧ z ≠ "rows" ∧ z ≠ "below" := by
      rcases hQ with ⟨rows, hx, _⟩ | ⟨c, hx, _⟩
      · exact ⟨"kinds", ⟨_, hx⟩, by decide, by decide⟩
      · exact ⟨"ring", ⟨_, hx⟩, by decide, by decide⟩
    obtain ⟨z, ⟨r, hz⟩, z1, z2⟩ := h0
    refine ixEqT (j := 0) rfl hz rfl ?_
    rw [decide_eq_false z1]
    refine iteF (ixEqT (j := 0) rfl hz rfl ?_)
    rw [decide_eq_false z2]
    refine iteF ⟨len3, fun p0 n0 => ?_⟩
    have s0 : Same H (upd H p0 (.lst [.int 0, .int 1, .int 2])) := same_upd n0
    refine ⟨fun σ' H' => ∃ pS ks, σ' = [some (.ref px), some y, some (.int (blk ce.2 : Int)), none, some (.ref pS), none, none, none, none, none] ∧ Same H H' ∧ H' pS = some (.lst ks) ∧
      ((∃ rows, Dp K H (.ref px) (eCard rows) ∧ CdOk rows ∧ ks = (rows.map Prod.fst).map V.str ∧ ∀ p H', Same H H' → LsIs K H' p ((kParts rows ce.1 ce.2).map eS) → Q (.ref p) H') ∨
      (∃ c, Dp K H (.ref px) (eRing c) ∧ (c = 2 ∨ c = 3) ∧ ks = [.int 0, .int 1, .int 2] ∧ ∀ p H', Same H H' → LsIs K H' p ((rParts c ce.2).map eI) → Q (.ref p) H')), ?_, ?_⟩
    · rcases hQ with ⟨rows, hx, cd, q⟩ | ⟨c, hx, hc, q⟩
      · have hx0 := dp_tk (Same.tk s0) _ _ hx (kbCard rows)
        refine ixEqT (j := 0) rfl hx0 rfl ?_
        rw [decide_eq_true (by decide)]
        refine iteT ?_
        refine .inr ⟨.ref px, rfl, rix (i := 1) hx0 rfl fun r2 hr2 => ?_⟩
        obtain ⟨p2, vs2, rfl, hs2, ha2⟩ := Dp.tupD hr2
        have lv2 : vs2.length = rows.length := by rw [dps_le ha2, List.length_map]
        refine ⟨p2, rfl, ⟨vs2, hs2⟩, fun D nD => lc_it (walk_tup (xs := vs2)) (fun i H2 => Same (upd H p0 (.lst [.int 0, .int 1, .int 2])) H2 ∧ H2 D = some (.lst (((rows.take i).map Prod.fst).map V.str))) ⟨Same.mut (Same.refl _) nD, upd_same⟩ (fun i H2 _ h => sqT_tk (Same.tk h.1) hs2) ?_ ?_⟩
        · rintro i v _ H2 hi ⟨sm, hD⟩ ⟨rfl, hxi⟩
          obtain ⟨pr, er, hd⟩ := dps_row ha2 hxi
          refine ⟨rfl, _, rfl, rix (i := 0) (dp_tk (Same.tk sm) _ _ hd rfl) rfl fun c hc => ?_⟩
          cases hc
          have := cd.le
          refine ⟨_, hD, small1000 (by rw [List.length_map, List.length_map, List.length_take]; omega), Same.mut sm nD, ?_⟩
          rw [upd_same, List.take_add_one, er]
          simp
        · rintro H2 ⟨sm, hD⟩
          rw [lv2, List.take_length] at hD
          exact ⟨D, _, rfl, s0.trans sm, hD, .inl ⟨rows, hx, cd, rfl, q⟩⟩
      · have hx0 := dp_tk (Same.tk s0) _ _ hx (kbRing c)
        refine ixEqT (j := 0) rfl hx0 rfl ?_
        rw [decide_eq_false (by decide)]
        refine iteF ?_
        exact ⟨p0, _, rfl, s0, upd_same, .inr ⟨c, hx, hc, rfl, q⟩⟩
    rintro σ' H1 ⟨pS, ks, rfl, s1, hS, hQ1⟩
    clear hQ
    refine ⟨fun σ' H' => ∃ pS ks, σ' = [some (.ref px), some y, some (.int (blk ce.2 : Int)), none, some (.ref pS), none, none, none, none, none] ∧ Same H H' ∧ H' pS = some (.lst ks) ∧ ks.length ≤ 3 ∧
      ((∃ rows, Dp K H (.ref px) (eCard rows) ∧ CdOk rows ∧ ks = (rows.map Prod.fst).map V.str ∧ ∀ p H', Same H H' → LsIs K H' p ((kParts rows ce.1 ce.2).map eS) → Q (.ref p) H') ∨
      (∃ c, Dp K H (.ref px) (eRing c) ∧ (c = 2 ∨ c = 3) ∧ ks = (cols c).map V.int ∧ ∀ p H', Same H H' → LsIs K H' p ((rParts c ce.2).map eI) → Q (.ref p) H')), ?_, ?_⟩
    · refine ⟨.ref px, rfl, len2, fun pt ot nt dt => ?_⟩
      have s2 := same_upd (o := .frz ot (.tup [.str "ring", .int 2])) nt
      have s02 := s1.trans s2
      have dt2 : Dp K (upd H1 pt (.frz ot (.tup [.str "ring", .int 2]))) (.ref pt) (eRing 2) := .tup (.inl (.inr ⟨ot, upd_same⟩)) (.cons (.str _) (.cons (.int _) .nil))
      rcases hQ1 with ⟨rows, hx, cd, e, q⟩ | ⟨c, hx, hc, e, q⟩
      · have ev : PyData.eqv (eCard rows) (eRing 2) = false := rfl
        refine ⟨eCard rows, eRing 2, dp_tk (Same.tk s02) _ _ hx (kbCard rows), dt2, cl_card cd, cl_ring 2, _, rfl, ?_⟩
        rw [ev]
        refine iteF ⟨pS, ks, rfl, s02, s2 _ _ hS, ?_, .inl ⟨rows, hx, cd, e, q⟩⟩
        rw [e, List.length_map, List.length_map]; exact cd.le
      · refine ⟨eRing c, eRing 2, dp_tk (Same.tk s02) _ _ hx (kbRing c), dt2, cl_ring c, cl_ring 2, _, rfl, ?_⟩
        rcases hc with rfl | rfl
        · have ev : PyData.eqv (eRing 2) (eRing 2) = true := by decide +kernel
          rw [ev]
          refine iteT ⟨len2, fun p3 n3 => ⟨p3, _, rfl, s02.trans (same_upd n3), upd_same, by decide, .inr ⟨2, hx, .inl rfl, rfl, q⟩⟩⟩
        · have ev : PyData.eqv (eRing 3) (eRing 2) = false := by decide +kernel
          rw [ev]
          exact iteF ⟨pS, ks, rfl, s02, s2 _ _ hS, by rw [e]; decide, .inr ⟨3, hx, .inr rfl, e, q⟩⟩
    clear hQ1 hS s1
    rintro σ' H1 ⟨pS, ks, rfl, s1, hS, lk, hQ⟩
    refine ⟨Nat.zero_le _, fun q0 o0 n0 d0 => ⟨Nat.le_of_lt (small1000 (by simp)), fun q1 n1 => ?_⟩⟩
    have h1n : H1 q1 = none := by
      by_cases e : q1 = q0
      · rw [e]; exact n0
      · rw [upd_ne e] at n1; exact n1
    have s2 : Same H1 (upd (upd H1 q0 (.frz o0 (.tup []))) q1 (.lst [V.ref q0])) := Same.mut (Same.mut (Same.refl _) n0) h1n
    have hq0 : (upd (upd H1 q0 (.frz o0 (.tup []))) q1 (.lst [V.ref q0])) q0 = some (.frz o0 (.tup [])) := by
      rw [upd_ne (fun e => by rw [← e, upd_same] at n1; cases n1), upd_same]
    have b3 := mo.le
    refine ⟨.int (blk ce.2 : Int), rfl, _, rfl, by omega, by omega, for_it walk_range (fun i σ' H' => ∃ p xs y3 y6 y7 y8, σ' = [some (.ref px), some y, some (.int (blk ce.2 : Int)), y3, some (.ref pS), some (.ref p), y6, y7, y8, none] ∧ Same H1 H' ∧ H' p = some (.lst xs) ∧ R1.Al (fun x r => FZ H' x r) xs (rowsB ks i)) ⟨q1, _, none, none, none, none, rfl, s2, upd_same, R1.Al.one ⟨q0, rfl, o0, d0, hq0⟩⟩ (fun _ _ _ _ _ => trivial) ?_ ?_⟩
    · rintro i v σ' _ H2 hi ⟨p, xs, y3, y6, y7, y8, rfl, sm, hp, hA⟩ ⟨rfl, rfl⟩
      have hi3 : i < 3 := by omega
      have b2 := rowsB_small (ks := ks) lk (show i + 1 ≤ 3 by omega)
      have lx : xs.length = (rowsB ks i).length := hA.1
      refine ⟨Nat.zero_le _, fun D nD => ?_⟩
      have hp1 := same_upd (o := .lst []) nD _ _ hp
      refine .inl ⟨.ref p, rfl, p, xs, rfl, .inl (SqL.of hp1), fun l nl => ?_⟩
      have nlH : H2 l = none := by
        by_cases e : l = D
        · rw [e]; exact nD
        · rw [upd_ne e] at nl; exact nl
      have lD : l ≠ D := fun e => by rw [e, upd_same] at nl; cases nl
      have hD0 : (upd (upd H2 D (.lst [])) l (.lst xs)) D = some (.lst []) := by rw [upd_ne (Ne.symm lD), upd_same]
      have hl0 : (upd (upd H2 D (.lst [])) l (.lst xs)) l = some (.lst xs) := upd_same
      have sm0 : Same H2 (upd (upd H2 D (.lst [])) l (.lst xs)) := Same.mut (Same.mut (Same.refl _) nD) nlH
      have hS2 := sm _ _ hS
      refine ⟨l, rfl, ⟨xs, SqL.of hl0⟩, for_it (walk_list (xs := xs)) (fun u σ' H3 => ∃ y7 y8 acc, σ' = [some (.ref px), some y, some (.int (blk ce.2 : Int)), some (.int (0 + (i : Int))), some (.ref pS), some (.ref p), some (.ref D), y7, y8, none] ∧ Same H2 H3 ∧ H3 l = some (.lst xs) ∧ H3 D = some (.lst acc) ∧ R1.Al (fun x r => FZ H3 x r) acc (((rowsB ks i).take u).flatMap (stepB ks))) ⟨y7, y8, [], rfl, sm0, hl0, hD0, R1.Al.nil⟩ ?_ ?_ ?_⟩
      · rintro u σ' H3 _ ⟨_, _, _, _, _, h, _⟩
        exact SqL.of h
      · rintro u v σ' _ H3 hu ⟨z7, z8, acc, rfl, sm2, hl2, hD, hB⟩ ⟨rfl, hx⟩
        obtain ⟨r, hr, b, rfl, hb⟩ := hA.at hx
        have lr := (rowsB_mem (List.mem_of_getElem? hr)).1
        have ln : ((rowsB ks i).take (u + 1)).flatMap (stepB ks) = ((rowsB ks i).take u).flatMap (stepB ks) ++ stepB ks r := flat_snoc (stepB ks) hr
        have l2 : (((rowsB ks i).take u).flatMap (stepB ks)).length ≤ 27 := Nat.le_trans (flat_take (stepB ks) (rowsB ks i) u) b2
        refine .inl ⟨.ref pS, rfl, pS, rfl, ⟨ks, SqL.of (sm2 _ _ hS2)⟩, for_it (walk_list (xs := ks)) (fun v σ' H4 => ∃ y8 acc, σ' = [some (.ref px), some y, some (.int (blk ce.2 : Int)), some (.int (0 + (i : Int))), some (.ref pS), some (.ref p), some (.ref D), some (.ref b), y8, none] ∧ Same H2 H4 ∧ H4 l = some (.lst xs) ∧ H4 D = some (.lst acc) ∧ R1.Al (fun x r => FZ H4 x r) acc (((rowsB ks i).take u).flatMap (stepB ks) ++ stepB (ks.take v) r)) ⟨z8, acc, rfl, sm2, hl2, hD, by simpa [stepB] using hB⟩ (fun v σ' H4 _ h => ?_) ?_ ?_⟩
        · obtain ⟨_, _, _, h, _⟩ := h
          exact SqL.of (h _ _ hS2)
        · rintro v k σ' _ H4 hv ⟨w8, acc3, rfl, sm3, hl3, hD3, hA3⟩ ⟨rfl, hk⟩
          have rv : ks.take (v + 1) = ks.take v ++ [k] := by rw [List.take_add_one, hk]; rfl
          have la : acc3.length ≤ 100 := by
            have h1 := hA3.1
            have h2 : (stepB (ks.take v) r).length ≤ 3 := by
              unfold stepB
              rw [List.length_map, List.length_take]; omega
            rw [List.length_append] at h1
            omega
          have hb3 := hb.same sm3
          refine ⟨.ref D, rfl, .inl ⟨rfl, acc3, SqL.of hD3⟩, .ref b, rfl, k, rfl, Nat.le_of_lt (small1000 (by simp)), fun pt ot nt dt => ?_⟩
          have sT : Same H4 (upd H4 pt (.frz ot (.tup [k]))) := same_upd nt
          refine ⟨b, pt, _, _, rfl, rfl, hb3.same sT, ⟨ot, dt, upd_same⟩, ?_, fun p2 H5 s4 hf => ?_⟩
          · refine Nat.le_of_lt (small1000 ?_)
            rw [lr]
            show i + 1 ≤ 1000
            omega
          have sT2 : Same H4 H5 := sT.trans s4
          have hD4 := sT2 _ _ hD3
          refine ⟨D, acc3, .ref p2, rfl, rfl, hD4, small1000 (by omega), _, _, rfl, ?_, ?_, upd_same, ?_⟩
          · exact Same.mut (sm3.trans sT2) nD
          · rw [upd_ne lD]; exact sT2 _ _ hl3
          · have e2 : stepB (ks.take v ++ [k]) r = stepB (ks.take v) r ++ [r ++ [k]] := by unfold stepB; simp
            rw [rv, e2, ← List.append_assoc]
            exact R1.Al.snoc (hA3.mono fun x r h => (h.same sT2).upd hD4) (FZ.upd hD4 ⟨p2, rfl, hf⟩)
        · rintro σ' H4 ⟨w8, acc3, rfl, sm3, hl3, hD3, hA3⟩
          refine ⟨_, _, acc3, rfl, sm3, hl3, hD3, ?_⟩
          rw [List.take_length] at hA3
          rw [ln]
          exact hA3
      · rintro σ' H3 ⟨z7, z8, acc, rfl, sm2, hl2, hD, hB⟩
        rw [lx, List.take_length] at hB
        exact ⟨_, rfl, D, acc, _, _, _, _, rfl, sm.trans sm2, hD, hB⟩
    · rintro σ' H2 ⟨p, xs, y3, y6, y7, y8, rfl, sm, hp, hA⟩
      have hA : R1.Al (fun x r => FZ H2 x r) xs (rowsB ks (blk ce.2)) := by simpa using hA
      have l27 := rowsB_small lk b3
      have lx : xs.length = (rowsB ks (blk ce.2)).length := hA.1
      have s02 := s1.trans sm
      refine .inl ⟨.ref p, rfl, p, rfl, ⟨xs, SqL.of hp⟩, fun D nD => ?_⟩
      rcases hQ with ⟨rows, hx, cd, rfl, q⟩ | ⟨c, hx, hc, rfl, q⟩
      · rw [rowsB_map] at hA
        have hA := al_map hA
        have lx : xs.length = (rowsB (rows.map Prod.fst) (blk ce.2)).length := hA.1
        refine lc_it (walk_list (xs := xs)) (fun u H3 => Same H2 H3 ∧ LsIs K H3 D ((((rowsB (rows.map Prod.fst) (blk ce.2)).take u).filter fun own => capOk rows own && decide ((ce.1 : Int) = ksz rows)).map eS)) ⟨Same.mut (Same.refl _) nD, ls_nil⟩ (fun u H3 _ h => h.1.seq (SqL.of hp)) ?_ ?_
        · rintro u v _ H3 hu ⟨s3, acc, hD, hB⟩ ⟨rfl, hv⟩
          obtain ⟨own, hown, hf⟩ := hA.at hv
          have hf : FS H2 v own := hf
          have s03 := s02.trans s3
          have ef := take_filter_snoc (fun own => capOk rows own && decide ((ce.1 : Int) = ksz rows)) eS hown
          have la : acc.length ≤ 27 := by
            rw [dps_le hB, List.length_map]
            refine Nat.le_trans (List.length_filter_le _ _) ?_
            rw [List.length_take]; omega
          refine ⟨rfl, ?_⟩
          refine ixEqT (j := 0) rfl (dp_tk (Same.tk s03) _ _ hx (kbCard rows)) rfl ?_
          rw [decide_eq_false (by decide)]
          refine iteF ⟨.ref px, rfl, y, rfl, v, rfl, .ref px, y, v, rows, ce, own, rfl, dp_tk (Same.tk s03) _ _ hx (kbCard rows), cd.le, dp_tk (Same.tk s03) _ _ hy (kbC ce), hf.same s3, fun H4 s4 => ⟨_, rfl, ?_⟩⟩
          have hB4 := dps_tk (Same.tk s4) hB (kbm kbS _)
          refine ite2 (fun e => ?_) (fun e => ?_)
          · rw [if_pos e] at ef
            refine ⟨_, rfl, acc, s4 _ _ hD, small1000 (by omega), Same.mut (s3.trans s4) nD, ?_⟩
            rw [ef]
            exact ls_snoc (s4 _ _ hD) hB4 (kbm kbS _) ((hf.same (s3.trans s4)).dp) (kbS _)
          · rw [if_neg e, List.append_nil] at ef
            refine ⟨s3.trans s4, ?_⟩
            rw [ef]
            exact ⟨acc, s4 _ _ hD, hB4⟩
        · rintro H3 ⟨s3, hD⟩
          rw [lx, List.take_length] at hD
          exact q D H3 (s02.trans s3) hD
      · rw [rowsB_map] at hA
        have hA := al_map hA
        have lx : xs.length = (rowsB (cols c) (blk ce.2)).length := hA.1
        refine lc_it (walk_list (xs := xs)) (fun u H3 => Same H2 H3 ∧ LsIs K H3 D (((rowsB (cols c) (blk ce.2)).take u).map eI)) ⟨Same.mut (Same.refl _) nD, ls_nil⟩ (fun u H3 _ h => h.1.seq (SqL.of hp)) ?_ ?_
        · rintro u v _ H3 hu ⟨s3, acc, hD, hB⟩ ⟨rfl, hv⟩
          obtain ⟨own, hown, pv, rfl, hf⟩ := hA.at hv
          have s03 := s02.trans s3
          have la : acc.length ≤ 27 := by
            rw [dps_le hB, List.length_map, List.length_take]
            omega
          refine ⟨rfl, ?_⟩
          refine ixEqT (j := 0) rfl (dp_tk (Same.tk s03) _ _ hx (kbRing c)) rfl ?_
          rw [decide_eq_true (by decide)]
          refine iteT (iteT ⟨_, rfl, acc, hD, small1000 (by omega), Same.mut s3 nD, ?_⟩)
          rw [List.take_add_one, hown, List.map_append]
          exact ls_snoc hD hB (kbm kbI _) (.tup (hf.same s3).sq (int_dps own)) (kbI _)
        · rintro H3 ⟨s3, hD⟩
          rw [lx, List.take_length] at hD
          exact q D H3 (s02.trans s3) hD
end
end K21


/-! what holds, by the law -/
namespace K21
open PySem PySem.Spec PyProof.Rows L2 RN
section
variable {P : Program} {w : World} {K : PySem.W.Frag} {mg : Str → Option Value} {base : Heap} {a : Ad}
def spHolds (K : PySem.W.Frag) : Sp := fun vs H Q _ => ∃ (c x y o l : V) (nm : List Str) (ce : Nat × List Nat), vs = [c, x, y, o, l] ∧ FS H x nm ∧ Dp K H y (eC ce) ∧ MkOk nm.length ce.2 ∧
  ((∃ own q, Dp K H o (eS own) ∧ own.length = blk ce.2 ∧ Dp K H l (eKL q) ∧ q.z ∈ nm ∧ Q (.bl (q.holds nm ce.2 own)) H) ∨
  (∃ n own q, Dp K H c (eRing n) ∧ 0 < n ∧ Dp K H o (eI own) ∧ own.length = blk ce.2 ∧ Dp K H l (eRL q) ∧ q.x ∈ nm ∧ q.y ∈ nm ∧ Q (.bl (q.holds n nm ce.2 own)) H))
theorem ok_holds (T : Top K mg a) : FnOk P w K mg base CX0 1 a.f_l_holds a.d_l_holds ["_law_card", "_law_names_here", "_law_cell", "_law_own", "_law_literal"] (spHolds K) := by
  refine T.F_l_holds.ok sc_l_holds (fun vs H Q E h => ?_) (fun cdv A outer s H vs Q E hr h => ?_)
  · obtain ⟨c, x, y, o, l, nm, ce, rfl, _⟩ := h
    rfl
  · obtain ⟨c, x, y, o, l, nm, ce, rfl, hx, hy, ok, hQ⟩ := h
    refine ⟨_, (pss_cons (ps_set (i := 5) sc_l_holds.nd rfl (.inl rfl) (pe_ix ix_seq (pv 4) pe_int (fun _ _ => rfl)))
    (pss_cons (ps_if (pt_cmpR op_eq (pe_ix ix_seq (pv 5) pe_int (fun _ _ => rfl)) pe_str (nomark _))
      (pss_one (ps_ret (pe_cmpR op_eq (pe_cmpR (OpR.or op_le op_le_str) (pe_ix ix_seq (pv 2) pe_int (fun _ _ => rfl)) (pe_ix ix_seq (pv 5) pe_int (fun _ _ => rfl)) (nomark _)) (pe_ix ix_seq (pv 4) pe_int (fun _ _ => rfl)) (nomark _))))
      pss_nil)
    (pss_cons (ps_if (pt_cmpR op_eq (pe_ix ix_seq (pv 5) pe_int (fun _ _ => rfl)) pe_str (nomark _))
      (pss_one (ps_ret (pe_cmpR op_eq (pe_cmpR (OpR.or op_in_sign (OpR.or op_in_str op_in_seq)) (pe_ix ix_seq (pv 5) pe_int (fun _ _ => rfl)) (pe_ix ix_seq (pe_ix ix_seq (pe_ix ix_seq (pv 0) pe_int (fun _ _ => rfl)) (pe_ix ix_seq (pv 3) pe_int (fun _ _ => rfl)) (fun _ _ => rfl)) pe_int (fun _ _ => rfl)) rfl) (pe_ix ix_seq (pv 4) pe_int (fun _ _ => rfl)) (nomark _))))
      pss_nil)
    (pss_cons (ps_set (i := 6) sc_l_holds.nd rfl (.inl rfl) (pe_ix ix_seq (pe_ix ix_seq (pv 2) pe_int (fun _ _ => rfl)) (RT.pe_bmF PySem.F.slot_tuple_index PySem.F.type_tuple_index (RT.mt_tindex (K := K) rfl) (pv 1) (pa_cons (pe_ix ix_seq (pv 5) pe_int (fun _ _ => rfl)) pa_nil)) (fun _ _ => rfl)))
    (pss_cons (ps_if (pt_cmpR op_eq (pe_ix ix_seq (pv 5) pe_int (fun _ _ => rfl)) pe_str (nomark _))
      (pss_one (ps_ret (pe_cmpR op_eq (pe_cmpR op_eq (pe_ix ix_seq (pv 3) (pv 6) (fun _ _ => rfl)) (pe_ix ix_seq (pv 5) pe_int (fun _ _ => rfl)) (nomark _)) (pe_ix ix_seq (pv 4) pe_int (fun _ _ => rfl)) (nomark _))))
      pss_nil)
    (pss_cons (ps_set (i := 7) sc_l_holds.nd rfl (.inl rfl) (pe_ix ix_seq (pe_ix ix_seq (pv 2) pe_int (fun _ _ => rfl)) (RT.pe_bmF PySem.F.slot_tuple_index PySem.F.type_tuple_index (RT.mt_tindex (K := K) rfl) (pv 1) (pa_cons (pe_ix ix_seq (pv 5) pe_int (fun _ _ => rfl)) pa_nil)) (fun _ _ => rfl)))
    (pss_cons (ps_if (pt_cmpR op_eq (pe_ix ix_seq (pv 5) pe_int (fun _ _ => rfl)) pe_str (nomark _))
      (pss_one (ps_ret (pe_cmpR op_eq (pe_cmpR op_eq (pv 6) (pv 7) (nomark _)) (pe_ix ix_seq (pv 4) pe_int (fun _ _ => rfl)) (nomark _))))
      pss_nil)
    (pss_cons (ps_if (pt_cmpR op_eq (pe_ix ix_seq (pv 5) pe_int (fun _ _ => rfl)) pe_str (nomark _))
      (pss_one (ps_ret (pe_cmpR op_eq (pe_cmpR (OpR.or op_in_sign (OpR.or op_in_str op_in_seq)) (pe_tup (pa_cons (pv 6) (pa_cons (pv 7) pa_nil))) (pv 3) rfl) (pe_ix ix_seq (pv 4) pe_int (fun _ _ => rfl)) (nomark _))))
      pss_nil)
    (pss_one (ps_ret (pe_cmpR op_eq (pe_cmpR op_eq (pe_op op_mod (pe_callTy call_int1 (by rfl) T.z_int (by decide +kernel) (pa_cons (pe_op op_add (pe_ix ix_seq (pv 3) (pv 6) (fun _ _ => rfl)) (pe_ix ix_seq (pv 5) pe_int (fun _ _ => rfl))) pa_nil)) (pe_ix ix_seq (pv 0) pe_int (fun _ _ => rfl))) (pe_ix ix_seq (pv 3) (pv 7) (fun _ _ => rfl)) (nomark _)) (pe_ix ix_seq (pv 4) pe_int (fun _ _ => rfl)) (nomark _)))))))))))), ?_⟩
    rcases hQ with ⟨own, q, ho, lo, hl, hz, hq⟩ | ⟨n, own, q, hc, hn, ho, lo, hl, hz1, hz2, hq⟩
    · refine ⟨l, rfl, rix (i := 0) hl rfl fun t ht => ?_⟩
      refine ixEqT (j := 1) rfl ht rfl ?_
      rw [decide_eq_false (by decide)]
      refine iteF (ixEqT (j := 1) rfl ht rfl ?_)
      rw [decide_eq_false (by decide)]
      refine iteF ⟨y, rfl, rix (i := 1) hy rfl fun m hm => ⟨x, rfl, hx.ty, t, rfl, rix (i := 2) ht rfl fun z hzz => ?_⟩⟩
      cases hzz
      dsimp only [tNil]
      refine name_ix hx hz (marks_at hm ok hz ?_)
      refine ixEqT (j := 1) rfl ht rfl ?_
      rw [decide_eq_true (by decide)]
      obtain ⟨_, lt⟩ := bk_get ok rfl hz
      refine iteT ⟨o, rfl, _, rfl, own_at ho (by omega) ⟨t, rfl, rix (i := 3) ht rfl fun k hk => ?_⟩⟩
      cases hk
      refine eqS ⟨l, rfl, rix (i := 1) hl rfl fun b hb => ?_⟩
      cases hb
      refine eqB ?_
      unfold KL.holds at hq
      rw [kT_eq (by omega)] at hq
      exact hq
    · refine ⟨l, rfl, rix (i := 0) hl rfl fun t ht => ?_⟩
      refine ixEqT (j := 1) rfl ht rfl ?_
      rw [decide_eq_false (by decide)]
      refine iteF (ixEqT (j := 1) rfl ht rfl ?_)
      rw [decide_eq_false (by decide)]
      refine iteF ⟨y, rfl, rix (i := 1) hy rfl fun m hm => ⟨x, rfl, hx.ty, t, rfl, rix (i := 2) ht rfl fun z hzz => ?_⟩⟩
      cases hzz
      dsimp only [tNil]
      refine name_ix hx hz1 (marks_at hm ok hz1 ?_)
      refine ixEqT (j := 1) rfl ht rfl ?_
      rw [decide_eq_false (by decide)]
      refine iteF ⟨y, rfl, rix (i := 1) hy rfl fun m hm => ⟨x, rfl, hx.ty, t, rfl, rix (i := 3) ht rfl fun z hzz => ?_⟩⟩
      cases hzz
      dsimp only [tNil]
      refine name_ix hx hz2 (marks_at hm ok hz2 ?_)
      refine ixEqT (j := 1) rfl ht rfl ?_
      rw [decide_eq_false (by decide)]
      refine iteF (ixEqT (j := 1) rfl ht rfl ?_)
      rw [decide_eq_false (by decide)]
      obtain ⟨_, lt1⟩ := bk_get ok rfl hz1
      obtain ⟨_, lt2⟩ := bk_get ok rfl hz2
      refine iteF ⟨o, rfl, _, rfl, ownI_at ho (by omega) ⟨t, rfl, rix (i := 4) ht rfl fun s1 hs1 => ?_⟩⟩
      cases hs1
      refine ⟨_, _, rfl, rfl, .inl ⟨_, rfl, c, rfl, rix (i := 1) hc rfl fun n1 hn1 => ?_⟩⟩
      cases hn1
      refine ⟨_, _, rfl, rfl, (by show 0 < (n : Int); omega), o, rfl, _, rfl, ownI_at ho (by omega) (eqI ⟨l, rfl, rix (i := 1) hl rfl fun b hb => ?_⟩)⟩
      cases hb
      exact eqB hq
def spAllH (K : PySem.W.Frag) : Sp := fun vs H Q _ => ∃ (c x y o : V) (l : Addr) (nm : List Str) (ce : Nat × List Nat), vs = [c, x, y, o, .ref l] ∧ FS H x nm ∧ Dp K H y (eC ce) ∧ MkOk nm.length ce.2 ∧
  ((∃ (own : List Str) (lits : List KL), Dp K H o (eS own) ∧ own.length = blk ce.2 ∧ LsIs K H l (lits.map eKL) ∧ (∀ q ∈ lits, q.z ∈ nm) ∧ Q (.bl (lits.all fun q => q.holds nm ce.2 own)) H) ∨
  (∃ (n : Nat) (own : List Int) (lits : List RL), Dp K H c (eRing n) ∧ 0 < n ∧ Dp K H o (eI own) ∧ own.length = blk ce.2 ∧ LsIs K H l (lits.map eRL) ∧ (∀ q ∈ lits, q.x ∈ nm ∧ q.y ∈ nm) ∧ Q (.bl (lits.all fun q => q.holds n nm ce.2 own)) H))
theorem all_at {α : Type} {f : α → Bool} {ls : List α} {i : Nat} {x : α} (h : ls[i]? = some x) : (ls.take (i + 1)).all f = ((ls.take i).all f && f x) := by
  rw [List.take_add_one, h, List.all_append]; simp
theorem all_no {α : Type} {f : α → Bool} {ls : List α} {i : Nat} {x : α} (h : ls[i]? = some x) (e : f x = false) : ls.all f = false := by
  rw [List.all_eq_false]
  exact ⟨x, List.mem_of_getElem? h, Bool.eq_false_iff.mp e⟩
theorem ok_allH (T : Top K mg a) (G_l_holds : FnOk P w K mg base CX0 1 a.f_l_holds a.d_l_holds ["_law_card", "_law_names_here", "_law_cell", "_law_own", "_law_literal"] (spHolds K)) : FnOk P w K mg base CX0 2 a.f_l_all_hold a.d_l_all_hold ["_law_card", "_law_names_here", "_law_cell", "_law_own", "_law_literals"] (spAllH K) := by
  refine T.F_l_all_hold.ok sc_l_all_hold (fun vs H Q E h => ?_) (fun cdv A outer s H vs Q E hr h => ?_)
  · obtain ⟨c, x, y, o, l, nm, ce, rfl, _⟩ := h
    rfl
  · obtain ⟨c, x, y, o, l, nm, ce, rfl, hx, hy, ok, hQ⟩ := h
    refine ⟨_, (pss_cons (ps_for PassesOwn.never rfl (R1.PI.or (pi_list (pv 4)) (pi_tup (pv 4))) (pg_name (i := 5) sc_l_all_hold.nd rfl (.inl rfl))
      (pss_one (ps_if (pt_not (pt_val (pe_call G_l_holds (hr.mono (by decide)) (by rfl) T.m_l_holds T.F_l_holds.kp T.b_l_holds .nil pass0 (pa_cons (pv 0) (pa_cons (pv 1) (pa_cons (pv 2) (pa_cons (pv 3) (pa_cons (pv 5) pa_nil))))))))
        (pss_one (ps_ret pe_bl))
        pss_nil)))
    (pss_one (ps_ret pe_bl))), ?_⟩
    rcases hQ with ⟨own, lits, ho, lo, ⟨us, hus, hdu⟩, hz, hq⟩ | ⟨n, own, lits, hc, hn, ho, lo, ⟨us, hus, hdu⟩, hz, hq⟩
    · have lus : us.length = lits.length := by rw [dps_le hdu, List.length_map]
      refine .inl ⟨.ref l, rfl, l, rfl, ⟨us, SqL.of hus⟩, for_it (walk_list (xs := us)) (fun i σ' H' => ∃ y5, σ' = [some c, some x, some y, some o, some (.ref l), y5] ∧ H' = H ∧ ((lits.take i).all fun q => q.holds nm ce.2 own) = true) ⟨none, rfl, rfl, rfl⟩ (fun i σ' H' _ h => by obtain ⟨_, _, rfl, _⟩ := h; exact SqL.of hus) ?_ ?_⟩
      · rintro i v σ' _ H' hi ⟨y5, rfl, rfl, hall⟩ ⟨rfl, hv⟩
        obtain ⟨lt, hlt, hdl⟩ := dps_map hdu hv
        refine ⟨c, rfl, x, rfl, y, rfl, o, rfl, v, rfl, c, x, y, o, v, nm, ce, rfl, hx, hy, ok, .inl ⟨own, lt, ho, lo, hdl, hz _ (List.mem_of_getElem? hlt), _, rfl, ?_⟩⟩
        cases e : lt.holds nm ce.2 own with
        | true =>
          refine iteF ⟨_, rfl, rfl, ?_⟩
          rw [all_at hlt, hall, e]; rfl
        | false =>
          refine iteT ?_
          rw [all_no hlt e] at hq
          exact hq
      · rintro σ' H' ⟨y5, rfl, rfl, hall⟩
        rw [lus, List.take_length] at hall
        rw [hall] at hq
        exact hq
    · have lus : us.length = lits.length := by rw [dps_le hdu, List.length_map]
      refine .inl ⟨.ref l, rfl, l, rfl, ⟨us, SqL.of hus⟩, for_it (walk_list (xs := us)) (fun i σ' H' => ∃ y5, σ' = [some c, some x, some y, some o, some (.ref l), y5] ∧ H' = H ∧ ((lits.take i).all fun q => q.holds n nm ce.2 own) = true) ⟨none, rfl, rfl, rfl⟩ (fun i σ' H' _ h => by obtain ⟨_, _, rfl, _⟩ := h; exact SqL.of hus) ?_ ?_⟩
      · rintro i v σ' _ H' hi ⟨y5, rfl, rfl, hall⟩ ⟨rfl, hv⟩
        obtain ⟨lt, hlt, hdl⟩ := dps_map hdu hv
        obtain ⟨hz1, hz2⟩ := hz _ (List.mem_of_getElem? hlt)
        refine ⟨c, rfl, x, rfl, y, rfl, o, rfl, v, rfl, c, x, y, o, v, nm, ce, rfl, hx, hy, ok, .inr ⟨n, own, lt, hc, hn, ho, lo, hdl, hz1, hz2, _, rfl, ?_⟩⟩
        cases e : lt.holds n nm ce.2 own with
        | true =>
          refine iteF ⟨_, rfl, rfl, ?_⟩
          rw [all_at hlt, hall, e]; rfl
        | false =>
          refine iteT ?_
          rw [all_no hlt e] at hq
          exact hq
      · rintro σ' H' ⟨y5, rfl, rfl, hall⟩
        rw [lus, List.take_length] at hall
        rw [hall] at hq
        exact hq
/-! ### the good own parts -/
def spGood (K : PySem.W.Frag) : Sp := fun vs H Q _ => ∃ (c x y : V) (l : Addr) (nm : List Str) (ce : Nat × List Nat), vs = [c, x, y, .ref l] ∧ FS H x nm ∧ Dp K H y (eC ce) ∧ MkOk nm.length ce.2 ∧ nm.length ≤ 3 ∧
  ((∃ (rows : KR) (lits : List KL), Dp K H c (eCard rows) ∧ CdOk rows ∧ LsIs K H l (lits.map eKL) ∧ (∀ q ∈ lits, q.z ∈ nm) ∧ ∀ p H', Same H H' → LsIs K H' p (((kParts rows ce.1 ce.2).filter fun own => lits.all fun q => q.holds nm ce.2 own).map eS) → Q (.ref p) H') ∨
  (∃ (n : Nat) (lits : List RL), Dp K H c (eRing n) ∧ (n = 2 ∨ n = 3) ∧ LsIs K H l (lits.map eRL) ∧ (∀ q ∈ lits, q.x ∈ nm ∧ q.y ∈ nm) ∧ ∀ p H', Same H H' → LsIs K H' p (((rParts n ce.2).filter fun own => lits.all fun q => q.holds n nm ce.2 own).map eI) → Q (.ref p) H'))
theorem kParts_own {rows : KR} {s : Nat} {ms : List Nat} {own : List Str} (h : own ∈ kParts rows s ms) : own.length = blk ms := (rowsB_mem (List.mem_filter.mp h).1).1
theorem kParts_len {rows : KR} (le : rows.length ≤ 3) {s : Nat} {ms : List Nat} (hb : blk ms ≤ 3) : (kParts rows s ms).length ≤ 27 := by
  refine Nat.le_trans (List.length_filter_le _ _) (rowsB_small ?_ hb)
  rw [List.length_map]; exact le
theorem rParts_len {n : Nat} (h : n = 2 ∨ n = 3) {ms : List Nat} (hb : blk ms ≤ 3) : (rParts n ms).length ≤ 27 := rowsB_small (ks := cols n) (by rw [cols_len]; omega) hb
theorem ok_good (T : Top K mg a) (G_l_parts : FnOk P w K mg base CX0 2 a.f_l_parts a.d_l_parts ["_law_card", "_law_cell"] (spParts K)) (G_l_all_hold : FnOk P w K mg base CX0 2 a.f_l_all_hold a.d_l_all_hold ["_law_card", "_law_names_here", "_law_cell", "_law_own", "_law_literals"] (spAllH K)) : FnOk P w K mg base CX0 3 a.f_l_good_parts a.d_l_good_parts ["_law_card", "_law_names_here", "_law_cell", "_law_literals"] (spGood K) := by
  refine T.F_l_good_parts.ok sc_l_good_parts (fun vs H Q E h => ?_) (fun cdv A outer s H vs Q E hr h => ?_)
  · obtain ⟨c, x, y, l, nm, ce, rfl, _⟩ := h
    rfl
  · obtain ⟨c, x, y, l, nm, ce, rfl, hx, hy, ok, hn, hQ⟩ := h
    refine ⟨_, (pss_one (ps_ret (pe_lc (own := [("_law_own", 4)]) rfl sc_l_good_parts.nd (R1.PI.or (pi_list (pe_call G_l_parts (hr.mono (by decide)) (by rfl) T.m_l_parts T.F_l_parts.kp T.b_l_parts .nil pass0 (pa_cons (pv 0) (pa_cons (pv 2) pa_nil)))) (pi_tup (pe_call G_l_parts (hr.mono (by decide)) (by rfl) T.m_l_parts T.F_l_parts.kp T.b_l_parts .nil pass0 (pa_cons (pv 0) (pa_cons (pv 2) pa_nil))))) (blkOk_by (own := [("_law_own", 4)]) (N := ["_law_card", "_law_names_here", "_law_cell", "_law_literals", "_law_own"]) (sc := defScope s_l_good_parts) (by decide +kernel)) (fun _ _ _ _ _ => (pg_name (i := 4) sc_l_good_parts.nd rfl (.inl rfl))) (fun _ _ _ _ _ => pts_one (pt_val (pe_call G_l_all_hold (hr.mono (by decide)) (by rfl) T.m_l_all_hold T.F_l_all_hold.kp T.b_l_all_hold .nil pass0 (pa_cons (pv 0) (pa_cons (pv 1) (pa_cons (pv 2) (pa_cons (pv 4) (pa_cons (pv 3) pa_nil)))))))) (fun _ _ _ _ _ => (pv 4))))), ?_⟩
    rcases hQ with ⟨rows, lits, hc, cd, hl, hz, hq⟩ | ⟨n, lits, hc, hn2, hl, hz, hq⟩
    · refine .inl ⟨c, rfl, y, rfl, c, y, ce, nm.length, rfl, hy, ok, hn, .inl ⟨rows, hc, cd, fun p H1 s1 hp => ?_⟩⟩
      obtain ⟨xs, hp, hA⟩ := hp
      have lx : xs.length = (kParts rows ce.1 ce.2).length := by rw [dps_le hA, List.length_map]
      have l27 := kParts_len cd.le ok.le (s := ce.1)
      refine ⟨p, rfl, ⟨xs, SqL.of hp⟩, fun D nD => lc_it (walk_list (xs := xs)) (fun u H3 => Same H1 H3 ∧ LsIs K H3 D ((((kParts rows ce.1 ce.2).take u).filter fun own => lits.all fun q => q.holds nm ce.2 own).map eS)) ⟨Same.mut (Same.refl _) nD, ls_nil⟩ (fun u H3 _ h => h.1.seq (SqL.of hp)) ?_ ?_⟩
      · rintro u v _ H3 hu ⟨s3, acc, hD, hB⟩ ⟨rfl, hv⟩
        obtain ⟨own, hown, hd⟩ := dps_map hA hv
        have s03 := s1.trans s3
        have hd3 := dp_tk (Same.tk s3) _ _ hd (kbS own)
        have ef := take_filter_snoc (fun own => lits.all fun q => q.holds nm ce.2 own) eS hown
        have la : acc.length ≤ 27 := by
          rw [dps_le hB, List.length_map]
          refine Nat.le_trans (List.length_filter_le _ _) ?_
          rw [List.length_take]; omega
        refine ⟨rfl, c, rfl, x, rfl, y, rfl, v, rfl, .ref l, rfl, c, x, y, v, l, nm, ce, rfl, hx.same s03, dp_tk (Same.tk s03) _ _ hy (kbC ce), ok, .inl ⟨own, lits, hd3, kParts_own (List.mem_of_getElem? hown), hl.same (kbm kbKL _) s03, hz, _, rfl, ?_⟩⟩
        refine ite2 (fun e => ?_) (fun e => ?_)
        · rw [if_pos e] at ef
          refine ⟨_, rfl, acc, hD, small1000 (by omega), Same.mut s3 nD, ?_⟩
          rw [ef]
          exact ls_snoc hD hB (kbm kbS _) hd3 (kbS _)
        · rw [if_neg e, List.append_nil] at ef
          refine ⟨s3, ?_⟩
          rw [ef]
          exact ⟨acc, hD, hB⟩
      · rintro H3 ⟨s3, hD⟩
        rw [lx, List.take_length] at hD
        exact hq D H3 (s1.trans s3) hD
    · refine .inl ⟨c, rfl, y, rfl, c, y, ce, nm.length, rfl, hy, ok, hn, .inr ⟨n, hc, hn2, fun p H1 s1 hp => ?_⟩⟩
      obtain ⟨xs, hp, hA⟩ := hp
      have lx : xs.length = (rParts n ce.2).length := by rw [dps_le hA, List.length_map]
      have l27 := rParts_len hn2 ok.le
      refine ⟨p, rfl, ⟨xs, SqL.of hp⟩, fun D nD => lc_it (walk_list (xs := xs)) (fun u H3 => Same H1 H3 ∧ LsIs K H3 D ((((rParts n ce.2).take u).filter fun own => lits.all fun q => q.holds n nm ce.2 own).map eI)) ⟨Same.mut (Same.refl _) nD, ls_nil⟩ (fun u H3 _ h => h.1.seq (SqL.of hp)) ?_ ?_⟩
      · rintro u v _ H3 hu ⟨s3, acc, hD, hB⟩ ⟨rfl, hv⟩
        obtain ⟨own, hown, hd⟩ := dps_map hA hv
        have s03 := s1.trans s3
        have hd3 := dp_tk (Same.tk s3) _ _ hd (kbI own)
        have ef := take_filter_snoc (fun own => lits.all fun q => q.holds n nm ce.2 own) eI hown
        have la : acc.length ≤ 27 := by
          rw [dps_le hB, List.length_map]
          refine Nat.le_trans (List.length_filter_le _ _) ?_
          rw [List.length_take]; omega
        refine ⟨rfl, c, rfl, x, rfl, y, rfl, v, rfl, .ref l, rfl, c, x, y, v, l, nm, ce, rfl, hx.same s03, dp_tk (Same.tk s03) _ _ hy (kbC ce), ok, .inr ⟨n, own, lits, dp_tk (Same.tk s03) _ _ hc rfl, by omega, hd3, (rowsB_mem (List.mem_of_getElem? hown)).1, hl.same (kbm kbRL _) s03, hz, _, rfl, ?_⟩⟩
        refine ite2 (fun e => ?_) (fun e => ?_)
        · rw [if_pos e] at ef
          refine ⟨_, rfl, acc, hD, small1000 (by omega), Same.mut s3 nD, ?_⟩
          rw [ef]
          exact ls_snoc hD hB (kbm kbI _) hd3 (kbI _)
        · rw [if_neg e, List.append_nil] at ef
          refine ⟨s3, ?_⟩
          rw [ef]
          exact ⟨acc, hD, hB⟩
      · rintro H3 ⟨s3, hD⟩
        rw [lx, List.take_length] at hD
        exact hq D H3 (s1.trans s3) hD
end
end K21


/-! drawn literals -/
namespace K21
open PySem PySem.Spec PyProof.Rows L2 RN
section
variable {P : Program} {w : World} {K : PySem.W.Frag} {mg : Str → Option Value} {base : Heap} {a : Ad}
theorem nm_at {H : Hp} {x : V} {nm : List Str} {j : Nat} {Q : VK} (hx : FS H x nm) (h : j < nm.length) (q : Q (.str nm[j]) H) : rIx K x (.int (j : Int)) H Q := by
  refine rix (d := .str nm[j]) hx.dp ?_ fun y hy => by cases hy; exact q
  rw [List.getElem?_map, List.getElem?_eq_getElem h]; rfl
theorem eqc {x c : Int} {H : Hp} {Q : Bool → Hp → Prop} (q : Q (decide (x = c)) H) : rEq (.int x) (.int c) H (fun z H' => ∃ k, z = .bl k ∧ Q k H') := eqI ⟨_, rfl, q⟩
theorem no_mem {α : Type} {P : α → Prop} : ∀ q ∈ ([] : List α), P q := fun _ h => nomatch h
def spDrawn (K : PySem.W.Frag) : Sp := fun vs H Q _ => ∃ (sc st : Addr) (o : Str) (c x : V) (nm : List Str), vs = [.ref st, .str o, c, x] ∧ Sta sc H st ∧ FS H x nm ∧ nm.length ≤ 3 ∧
  ((∃ rows : KR, Dp K H c (eCard rows) ∧ CdOk rows ∧ ∀ p (lits : List KL) H', Kp st H H' → Sta sc H' st → H p = none → p ≠ st → LsIs K H' p (lits.map eKL) → (∀ q ∈ lits, q.z ∈ nm) → lits.length ≤ 5 → Q (.ref p) H') ∨
  (∃ n : Nat, Dp K H c (eRing n) ∧ (n = 2 ∨ n = 3) ∧ ∀ p (lits : List RL) H', Kp st H H' → Sta sc H' st → H p = none → p ≠ st → LsIs K H' p (lits.map eRL) → (∀ q ∈ lits, q.x ∈ nm ∧ q.y ∈ nm) → lits.length ≤ 5 → Q (.ref p) H'))
theorem ok_drawn (T : Top K mg a) (G_l_draw : FnOk P w K mg base CX0 1 a.f_l_draw a.d_l_draw ["_law_state_here", "_law_many"] spDraw) : FnOk P w K mg base CX0 2 a.f_l_drawn a.d_l_drawn ["_law_state_here", "_law_owner", "_law_card", "_law_names_here"] (spDrawn K) := by
  refine T.F_l_drawn.ok sc_l_drawn (fun vs H Q E h => ?_) (fun cdv A outer s H vs Q E hr h => ?_)
  · obtain ⟨_, _, _, _, _, _, rfl, _⟩ := h
    rfl
  · obtain ⟨sc, st, o, c, x, nm, rfl, S0, hx, hn, hQ⟩ := h
    refine ⟨_, (pss_cons (ps_set (i := 4) sc_l_drawn.nd rfl (.inl rfl) (pe_lst pa_nil))
    (C8.pss_cut (ps_if (pt_cmpR op_gt (pe_callB call_len_seq (by rfl) T.z_len (by decide +kernel) (pa_cons (pv 3) pa_nil)) pe_int (nomark _))
      (pss_one (ps_for PassesOwn.never rfl (pi_range1 (by rfl) T.z_range (pa_cons (pe_call G_l_draw (hr.mono (by decide)) (by rfl) T.m_l_draw T.F_l_draw.kp T.b_l_draw .nil pass0 (pa_cons (pv 0) (pa_cons pe_int pa_nil))) pa_nil)) (pg_name (i := 5) sc_l_drawn.nd rfl (.inl rfl))
        (pss_cons (ps_set (i := 6) sc_l_drawn.nd rfl (.inl rfl) (pe_cmpR op_ne (pe_call G_l_draw (hr.mono (by decide)) (by rfl) T.m_l_draw T.F_l_draw.kp T.b_l_draw .nil pass0 (pa_cons (pv 0) (pa_cons pe_int pa_nil))) pe_int (nomark _)))
        (pss_cons (ps_set (i := 7) sc_l_drawn.nd rfl (.inl rfl) (pe_ix ix_seq (pv 3) (pe_call G_l_draw (hr.mono (by decide)) (by rfl) T.m_l_draw T.F_l_draw.kp T.b_l_draw .nil pass0 (pa_cons (pv 0) (pa_cons (pe_callB call_len_seq (by rfl) T.z_len (by decide +kernel) (pa_cons (pv 3) pa_nil)) pa_nil))) (fun _ _ => rfl)))
        (pss_cons (ps_set (i := 8) sc_l_drawn.nd rfl (.inl rfl) (pe_ix ix_seq (pv 3) (pe_call G_l_draw (hr.mono (by decide)) (by rfl) T.m_l_draw T.F_l_draw.kp T.b_l_draw .nil pass0 (pa_cons (pv 0) (pa_cons (pe_callB call_len_seq (by rfl) T.z_len (by decide +kernel) (pa_cons (pv 3) pa_nil)) pa_nil))) (fun _ _ => rfl)))
        (pss_one (ps_if (pt_cmpR op_eq (pe_ix ix_seq (pv 2) pe_int (fun _ _ => rfl)) pe_str (nomark _))
          (pss_one (ps_expr (pe_bm PySem.F.plainAttrs_list PySem.F.slot_list_append PySem.F.type_list_append mt_append (pv 4) (pa_cons (pe_tup (pa_cons (pe_tup (pa_cons (pv 1) (pa_cons pe_str (pa_cons (pv 7) (pa_cons (pe_ix ix_seq (pe_ix ix_seq (pe_ix ix_seq (pv 2) pe_int (fun _ _ => rfl)) (pe_call G_l_draw (hr.mono (by decide)) (by rfl) T.m_l_draw T.F_l_draw.kp T.b_l_draw .nil pass0 (pa_cons (pv 0) (pa_cons (pe_callB call_len_seq (by rfl) T.z_len (by decide +kernel) (pa_cons (pe_ix ix_seq (pv 2) pe_int (fun _ _ => rfl)) pa_nil)) pa_nil))) (fun _ _ => rfl)) pe_int (fun _ _ => rfl)) pa_nil))))) (pa_cons (pv 6) pa_nil))) pa_nil))))
          (pss_one (ps_expr (pe_bm PySem.F.plainAttrs_list PySem.F.slot_list_append PySem.F.type_list_append mt_append (pv 4) (pa_cons (pe_tup (pa_cons (pe_tup (pa_cons (pv 1) (pa_cons pe_str (pa_cons (pv 7) (pa_cons (pv 8) (pa_cons (pe_call G_l_draw (hr.mono (by decide)) (by rfl) T.m_l_draw T.F_l_draw.kp T.b_l_draw .nil pass0 (pa_cons (pv 0) (pa_cons (pe_ix ix_seq (pv 2) pe_int (fun _ _ => rfl)) pa_nil))) pa_nil)))))) (pa_cons (pv 6) pa_nil))) pa_nil)))))))))))
      pss_nil)
    (pss_cons (ps_if (PW.pt (pw_and (pt_cmpR op_gt (pe_callB call_len_seq (by rfl) T.z_len (by decide +kernel) (pa_cons (pv 4) pa_nil)) pe_int (nomark _)) (pw_and1 (pt_cmpR op_eq (pe_call G_l_draw (hr.mono (by decide)) (by rfl) T.m_l_draw T.F_l_draw.kp T.b_l_draw .nil pass0 (pa_cons (pv 0) (pa_cons pe_int pa_nil))) pe_int (nomark _)))))
      (pss_one (ps_expr (pe_bm PySem.F.plainAttrs_list PySem.F.slot_list_append PySem.F.type_list_append mt_append (pv 4) (pa_cons (pe_ix ix_seq (pv 4) pe_int (fun _ _ => rfl)) pa_nil))))
      pss_nil)
    (pss_one (ps_ret (pv 4)))))), ?_⟩
    obtain ⟨px, ex, hfz⟩ := id hx
    subst ex
    have len2 : (2 : Nat) ≤ sizeLine := by decide
    have len4 : (4 : Nat) ≤ sizeLine := by decide
    have len5 : (5 : Nat) ≤ sizeLine := by decide
    refine ⟨Nat.zero_le _, fun D nD => ?_⟩
    have sD := same_upd (o := .lst []) nD
    have nst : D ≠ st := S0.nn nD
    rcases hQ with ⟨rows, hc, cd, q⟩ | ⟨n, hc, hn2, q⟩
    · have kE : ∀ l : KL, RN.kb (eKL l) = true := fun l => rfl
      refine ⟨fun σ' H' => ∃ y5 y6 y7 y8 lits, σ' = [some (.ref st), some (.str o), some c, some (.ref px), some (.ref D), y5, y6, y7, y8] ∧ Kp st H H' ∧ Sta sc H' st ∧ LsIs K H' D ((lits : List KL).map eKL) ∧ (∀ q ∈ lits, q.z ∈ nm) ∧ lits.length ≤ 4, ?_, ?_⟩
      · refine ⟨.ref px, rfl, px, _, rfl, .inr (FrzT.sq (hfz.same sD)), _, _, rfl, rfl, _, rfl, ite2 (fun e => ?_) (fun e => ?_)⟩
        rotate_left
        · exact ⟨_, _, _, _, [], rfl, Same.kp sD, S0.same sD, ls_nil, no_mem, Nat.zero_le _⟩
        have n0 : 0 < nm.length := by
          have := of_decide_eq_true e
          rw [List.length_map] at this
          omega
        refine ⟨.ref st, rfl, sc, st, 5, rfl, S0.same sD, by decide, by decide, fun H1 v1 k1 S1 a0 a1 => ?_⟩
        have k01 : Kp st H H1 := (Same.kp sD).trans k1
        refine ⟨_, rfl, by omega, by omega, for_it walk_range (fun i σ' H' => ∃ y5 y6 y7 y8 lits, σ' = [some (.ref st), some (.str o), some c, some (.ref px), some (.ref D), y5, y6, y7, y8] ∧ Kp st H H' ∧ Sta sc H' st ∧ LsIs K H' D ((lits : List KL).map eKL) ∧ (∀ q ∈ lits, q.z ∈ nm) ∧ lits.length ≤ i) ⟨none, none, none, none, [], rfl, k01, S1, (ls_nil (K := K) (H := H) (D := D)).kp (ds := []) (S0.same sD) k1 nst no_mem, no_mem, Nat.zero_le _⟩ (fun _ _ _ _ _ => trivial) ?_ ?_⟩
        · rintro i v σ' _ H2 hi ⟨y5, y6, y7, y8, lits, rfl, k2, S2, ⟨acc, hD2, hB2⟩, hg, hl⟩ ⟨rfl, rfl⟩
          have la : acc.length ≤ 4 := by rw [dps_le hB2, List.length_map]; omega
          refine ⟨.ref st, rfl, sc, st, 3, rfl, S2, by decide, by decide, fun H3 v3 k3 S3 b0 b1 => ?_⟩
          dsimp only [tC]
          refine neI ?_
          have hx3 := hx.kp S0 (k2.trans k3)
          obtain ⟨p3, e3, hf3⟩ := id hx3
          cases e3
          refine ⟨.ref px, rfl, .ref st, rfl, .ref px, rfl, px, _, rfl, .inr hf3.sq, sc, st, _, rfl, S3, ?_, ?_, fun H4 v4 k4 S4 c0 c1 => ?_⟩
          · rw [List.length_map]; omega
          · rw [List.length_map]; omega
          rw [List.length_map] at c1
          obtain ⟨j, rfl⟩ : ∃ j : Nat, v4 = (j : Int) := ⟨v4.toNat, by omega⟩
          have hj : j < nm.length := by omega
          have hx4 := hx3.kp S3 k4
          refine nm_at hx4 hj ?_
          obtain ⟨p4, e4, hf4⟩ := id hx4
          cases e4
          refine ⟨.ref px, rfl, .ref st, rfl, .ref px, rfl, px, _, rfl, .inr hf4.sq, sc, st, _, rfl, S4, ?_, ?_, fun H5 v5 k5 S5 d0 d1 => ?_⟩
          · rw [List.length_map]; omega
          · rw [List.length_map]; omega
          rw [List.length_map] at d1
          obtain ⟨m, rfl⟩ : ∃ j : Nat, v5 = (j : Int) := ⟨v5.toNat, by omega⟩
          have hm : m < nm.length := by omega
          have hx5 := hx4.kp S4 k5
          refine nm_at hx5 hm ?_
          have k25 := k3.trans (k4.trans k5)
          have k05 := k2.trans k25
          have hc5 := dp_tk (sta_tk S0 k05) _ _ hc (kbCard rows)
          have hD5 := k25 _ _ nst hD2
          have t25 := sta_tk S2 k25
          refine ixEqT (j := 0) rfl hc5 rfl ?_
          rw [decide_eq_true (by decide)]
          refine iteT ⟨.ref D, rfl, .inl ⟨rfl, acc, .of hD5⟩, .str o, rfl, _, rfl, c, rfl, rix (i := 1) hc5 rfl fun r hr => ⟨.ref st, rfl, c, rfl, rix (i := 1) hc5 rfl fun r2 hr2 => ?_⟩⟩
          obtain ⟨p2, us2, rfl, hs2, hus2⟩ := Dp.tupD hr2
          have lus : us2.length = rows.length := by rw [dps_le hus2, List.length_map]
          have rp := cd.pos
          have rl := cd.le
          refine ⟨p2, us2, rfl, .inr hs2, sc, st, _, rfl, S5, by omega, by omega, fun H6 v6 k6 S6 f0 f1 => ?_⟩
          obtain ⟨t, rfl⟩ : ∃ j : Nat, v6 = (j : Int) := ⟨v6.toNat, by omega⟩
          have ht : t < rows.length := by omega
          refine rix (d := eRow rows[t]) (dp_tk (sta_tk S5 k6) _ _ hr (kbRows rows)) (by rw [List.getElem?_map, List.getElem?_eq_getElem ht]; rfl) fun pr hpr => rix (i := 0) hpr rfl fun kd hkd => ?_
          cases hkd
          have hD6 := k6 _ _ nst hD5
          have t26 : Tk H2 H6 := t25.trans (sta_tk S5 k6)
          refine ⟨len4, fun p1 n1 => ⟨_, rfl, len2, fun p2 n2 => ⟨D, acc, .ref p2, rfl, rfl, ?_, small1000 (by omega), ?_⟩⟩⟩
          · exact (same_upd n1).trans (same_upd n2) _ _ hD6
          · have s6 := (same_upd (o := .tup [.str o, .str "kind", .str nm[j], .str rows[t].1]) n1).trans (same_upd (o := .tup [.ref p1, .bl (!decide (v3 = 2))]) n2)
            have d1 := dp_new (K := K) (vs := [.str o, .str "kind", .str nm[j], .str rows[t].1]) (ds := [.str o, .str "kind", .str nm[j], .str rows[t].1]) n1 (.cons (.str _) (.cons (.str _) (.cons (.str _) (.cons (.str _) .nil)))) (by simp [RN.kb])
            have d2 := dp_new (vs := [.ref p1, .bl (!decide (v3 = 2))]) n2 (.cons d1 (.cons (.bl (!decide (v3 = 2))) .nil)) (by
              intro d hd
              rcases List.mem_cons.mp hd with rfl | hd
              · rfl
              · rw [List.mem_singleton.mp hd]; rfl)
            refine ⟨_, _, _, _, lits ++ [⟨o, nm[j], rows[t].1, !decide (v3 = 2)⟩], rfl, ((k05.trans k6).same s6).mut nD, Sta.mut S0 nD (S6.same s6), ?_, ?_, by simp; omega⟩
            · rw [List.map_append]
              exact ls_snoc (s6 _ _ hD6) (dps_tk (t26.trans (Same.tk s6)) hB2 (kbm kE _)) (kbm kE _) d2 rfl
            · intro l hl2
              rcases List.mem_append.mp hl2 with h | h
              · exact hg l h
              · rw [List.mem_singleton.mp h]; exact List.getElem_mem hj
        · rintro σ' H2 ⟨y5, y6, y7, y8, lits, rfl, k2, S2, hD2, hg, hl⟩
          exact ⟨y5, y6, y7, y8, lits, rfl, k2, S2, hD2, hg, by omega⟩
      · rintro σ' H1 ⟨y5, y6, y7, y8, lits, rfl, k1, S1, ⟨acc, hD1, hB1⟩, hg, hl⟩
        have nD0 : H D = none := nD
        have la : acc.length = lits.length := by rw [dps_le hB1, List.length_map]
        refine ⟨.ref D, rfl, D, acc, rfl, .inl (.of hD1), _, _, rfl, rfl, _, rfl, ite2 (fun e => ?_) (fun e => ?_)⟩
        rotate_left
        · exact iteF ⟨.ref D, rfl, q D lits H1 k1 S1 nD0 nst ⟨acc, hD1, hB1⟩ hg (by omega)⟩
        have n0 : 0 < lits.length := by
          have := of_decide_eq_true e
          omega
        refine ⟨.ref st, rfl, sc, st, 4, rfl, S1, by decide, by decide, fun H2 v2 k2 S2 b0 b1 => ?_⟩
        have hD2 := k2 _ _ nst hD1
        have hB2 := dps_tk (sta_tk S1 k2) hB1 (kbm kE _)
        dsimp only [tC]
        refine eqc (ite2 (fun e2 => ?_) (fun e2 => ?_))
        · have h0 : (lits.map eKL)[0]? = some (eKL lits[0]) := by rw [List.getElem?_map, List.getElem?_eq_getElem n0]; rfl
          refine ⟨.ref D, rfl, .inl ⟨rfl, acc, .of hD2⟩, .ref D, rfl, rixL (i := 0) ⟨acc, hD2, hB2⟩ h0 fun y hy => ⟨D, acc, y, rfl, rfl, hD2, small1000 (by omega), ?_⟩⟩
          refine ⟨.ref D, rfl, q D (lits ++ [lits[0]]) _ ((k1.trans k2).mut nD0) (Sta.mut S0 nD0 S2) nD0 nst ?_ ?_ (by rw [List.length_append]; show lits.length + 1 ≤ 5; omega)⟩
          · rw [List.map_append]
            exact ls_snoc hD2 hB2 (kbm kE _) hy (kE _)
          · intro l hl2
            rcases List.mem_append.mp hl2 with h | h
            · exact hg l h
            · rw [List.mem_singleton.mp h]; exact hg _ (List.getElem_mem n0)
        · exact ⟨.ref D, rfl, q D lits H2 (k1.trans k2) S2 nD0 nst ⟨acc, hD2, hB2⟩ hg (by omega)⟩
    · have kE : ∀ l : RL, RN.kb (eRL l) = true := fun l => rfl
      refine ⟨fun σ' H' => ∃ y5 y6 y7 y8 lits, σ' = [some (.ref st), some (.str o), some c, some (.ref px), some (.ref D), y5, y6, y7, y8] ∧ Kp st H H' ∧ Sta sc H' st ∧ LsIs K H' D ((lits : List RL).map eRL) ∧ (∀ q ∈ lits, q.x ∈ nm ∧ q.y ∈ nm) ∧ lits.length ≤ 4, ?_, ?_⟩
      · refine ⟨.ref px, rfl, px, _, rfl, .inr (FrzT.sq (hfz.same sD)), _, _, rfl, rfl, _, rfl, ite2 (fun e => ?_) (fun e => ?_)⟩
        rotate_left
        · exact ⟨_, _, _, _, [], rfl, Same.kp sD, S0.same sD, ls_nil, no_mem, Nat.zero_le _⟩
        have n0 : 0 < nm.length := by
          have := of_decide_eq_true e
          rw [List.length_map] at this
          omega
        refine ⟨.ref st, rfl, sc, st, 5, rfl, S0.same sD, by decide, by decide, fun H1 v1 k1 S1 a0 a1 => ?_⟩
        have k01 : Kp st H H1 := (Same.kp sD).trans k1
        refine ⟨_, rfl, by omega, by omega, for_it walk_range (fun i σ' H' => ∃ y5 y6 y7 y8 lits, σ' = [some (.ref st), some (.str o), some c, some (.ref px), some (.ref D), y5, y6, y7, y8] ∧ Kp st H H' ∧ Sta sc H' st ∧ LsIs K H' D ((lits : List RL).map eRL) ∧ (∀ q ∈ lits, q.x ∈ nm ∧ q.y ∈ nm) ∧ lits.length ≤ i) ⟨none, none, none, none, [], rfl, k01, S1, (ls_nil (K := K) (H := H) (D := D)).kp (ds := []) (S0.same sD) k1 nst no_mem, no_mem, Nat.zero_le _⟩ (fun _ _ _ _ _ => trivial) ?_ ?_⟩
        · rintro i v σ' _ H2 hi ⟨y5, y6, y7, y8, lits, rfl, k2, S2, ⟨acc, hD2, hB2⟩, hg, hl⟩ ⟨rfl, rfl⟩
          have la : acc.length ≤ 4 := by rw [dps_le hB2, List.length_map]; omega
          refine ⟨.ref st, rfl, sc, st, 3, rfl, S2, by decide, by decide, fun H3 v3 k3 S3 b0 b1 => ?_⟩
          dsimp only [tC]
          refine neI ?_
          have hx3 := hx.kp S0 (k2.trans k3)
          obtain ⟨p3, e3, hf3⟩ := id hx3
          cases e3
          refine ⟨.ref px, rfl, .ref st, rfl, .ref px, rfl, px, _, rfl, .inr hf3.sq, sc, st, _, rfl, S3, ?_, ?_, fun H4 v4 k4 S4 c0 c1 => ?_⟩
          · rw [List.length_map]; omega
          · rw [List.length_map]; omega
          rw [List.length_map] at c1
          obtain ⟨j, rfl⟩ : ∃ j : Nat, v4 = (j : Int) := ⟨v4.toNat, by omega⟩
          have hj : j < nm.length := by omega
          have hx4 := hx3.kp S3 k4
          refine nm_at hx4 hj ?_
          obtain ⟨p4, e4, hf4⟩ := id hx4
          cases e4
          refine ⟨.ref px, rfl, .ref st, rfl, .ref px, rfl, px, _, rfl, .inr hf4.sq, sc, st, _, rfl, S4, ?_, ?_, fun H5 v5 k5 S5 d0 d1 => ?_⟩
          · rw [List.length_map]; omega
          · rw [List.length_map]; omega
          rw [List.length_map] at d1
          obtain ⟨m, rfl⟩ : ∃ j : Nat, v5 = (j : Int) := ⟨v5.toNat, by omega⟩
          have hm : m < nm.length := by omega
          have hx5 := hx4.kp S4 k5
          refine nm_at hx5 hm ?_
          have k25 := k3.trans (k4.trans k5)
          have k05 := k2.trans k25
          have hc5 := dp_tk (sta_tk S0 k05) _ _ hc (kbRing n)
          have hD5 := k25 _ _ nst hD2
          have t25 := sta_tk S2 k25
          refine ixEqT (j := 0) rfl hc5 rfl ?_
          rw [decide_eq_false (by decide)]
          refine iteF ⟨.ref D, rfl, .inl ⟨rfl, acc, .of hD5⟩, .str o, rfl, _, rfl, _, rfl, .ref st, rfl, c, rfl, rix (i := 1) hc5 rfl fun r hr => ?_⟩
          cases hr
          refine ⟨sc, st, _, rfl, S5, by omega, by omega, fun H6 v6 k6 S6 f0 f1 => ?_⟩
          have hD6 := k6 _ _ nst hD5
          have t26 : Tk H2 H6 := t25.trans (sta_tk S5 k6)
          refine ⟨len5, fun p1 n1 => ⟨_, rfl, len2, fun p2 n2 => ⟨D, acc, .ref p2, rfl, rfl, ?_, small1000 (by omega), ?_⟩⟩⟩
          · exact (same_upd n1).trans (same_upd n2) _ _ hD6
          · have s6 := (same_upd (o := .tup [.str o, .str "turn", .str nm[j], .str nm[m], .int v6]) n1).trans (same_upd (o := .tup [.ref p1, .bl (!decide (v3 = 2))]) n2)
            have d1 := dp_new (K := K) (vs := [.str o, .str "turn", .str nm[j], .str nm[m], .int v6]) (ds := [.str o, .str "turn", .str nm[j], .str nm[m], .int v6]) n1 (.cons (.str _) (.cons (.str _) (.cons (.str _) (.cons (.str _) (.cons (.int _) .nil))))) (by simp [RN.kb])
            have d2 := dp_new (vs := [.ref p1, .bl (!decide (v3 = 2))]) n2 (.cons d1 (.cons (.bl (!decide (v3 = 2))) .nil)) (by
              intro d hd
              rcases List.mem_cons.mp hd with rfl | hd
              · rfl
              · rw [List.mem_singleton.mp hd]; rfl)
            refine ⟨_, _, _, _, lits ++ [⟨o, nm[j], nm[m], v6, !decide (v3 = 2)⟩], rfl, ((k05.trans k6).same s6).mut nD, Sta.mut S0 nD (S6.same s6), ?_, ?_, by simp; omega⟩
            · rw [List.map_append]
              exact ls_snoc (s6 _ _ hD6) (dps_tk (t26.trans (Same.tk s6)) hB2 (kbm kE _)) (kbm kE _) d2 rfl
            · intro l hl2
              rcases List.mem_append.mp hl2 with h | h
              · exact hg l h
              · rw [List.mem_singleton.mp h]; exact ⟨List.getElem_mem hj, List.getElem_mem hm⟩
        · rintro σ' H2 ⟨y5, y6, y7, y8, lits, rfl, k2, S2, hD2, hg, hl⟩
          exact ⟨y5, y6, y7, y8, lits, rfl, k2, S2, hD2, hg, by omega⟩
      · rintro σ' H1 ⟨y5, y6, y7, y8, lits, rfl, k1, S1, ⟨acc, hD1, hB1⟩, hg, hl⟩
        have nD0 : H D = none := nD
        have la : acc.length = lits.length := by rw [dps_le hB1, List.length_map]
        refine ⟨.ref D, rfl, D, acc, rfl, .inl (.of hD1), _, _, rfl, rfl, _, rfl, ite2 (fun e => ?_) (fun e => ?_)⟩
        rotate_left
        · exact iteF ⟨.ref D, rfl, q D lits H1 k1 S1 nD0 nst ⟨acc, hD1, hB1⟩ hg (by omega)⟩
        have n0 : 0 < lits.length := by
          have := of_decide_eq_true e
          omega
        refine ⟨.ref st, rfl, sc, st, 4, rfl, S1, by decide, by decide, fun H2 v2 k2 S2 b0 b1 => ?_⟩
        have hD2 := k2 _ _ nst hD1
        have hB2 := dps_tk (sta_tk S1 k2) hB1 (kbm kE _)
        dsimp only [tC]
        refine eqc (ite2 (fun e2 => ?_) (fun e2 => ?_))
        · have h0 : (lits.map eRL)[0]? = some (eRL lits[0]) := by rw [List.getElem?_map, List.getElem?_eq_getElem n0]; rfl
          refine ⟨.ref D, rfl, .inl ⟨rfl, acc, .of hD2⟩, .ref D, rfl, rixL (i := 0) ⟨acc, hD2, hB2⟩ h0 fun y hy => ⟨D, acc, y, rfl, rfl, hD2, small1000 (by omega), ?_⟩⟩
          refine ⟨.ref D, rfl, q D (lits ++ [lits[0]]) _ ((k1.trans k2).mut nD0) (Sta.mut S0 nD0 S2) nD0 nst ?_ ?_ (by rw [List.length_append]; show lits.length + 1 ≤ 5; omega)⟩
          · rw [List.map_append]
            exact ls_snoc hD2 hB2 (kbm kE _) hy (kE _)
          · intro l hl2
            rcases List.mem_append.mp hl2 with h | h
            · exact hg l h
            · rw [List.mem_singleton.mp h]; exact hg _ (List.getElem_mem n0)
        · exact ⟨.ref D, rfl, q D lits H2 (k1.trans k2) S2 nD0 nst ⟨acc, hD2, hB2⟩ hg (by omega)⟩
end
end K21


/-! what the program says of all atoms -/
namespace K21
open PySem PySem.Spec PyProof.Rows L2 RN
section
variable {P : Program} {w : World} {K : PySem.W.Frag} {mg : Str → Option Value} {base : Heap} {a : Ad}
theorem sm_bl {H : Hp} (b : Bool) : Sm K 30 H (.bl b) (.bl b) := sm_dp (.bool b) 30 _ _ (.bl b) (.bl b) (by show (0 : Nat) < 30; decide) (by show (0 : Nat) ≤ 1000000; decide)
theorem sm_int {H : Hp} (b : Int) : Sm K 30 H (.int b) (.int b) := sm_dp (.int b) 30 _ _ (.int b) (.int b) (by show (0 : Nat) < 30; decide) (by show (0 : Nat) ≤ 1000000; decide)
theorem nm_mem {nm : List Str} {i : Nat} {v : V} (h : (nm.map V.str)[i]? = some v) : ∃ z, v = .str z ∧ z ∈ nm := by
  rw [List.getElem?_map] at h
  cases e : nm[i]? with
  | none => rw [e] at h; cases h
  | some z => rw [e] at h; exact ⟨z, (Option.some.inj h).symm, List.mem_of_getElem? e⟩
def spKtt (K : PySem.W.Frag) : Sp := fun vs H Q _ => ∃ (c x y o : V) (rows : KR) (nm : List Str) (ce : Nat × List Nat) (own : List Str), vs = [c, x, y, o] ∧ Dp K H c (eCard rows) ∧ FS H x nm ∧ Dp K H y (eC ce) ∧ MkOk nm.length ce.2 ∧ Dp K H o (eS own) ∧ own.length = blk ce.2 ∧ ∀ H', Same H H' → Q (.bl true) H'
theorem ok_ktt (T : Top K mg a) (G_kinds_truth : FnOk P w K mg base CX0 2 a.f_kinds_truth a.d_kinds_truth ["card", "names", "cell", "own", "atom"] (spKtr K)) (G_l_alike : FnOk P w K mg base CX0 30 a.f_l_alike a.d_l_alike ["_law_actual", "_law_due"] (spAl (Sm K 30))) : FnOk P w K mg base CX0 31 a.f_l_kind_truths a.d_l_kind_truths ["_law_card", "_law_names_here", "_law_cell", "_law_own"] (spKtt K) := by
  refine T.F_l_kind_truths.ok sc_l_kind_truths (fun vs H Q E h => ?_) (fun cdv A outer s H vs Q E hr h => ?_)
  · obtain ⟨_, _, _, _, _, _, _, _, rfl, _⟩ := h
    rfl
  · obtain ⟨c, x, y, o, rows, nm, ce, own, rfl, hc, hx, hy, ok, ho, lo, q⟩ := h
    refine ⟨_, (pss_cons (ps_for PassesOwn.never rfl (R1.PI.or (pi_list (pv 1)) (pi_tup (pv 1))) (pg_name (i := 4) sc_l_kind_truths.nd rfl (.inl rfl))
      (pss_one (ps_for PassesOwn.never rfl (R1.PI.or (pi_list (pe_ix ix_seq (pv 0) pe_int (fun _ _ => rfl))) (pi_tup (pe_ix ix_seq (pv 0) pe_int (fun _ _ => rfl)))) (pg_name (i := 5) sc_l_kind_truths.nd rfl (.inl rfl))
        (pss_cons (ps_set (i := 6) sc_l_kind_truths.nd rfl (.inl rfl) (pe_cmpR op_eq (pe_ix ix_seq (pv 3) (pe_ix ix_seq (pe_ix ix_seq (pv 2) pe_int (fun _ _ => rfl)) (RT.pe_bmF PySem.F.slot_tuple_index PySem.F.type_tuple_index (RT.mt_tindex (K := K) rfl) (pv 1) (pa_cons (pv 4) pa_nil)) (fun _ _ => rfl)) (fun _ _ => rfl)) (pe_ix ix_seq (pv 5) pe_int (fun _ _ => rfl)) (nomark _)))
        (pss_cons (ps_set (i := 7) sc_l_kind_truths.nd rfl (.inl rfl) (pe_tup (pa_cons pe_str (pa_cons pe_str (pa_cons (pv 4) (pa_cons (pe_ix ix_seq (pv 5) pe_int (fun _ _ => rfl)) pa_nil))))))
        (pss_one (ps_if (pt_not (pt_val (pe_call G_l_alike (hr.mono (by decide)) (by rfl) T.m_l_alike T.F_l_alike.kp T.b_l_alike .nil pass0 (pa_cons (pe_call G_kinds_truth (hr.mono (by decide)) (by rfl) T.m_kinds_truth T.F_kinds_truth.kp T.b_kinds_truth .nil pass0 (pa_cons (pv 0) (pa_cons (pv 1) (pa_cons (pv 2) (pa_cons (pv 3) (pa_cons (pv 7) pa_nil)))))) (pa_cons (pv 6) pa_nil)))))
          (pss_one (ps_ret pe_bl))
          pss_nil)))))))
    (pss_one (ps_ret pe_bl))), ?_⟩
    obtain ⟨px, ex, hfz⟩ := id hx
    subst ex
    refine .inr ⟨.ref px, rfl, px, rfl, ⟨_, hfz.sq⟩, for_it (walk_tup (xs := nm.map V.str)) (fun i σ' H' => ∃ y4 y5 y6 y7, σ' = [some c, some (.ref px), some y, some o, y4, y5, y6, y7] ∧ Same H H') ⟨none, none, none, none, rfl, Same.refl _⟩ (fun i σ' H' _ h => by obtain ⟨_, _, _, _, _, s⟩ := h; exact sqT_tk (Same.tk s) hfz.sq) ?_ ?_⟩
    · rintro i v σ' _ H1 hi ⟨y4, y5, y6, y7, rfl, s1⟩ ⟨rfl, hv⟩
      obtain ⟨z, rfl, hz⟩ := nm_mem hv
      obtain ⟨_, lt⟩ := bk_get ok rfl hz
      refine .inr ⟨c, rfl, rix (i := 1) (dp_tk (Same.tk s1) _ _ hc (kbCard rows)) rfl fun r hr => ?_⟩
      obtain ⟨p2, vs2, rfl, hs2, ha2⟩ := Dp.tupD hr
      refine ⟨p2, rfl, ⟨vs2, hs2⟩, for_it (walk_tup (xs := vs2)) (fun j σ' H' => ∃ y5 y6 y7, σ' = [some c, some (.ref px), some y, some o, some (.str z), y5, y6, y7] ∧ Same H1 H') ⟨y5, y6, y7, rfl, Same.refl _⟩ (fun j σ' H' _ h => by obtain ⟨_, _, _, _, s⟩ := h; exact sqT_tk (Same.tk s) hs2) ?_ ?_⟩
      · rintro j v2 σ' _ H2 hj ⟨z5, z6, z7, rfl, s2⟩ ⟨rfl, hv2⟩
        obtain ⟨pr, er, hd⟩ := dps_row ha2 hv2
        have hd2 := dp_tk (Same.tk s2) _ _ hd rfl
        have s02 := s1.trans s2
        have hx2 := hx.same s02
        have hy2 := dp_tk (Same.tk s02) _ _ hy (kbC ce)
        have ho2 := dp_tk (Same.tk s02) _ _ ho (kbS own)
        refine ⟨o, rfl, y, rfl, rix (i := 1) hy2 rfl fun m hm => ⟨.ref px, rfl, hx2.ty, _, rfl, ?_⟩⟩
        dsimp only [tNil]
        refine name_ix hx2 hz (marks_at hm ok hz (own_at ho2 (by omega) ⟨v2, rfl, rix (i := 0) hd2 rfl fun k hk => ?_⟩))
        cases hk
        refine eqS ?_
        rw [← kT_eq (by omega)]
        refine ⟨.str z, rfl, v2, rfl, rix (i := 0) hd2 rfl fun k hk => ?_⟩
        cases hk
        refine ⟨by show 4 ≤ sizeLine; decide, fun pt nt => ?_⟩
        have s3 := same_upd (o := .tup [.str "o", .str "kind", .str z, .str pr.1]) nt
        have d1 := dp_new (K := K) (vs := [.str "o", .str "kind", .str z, .str pr.1]) (ds := [.str "o", .str "kind", .str z, .str pr.1]) nt (.cons (.str _) (.cons (.str _) (.cons (.str _) (.cons (.str _) .nil)))) (by simp [RN.kb])
        refine ⟨c, rfl, .ref px, rfl, y, rfl, o, rfl, .ref pt, rfl, c, .ref px, y, o, .ref pt, nm, ce, own, _, _, z, pr.1, rfl, hx2.same s3, dp_tk (Same.tk s3) _ _ hy2 (kbC ce), ok, dp_tk (Same.tk s3) _ _ ho2 (kbS own), lo, d1, hz, ?_⟩
        exact ⟨_, rfl, _, _, rfl, sm_bl _, _, rfl, iteF ⟨_, _, _, rfl, s2.trans s3⟩⟩
      · rintro σ' H2 ⟨z5, z6, z7, rfl, s2⟩
        exact ⟨_, _, _, _, rfl, s1.trans s2⟩
    · rintro σ' H1 ⟨y4, y5, y6, y7, rfl, s1⟩
      exact q H1 s1
def spRtt (K : PySem.W.Frag) : Sp := fun vs H Q _ => ∃ (c x y o : V) (n : Nat) (nm : List Str) (ce : Nat × List Nat) (own : List Int), vs = [c, x, y, o] ∧ Dp K H c (eRing n) ∧ 0 < n ∧ n ≤ 3 ∧ FS H x nm ∧ Dp K H y (eC ce) ∧ MkOk nm.length ce.2 ∧ Dp K H o (eI own) ∧ own.length = blk ce.2 ∧ ∀ H', Same H H' → Q (.bl true) H'
theorem ok_rtt (T : Top K mg a) (G_ring_truth : FnOk P w K mg base CX0 2 a.f_ring_truth a.d_ring_truth ["card", "names", "cell", "own", "atom"] (spRtr K)) (G_l_alike : FnOk P w K mg base CX0 30 a.f_l_alike a.d_l_alike ["_law_actual", "_law_due"] (spAl (Sm K 30))) : FnOk P w K mg base CX0 31 a.f_l_turn_truths a.d_l_turn_truths ["_law_card", "_law_names_here", "_law_cell", "_law_own"] (spRtt K) := by
  refine T.F_l_turn_truths.ok sc_l_turn_truths (fun vs H Q E h => ?_) (fun cdv A outer s H vs Q E hr h => ?_)
  · obtain ⟨_, _, _, _, _, _, _, _, rfl, _⟩ := h
    rfl
  · obtain ⟨c, x, y, o, n, nm, ce, own, rfl, hc, n0, n3, hx, hy, ok, ho, lo, q⟩ := h
    refine ⟨_, (pss_cons (ps_for PassesOwn.never rfl (R1.PI.or (pi_list (pv 1)) (pi_tup (pv 1))) (pg_name (i := 4) sc_l_turn_truths.nd rfl (.inl rfl))
      (pss_one (ps_for PassesOwn.never rfl (R1.PI.or (pi_list (pv 1)) (pi_tup (pv 1))) (pg_name (i := 5) sc_l_turn_truths.nd rfl (.inl rfl))
        (pss_one (ps_for PassesOwn.never rfl (pi_range1 (by rfl) T.z_range (pa_cons (pe_ix ix_seq (pv 0) pe_int (fun _ _ => rfl)) pa_nil)) (pg_name (i := 6) sc_l_turn_truths.nd rfl (.inl rfl))
          (pss_cons (ps_set (i := 7) sc_l_turn_truths.nd rfl (.inl rfl) (pe_op op_mod (pe_callTy call_int1 (by rfl) T.z_int (by decide +kernel) (pa_cons (pe_op op_add (pe_ix ix_seq (pv 3) (pe_ix ix_seq (pe_ix ix_seq (pv 2) pe_int (fun _ _ => rfl)) (RT.pe_bmF PySem.F.slot_tuple_index PySem.F.type_tuple_index (RT.mt_tindex (K := K) rfl) (pv 1) (pa_cons (pv 4) pa_nil)) (fun _ _ => rfl)) (fun _ _ => rfl)) (pv 6)) pa_nil)) (pe_ix ix_seq (pv 0) pe_int (fun _ _ => rfl))))
          (pss_cons (ps_set (i := 8) sc_l_turn_truths.nd rfl (.inl rfl) (pe_cmpR op_eq (pv 7) (pe_ix ix_seq (pv 3) (pe_ix ix_seq (pe_ix ix_seq (pv 2) pe_int (fun _ _ => rfl)) (RT.pe_bmF PySem.F.slot_tuple_index PySem.F.type_tuple_index (RT.mt_tindex (K := K) rfl) (pv 1) (pa_cons (pv 5) pa_nil)) (fun _ _ => rfl)) (fun _ _ => rfl)) (nomark _)))
          (pss_cons (ps_set (i := 9) sc_l_turn_truths.nd rfl (.inl rfl) (pe_tup (pa_cons pe_str (pa_cons pe_str (pa_cons (pv 4) (pa_cons (pv 5) (pa_cons (pv 6) pa_nil)))))))
          (pss_one (ps_if (pt_not (pt_val (pe_call G_l_alike (hr.mono (by decide)) (by rfl) T.m_l_alike T.F_l_alike.kp T.b_l_alike .nil pass0 (pa_cons (pe_call G_ring_truth (hr.mono (by decide)) (by rfl) T.m_ring_truth T.F_ring_truth.kp T.b_ring_truth .nil pass0 (pa_cons (pv 0) (pa_cons (pv 1) (pa_cons (pv 2) (pa_cons (pv 3) (pa_cons (pv 9) pa_nil)))))) (pa_cons (pv 8) pa_nil)))))
            (pss_one (ps_ret pe_bl))
            pss_nil))))))))))
    (pss_one (ps_ret pe_bl))), ?_⟩
    obtain ⟨px, ex, hfz⟩ := id hx
    subst ex
    refine .inr ⟨.ref px, rfl, px, rfl, ⟨_, hfz.sq⟩, for_it (walk_tup (xs := nm.map V.str)) (fun i σ' H' => ∃ y4 y5 y6 y7 y8 y9, σ' = [some c, some (.ref px), some y, some o, y4, y5, y6, y7, y8, y9] ∧ Same H H') ⟨none, none, none, none, none, none, rfl, Same.refl _⟩ (fun i σ' H' _ h => by obtain ⟨_, _, _, _, _, _, _, s⟩ := h; exact sqT_tk (Same.tk s) hfz.sq) ?_ ?_⟩
    · rintro i v σ' _ H1 hi ⟨y4, y5, y6, y7, y8, y9, rfl, s1⟩ ⟨rfl, hv⟩
      obtain ⟨z, rfl, hz⟩ := nm_mem hv
      obtain ⟨_, lt⟩ := bk_get ok rfl hz
      refine .inr ⟨.ref px, rfl, px, rfl, ⟨_, (hfz.same s1).sq⟩, for_it (walk_tup (xs := nm.map V.str)) (fun i σ' H' => ∃ y5 y6 y7 y8 y9, σ' = [some c, some (.ref px), some y, some o, some (.str z), y5, y6, y7, y8, y9] ∧ Same H H') ⟨y5, y6, y7, y8, y9, rfl, s1⟩ (fun i σ' H' _ h => by obtain ⟨_, _, _, _, _, _, s⟩ := h; exact sqT_tk (Same.tk s) hfz.sq) ?_ ?_⟩
      · rintro i2 v2 σ' _ H2 hi2 ⟨z5, z6, z7, z8, z9, rfl, s2⟩ ⟨rfl, hv2⟩
        obtain ⟨z', rfl, hz'⟩ := nm_mem hv2
        obtain ⟨_, lt'⟩ := bk_get ok rfl hz'
        refine ⟨c, rfl, rix (i := 1) (dp_tk (Same.tk s2) _ _ hc rfl) rfl fun n1 hn1 => ?_⟩
        cases hn1
        refine ⟨_, rfl, by omega, by omega, for_it walk_range (fun i σ' H' => ∃ y6 y7 y8 y9, σ' = [some c, some (.ref px), some y, some o, some (.str z), some (.str z'), y6, y7, y8, y9] ∧ Same H H') ⟨z6, z7, z8, z9, rfl, s2⟩ (fun _ _ _ _ _ => trivial) ?_ ?_⟩
        · rintro i3 v3 σ' _ H3 hi3 ⟨w6, w7, w8, w9, rfl, s3⟩ ⟨rfl, rfl⟩
          dsimp only [gName]
          generalize (0 : Int) + (i3 : Int) = sv
          have hx3 := hx.same s3
          have hy3 := dp_tk (Same.tk s3) _ _ hy (kbC ce)
          have ho3 := dp_tk (Same.tk s3) _ _ ho (kbI own)
          have hc3 := dp_tk (Same.tk s3) _ _ hc (kbRing n)
          refine ⟨o, rfl, y, rfl, rix (i := 1) hy3 rfl fun m hm => ⟨.ref px, rfl, hx3.ty, _, rfl, ?_⟩⟩
          dsimp only [tNil]
          refine name_ix hx3 hz (marks_at hm ok hz (ownI_at ho3 (by omega) ⟨_, rfl, _, _, rfl, rfl, .inl ⟨_, rfl, c, rfl, rix (i := 1) hc3 rfl fun n1 hn1 => ?_⟩⟩))
          cases hn1
          refine ⟨_, _, rfl, rfl, (by show 0 < (n : Int); omega), ?_⟩
          refine ⟨_, rfl, o, rfl, y, rfl, rix (i := 1) hy3 rfl fun m hm => ⟨.ref px, rfl, hx3.ty, _, rfl, ?_⟩⟩
          dsimp only [tNil]
          refine name_ix hx3 hz' (marks_at hm ok hz' (ownI_at ho3 (by omega) (eqI ?_)))
          refine ⟨.str z, rfl, .str z', rfl, .int sv, rfl, by show 5 ≤ sizeLine; decide, fun pt nt => ?_⟩
          have s4 := same_upd (o := .tup [.str "o", .str "turn", .str z, .str z', .int sv]) nt
          have d1 := dp_new (K := K) (vs := [.str "o", .str "turn", .str z, .str z', .int sv]) (ds := [.str "o", .str "turn", .str z, .str z', .int sv]) nt (.cons (.str _) (.cons (.str _) (.cons (.str _) (.cons (.str _) (.cons (.int _) .nil))))) (by simp [RN.kb])
          refine ⟨c, rfl, .ref px, rfl, y, rfl, o, rfl, .ref pt, rfl, c, .ref px, y, o, .ref pt, n, nm, ce, own, _, _, z, z', sv, rfl, dp_tk (Same.tk s4) _ _ hc3 rfl, n0, hx3.same s4, dp_tk (Same.tk s4) _ _ hy3 (kbC ce), ok, dp_tk (Same.tk s4) _ _ ho3 (kbI own), lo, d1, hz, hz', fun H5 s5 => ?_⟩
          exact ⟨_, rfl, _, _, rfl, sm_bl _, _, rfl, iteF ⟨_, _, _, _, rfl, s3.trans (s4.trans s5)⟩⟩
        · rintro σ' H3 ⟨w6, w7, w8, w9, rfl, s3⟩
          exact ⟨_, _, _, _, _, rfl, s3⟩
      · rintro σ' H2 ⟨z5, z6, z7, z8, z9, rfl, s2⟩
        exact ⟨_, _, _, _, _, _, rfl, s2⟩
    · rintro σ' H1 ⟨y4, y5, y6, y7, y8, y9, rfl, s1⟩
      exact q H1 s1
end
end K21


/-! one cell -/
namespace K21
open PySem PySem.Spec PyProof.Rows L2 RN
section
variable {P : Program} {w : World} {K : PySem.W.Frag} {mg : Str → Option Value} {base : Heap} {a : Ad}
/-- the given lists of literals -/
structure Gv (K : PySem.W.Frag) (H : Hp) (st g : Addr) (nm : List Str) (l1 : List KL) (l2 : List RL) : Prop where
  ex : ∃ p1 p2, H g = some (.lst [.ref p1, .ref p2]) ∧ LsIs K H p1 (l1.map eKL) ∧ LsIs K H p2 (l2.map eRL) ∧ g ≠ st ∧ p1 ≠ st ∧ p2 ≠ st
  z1 : ∀ q ∈ l1, q.z ∈ nm
  z2 : ∀ q ∈ l2, q.x ∈ nm ∧ q.y ∈ nm
  n1 : l1.length ≤ 5
  n2 : l2.length ≤ 5
theorem Gv.kp {H H' : Hp} {sc st g : Addr} {nm : List Str} {l1 : List KL} {l2 : List RL} (S : Sta sc H st) (k : Kp st H H') (G : Gv K H st g nm l1 l2) : Gv K H' st g nm l1 l2 := by
  obtain ⟨⟨p1, p2, h, a, b, n0, n1, n2⟩, r⟩ := G
  exact ⟨⟨p1, p2, k _ _ n0 h, a.kp S k n1 (kbm kbKL _), b.kp S k n2 (kbm kbRL _), n0, n1, n2⟩, ‹_›, ‹_›, ‹_›, ‹_›⟩
theorem dw_filt {α : Type} {e : α → PyData} {ls : List α} {f : α → Bool} (h : ∀ x ∈ ls, (e x).depth ≤ 8 ∧ wl (e x) ≤ 100) : ∀ d ∈ (ls.filter f).map e, d.depth ≤ 8 ∧ wl d ≤ 100 := fun d hd => by
  obtain ⟨x, hx, rfl⟩ := List.mem_map.mp hd
  exact h x (List.mem_filter.mp hx).1
theorem len_filt {α : Type} {e : α → PyData} {ls : List α} {f : α → Bool} (h : ls.length ≤ 27) : ((ls.filter f).map e).length ≤ 1000 := by
  rw [List.length_map]
  exact Nat.le_trans (List.length_filter_le _ _) (by omega)
def spCell (K : PySem.W.Frag) : Sp := fun vs H Q _ => ∃ (sc st g : Addr) (c r x y : V) (rows : KR) (n : Nat) (nm : List Str) (ce : Nat × List Nat) (l1 : List KL) (l2 : List RL), vs = [.ref st, c, r, x, y, .ref g] ∧ Sta sc H st ∧ Dp K H c (eCard rows) ∧ CdOk rows ∧ Dp K H r (eRing n) ∧ (n = 2 ∨ n = 3) ∧ FS H x nm ∧ nm.length ≤ 3 ∧ Dp K H y (eC ce) ∧ MkOk nm.length ce.2 ∧ Gv K H st g nm l1 l2 ∧ ∀ H', Kp st H H' → Sta sc H' st → Q (.bl true) H'
theorem ok_cell (T : Top K mg a) (G_l_draw : FnOk P w K mg base CX0 1 a.f_l_draw a.d_l_draw ["_law_state_here", "_law_many"] spDraw) (G_kinds_parts : FnOk P w K mg base CX0 3 a.f_kinds_parts a.d_kinds_parts ["card", "names", "literals", "cell"] (spKparts K)) (G_ring_parts : FnOk P w K mg base CX0 3 a.f_ring_parts a.d_ring_parts ["card", "names", "literals", "cell"] (spRparts K)) (G_l_parts : FnOk P w K mg base CX0 2 a.f_l_parts a.d_l_parts ["_law_card", "_law_cell"] (spParts K)) (G_l_good_parts : FnOk P w K mg base CX0 3 a.f_l_good_parts a.d_l_good_parts ["_law_card", "_law_names_here", "_law_cell", "_law_literals"] (spGood K)) (G_l_alike : FnOk P w K mg base CX0 30 a.f_l_alike a.d_l_alike ["_law_actual", "_law_due"] (spAl (Sm K 30))) (G_l_kind_truths : FnOk P w K mg base CX0 31 a.f_l_kind_truths a.d_l_kind_truths ["_law_card", "_law_names_here", "_law_cell", "_law_own"] (spKtt K)) (G_l_turn_truths : FnOk P w K mg base CX0 31 a.f_l_turn_truths a.d_l_turn_truths ["_law_card", "_law_names_here", "_law_cell", "_law_own"] (spRtt K)) : FnOk P w K mg base CX0 32 a.f_l_cell_right a.d_l_cell_right ["_law_state_here", "_law_card", "_law_ring", "_law_names_here", "_law_cell", "_law_given"] (spCell K) := by
  refine T.F_l_cell_right.ok sc_l_cell_right (fun vs H Q E h => ?_) (fun cdv A outer s H vs Q E hr h => ?_)
  · obtain ⟨_, _, _, _, _, _, _, _, _, _, _, _, _, rfl, _⟩ := h
    rfl
  · obtain ⟨sc, st, g, c, r, x, y, rows, n, nm, ce, l1, l2, rfl, S0, hc, cd, hR, hn2, hx, hn, hy, ok, G, q⟩ := h
    refine ⟨_, (pss_cons (ps_set (i := 6) sc_l_cell_right.nd rfl (.inl rfl) (pe_call G_l_good_parts (hr.mono (by decide)) (by rfl) T.m_l_good_parts T.F_l_good_parts.kp T.b_l_good_parts .nil pass0 (pa_cons (pv 1) (pa_cons (pv 3) (pa_cons (pv 4) (pa_cons (pe_ix ix_seq (pv 5) pe_int (fun _ _ => rfl)) pa_nil))))))
    (pss_cons (ps_if (pt_not (pt_val (pe_call G_l_alike (hr.mono (by decide)) (by rfl) T.m_l_alike T.F_l_alike.kp T.b_l_alike .nil pass0 (pa_cons (pe_call G_kinds_parts (hr.mono (by decide)) (by rfl) T.m_kinds_parts T.F_kinds_parts.kp T.b_kinds_parts .nil pass0 (pa_cons (pv 1) (pa_cons (pv 3) (pa_cons (pe_ix ix_seq (pv 5) pe_int (fun _ _ => rfl)) (pa_cons (pv 4) pa_nil))))) (pa_cons (pv 6) pa_nil)))))
      (pss_one (ps_ret pe_bl))
      pss_nil)
    (pss_cons (ps_set (i := 6) sc_l_cell_right.nd rfl (.inl rfl) (pe_call G_l_good_parts (hr.mono (by decide)) (by rfl) T.m_l_good_parts T.F_l_good_parts.kp T.b_l_good_parts .nil pass0 (pa_cons (pv 2) (pa_cons (pv 3) (pa_cons (pv 4) (pa_cons (pe_ix ix_seq (pv 5) pe_int (fun _ _ => rfl)) pa_nil))))))
    (pss_cons (ps_if (pt_not (pt_val (pe_call G_l_alike (hr.mono (by decide)) (by rfl) T.m_l_alike T.F_l_alike.kp T.b_l_alike .nil pass0 (pa_cons (pe_call G_ring_parts (hr.mono (by decide)) (by rfl) T.m_ring_parts T.F_ring_parts.kp T.b_ring_parts .nil pass0 (pa_cons (pv 2) (pa_cons (pv 3) (pa_cons (pe_ix ix_seq (pv 5) pe_int (fun _ _ => rfl)) (pa_cons (pv 4) pa_nil))))) (pa_cons (pv 6) pa_nil)))))
      (pss_one (ps_ret pe_bl))
      pss_nil)
    (pss_cons (ps_set (i := 7) sc_l_cell_right.nd rfl (.inl rfl) (pe_call G_l_parts (hr.mono (by decide)) (by rfl) T.m_l_parts T.F_l_parts.kp T.b_l_parts .nil pass0 (pa_cons (pv 1) (pa_cons (pv 4) pa_nil))))
    (C8.pss_cut (ps_if (pt_cmpR op_gt (pe_callB call_len_seq (by rfl) T.z_len (by decide +kernel) (pa_cons (pv 7) pa_nil)) pe_int (nomark _))
      (pss_cons (ps_set (i := 8) sc_l_cell_right.nd rfl (.inl rfl) (pe_ix ix_seq (pv 7) (pe_call G_l_draw (hr.mono (by decide)) (by rfl) T.m_l_draw T.F_l_draw.kp T.b_l_draw .nil pass0 (pa_cons (pv 0) (pa_cons (pe_callB call_len_seq (by rfl) T.z_len (by decide +kernel) (pa_cons (pv 7) pa_nil)) pa_nil))) (fun _ _ => rfl)))
      (pss_one (ps_if (pt_not (pt_val (pe_call G_l_kind_truths (hr.mono (by decide)) (by rfl) T.m_l_kind_truths T.F_l_kind_truths.kp T.b_l_kind_truths .nil pass0 (pa_cons (pv 1) (pa_cons (pv 3) (pa_cons (pv 4) (pa_cons (pv 8) pa_nil)))))))
        (pss_one (ps_ret pe_bl))
        pss_nil)))
      pss_nil)
    (pss_cons (ps_set (i := 9) sc_l_cell_right.nd rfl (.inl rfl) (pe_call G_l_parts (hr.mono (by decide)) (by rfl) T.m_l_parts T.F_l_parts.kp T.b_l_parts .nil pass0 (pa_cons (pv 2) (pa_cons (pv 4) pa_nil))))
    (pss_cons (ps_set (i := 8) sc_l_cell_right.nd rfl (.inl rfl) (pe_ix ix_seq (pv 9) (pe_call G_l_draw (hr.mono (by decide)) (by rfl) T.m_l_draw T.F_l_draw.kp T.b_l_draw .nil pass0 (pa_cons (pv 0) (pa_cons (pe_callB call_len_seq (by rfl) T.z_len (by decide +kernel) (pa_cons (pv 9) pa_nil)) pa_nil))) (fun _ _ => rfl)))
    (pss_one (ps_ret (pe_call G_l_turn_truths (hr.mono (by decide)) (by rfl) T.m_l_turn_truths T.F_l_turn_truths.kp T.b_l_turn_truths .nil pass0 (pa_cons (pv 2) (pa_cons (pv 3) (pa_cons (pv 4) (pa_cons (pv 8) pa_nil))))))))))))))), ?_⟩
    obtain ⟨p1, p2, hg, hl1, hl2, gst, p1st, p2st⟩ := G.ex
    have kown : ∀ own ∈ kParts rows ce.1 ce.2, (eS own).depth ≤ 8 ∧ wl (eS own) ≤ 100 := fun own ho => dwS (by rw [kParts_own ho]; have := ok.le; omega)
    have rown : ∀ own ∈ rParts n ce.2, (eI own).depth ≤ 8 ∧ wl (eI own) ≤ 100 := fun own ho => dwI (by rw [(rowsB_mem ho).1]; have := ok.le; omega)
    have kl := kParts_len cd.le ok.le (s := ce.1)
    have rl := rParts_len hn2 ok.le
    -- the own parts of the kinds card
    refine ⟨c, rfl, x, rfl, y, rfl, .ref g, rfl, .inl ⟨g, _, ((0 : Nat) : Int), .ref p1, rfl, rfl, .of hg, atI_nat rfl, ?_⟩⟩
    refine ⟨c, x, y, p1, nm, ce, rfl, hx, hy, ok, hn, .inl ⟨rows, l1, hc, cd, hl1, G.z1, fun d1 H1 s1 hd1 => ?_⟩⟩
    have hg1 := s1 _ _ hg
    refine ⟨c, rfl, x, rfl, .ref g, rfl, .inl ⟨g, _, ((0 : Nat) : Int), .ref p1, rfl, rfl, .of hg1, atI_nat rfl, y, rfl, ?_⟩⟩
    refine ⟨c, x, y, p1, rows, nm, ce, l1, rfl, dp_tk (Same.tk s1) _ _ hc (kbCard rows), cd, hx.same s1, dp_tk (Same.tk s1) _ _ hy (kbC ce), ok, hl1.same (kbm kbKL _) s1, G.z1, by have := G.n1; omega, fun e1 H2 s2 he1 => ?_⟩
    refine ⟨.ref d1, rfl, _, _, rfl, sm_list (dw_filt kown) (len_filt kl) he1.dp (hd1.same (kbm kbS _) s2).dp, _, rfl, iteF ?_⟩
    have s02 := s1.trans s2
    -- those of the ring
    refine ⟨r, rfl, x, rfl, y, rfl, .ref g, rfl, .inl ⟨g, _, ((1 : Nat) : Int), .ref p2, rfl, rfl, .of (s02 _ _ hg), atI_nat rfl, ?_⟩⟩
    refine ⟨r, x, y, p2, nm, ce, rfl, hx.same s02, dp_tk (Same.tk s02) _ _ hy (kbC ce), ok, hn, .inr ⟨n, l2, dp_tk (Same.tk s02) _ _ hR (kbRing n), hn2, hl2.same (kbm kbRL _) s02, G.z2, fun d2 H3 s3 hd2 => ?_⟩⟩
    have s03 := s02.trans s3
    refine ⟨r, rfl, x, rfl, .ref g, rfl, .inl ⟨g, _, ((1 : Nat) : Int), .ref p2, rfl, rfl, .of (s03 _ _ hg), atI_nat rfl, y, rfl, ?_⟩⟩
    refine ⟨r, x, y, p2, n, nm, ce, l2, rfl, dp_tk (Same.tk s03) _ _ hR (kbRing n), by omega, by omega, hx.same s03, dp_tk (Same.tk s03) _ _ hy (kbC ce), ok, hl2.same (kbm kbRL _) s03, G.z2, by have := G.n2; omega, fun e2 H4 s4 he2 => ?_⟩
    refine ⟨.ref d2, rfl, _, _, rfl, sm_list (dw_filt rown) (len_filt rl) he2.dp (hd2.same (kbm kbI _) s4).dp, _, rfl, iteF ?_⟩
    have s04 := s03.trans s4
    -- a drawn one
    refine ⟨c, rfl, y, rfl, c, y, ce, nm.length, rfl, dp_tk (Same.tk s04) _ _ hy (kbC ce), ok, hn, .inl ⟨rows, dp_tk (Same.tk s04) _ _ hc (kbCard rows), cd, fun d3 H5 s5 hd3 => ?_⟩⟩
    have s05 := s04.trans s5
    have S5 := S0.same s05
    obtain ⟨xs3, hxs3, hA3⟩ := id hd3
    have lx3 : xs3.length = (kParts rows ce.1 ce.2).length := by rw [dps_le hA3, List.length_map]
    refine ⟨fun σ' H' => ∃ z8, σ' = [some (.ref st), some c, some r, some x, some y, some (.ref g), some (.ref d2), some (.ref d3), z8, none] ∧ Kp st H H' ∧ Sta sc H' st, ?_, ?_⟩
    · refine ⟨.ref d3, rfl, d3, xs3, rfl, .inl (.of hxs3), _, _, rfl, rfl, _, rfl, ite2 (fun e => ?_) (fun e => ?_)⟩
      rotate_left
      · exact ⟨_, rfl, Same.kp s05, S5⟩
      have n0 : 0 < xs3.length := by
        have := of_decide_eq_true e
        omega
      refine ⟨.ref d3, rfl, .ref st, rfl, .ref d3, rfl, d3, xs3, rfl, .inl (.of hxs3), sc, st, _, rfl, S5, by omega, by omega, fun H6 v6 k6 S6 a0 a1 => ?_⟩
      obtain ⟨j, rfl⟩ : ∃ j : Nat, v6 = (j : Int) := ⟨v6.toNat, by omega⟩
      have hj : j < (kParts rows ce.1 ce.2).length := by omega
      have k06 : Kp st H H6 := (Same.kp s05).trans k6
      have d3st : d3 ≠ st := fun z => by
        obtain ⟨ns, i, b, s', l, _, hst, _⟩ := S5.ex
        rw [z, hst] at hxs3
        cases hxs3
        rw [List.length_cons, List.length_cons, List.length_cons, List.length_cons, List.length_cons, List.length_nil] at lx3
        obtain ⟨own, ho⟩ : ∃ own, (kParts rows ce.1 ce.2)[4]? = some own := ⟨_, List.getElem?_eq_getElem (by omega)⟩
        obtain ⟨v, ev, hv⟩ := dps_ix hA3 (show ((kParts rows ce.1 ce.2).map eS)[4]? = some (eS own) by rw [List.getElem?_map, ho]; rfl)
        cases ev
        cases hv
      have hd6 := hd3.kp S5 k6 d3st (kbm kbS _)
      refine rixL (i := j) hd6 (show ((kParts rows ce.1 ce.2).map eS)[j]? = some (eS (kParts rows ce.1 ce.2)[j]) by rw [List.getElem?_map, List.getElem?_eq_getElem hj]; rfl) fun o ho => ?_
      refine ⟨c, rfl, x, rfl, y, rfl, o, rfl, c, x, y, o, rows, nm, ce, _, rfl, dp_tk (sta_tk S0 k06) _ _ hc (kbCard rows), hx.kp S0 k06, dp_tk (sta_tk S0 k06) _ _ hy (kbC ce), ok, ho, kParts_own (List.getElem_mem hj), fun H7 s7 => ⟨_, rfl, iteF ⟨_, rfl, k06.same s7, S6.same s7⟩⟩⟩
    rintro σ' H6 ⟨z8, rfl, k06, S6⟩
    have t06 := sta_tk S0 k06
    refine ⟨r, rfl, y, rfl, r, y, ce, nm.length, rfl, dp_tk t06 _ _ hy (kbC ce), ok, hn, .inr ⟨n, dp_tk t06 _ _ hR (kbRing n), hn2, fun d4 H7 s7 hd4 => ?_⟩⟩
    have k07 := k06.same s7
    have S7 := S6.same s7
    obtain ⟨xs4, hxs4, hA4⟩ := id hd4
    have lx4 : xs4.length = (rParts n ce.2).length := by rw [dps_le hA4, List.length_map]
    have r0 : 0 < (rParts n ce.2).length := rowsB_pos (ks := cols n) (by rw [cols_len]; omega) _
    refine ⟨.ref d4, rfl, .ref st, rfl, .ref d4, rfl, d4, xs4, rfl, .inl (.of hxs4), sc, st, _, rfl, S7, by omega, by omega, fun H8 v8 k8 S8 a0 a1 => ?_⟩
    obtain ⟨j, rfl⟩ : ∃ j : Nat, v8 = (j : Int) := ⟨v8.toNat, by omega⟩
    have hj : j < (rParts n ce.2).length := by omega
    have k08 : Kp st H H8 := k07.trans k8
    have d4st : d4 ≠ st := fun z => by
      obtain ⟨ns, i, b, s', l, _, hst, _⟩ := S7.ex
      rw [z, hst] at hxs4
      cases hxs4
      rw [List.length_cons, List.length_cons, List.length_cons, List.length_cons, List.length_cons, List.length_nil] at lx4
      obtain ⟨own, ho⟩ : ∃ own, (rParts n ce.2)[4]? = some own := ⟨_, List.getElem?_eq_getElem (by omega)⟩
      obtain ⟨v, ev, hv⟩ := dps_ix hA4 (show ((rParts n ce.2).map eI)[4]? = some (eI own) by rw [List.getElem?_map, ho]; rfl)
      cases ev
      cases hv
    have hd8 := hd4.kp S7 k8 d4st (kbm kbI _)
    have t08 := sta_tk S0 k08
    refine rixL (i := j) hd8 (show ((rParts n ce.2).map eI)[j]? = some (eI (rParts n ce.2)[j]) by rw [List.getElem?_map, List.getElem?_eq_getElem hj]; rfl) fun o ho => ?_
    exact ⟨r, rfl, x, rfl, y, rfl, o, rfl, r, x, y, o, n, nm, ce, _, rfl, dp_tk t08 _ _ hR (kbRing n), by omega, by omega, hx.kp S0 k08, dp_tk t08 _ _ hy (kbC ce), ok, ho, (rowsB_mem (List.getElem_mem hj)).1, fun H9 s9 => q H9 (k08.same s9) (S8.same s9)⟩
end
end K21


/-! the law -/
namespace K21
open PySem PySem.Spec PyProof.Rows L2 RN
section
variable {P : Program} {w : World} {K : PySem.W.Frag} {mg : Str → Option Value} {base : Heap} {a : Ad}
theorem Gv.dp {H : Hp} {st g : Addr} {nm : List Str} {l1 : List KL} {l2 : List RL} (G : Gv K H st g nm l1 l2) : Dp K H (.ref g) (.list [.list (l1.map eKL), .list (l2.map eRL)]) := by
  obtain ⟨p1, p2, h, a, b, _⟩ := G.ex
  exact .lst (.of h) (.cons a.dp (.cons b.dp .nil))
theorem sm_gv {H : Hp} {st g g' : Addr} {nm : List Str} {l1 : List KL} {l2 : List RL} (G : Gv K H st g nm l1 l2) (G' : Gv K H st g' nm l1 l2) : Sm K 30 H (.ref g) (.ref g') := by
  obtain ⟨a1, b1⟩ := dw (ds := l1.map eKL) fun d hd => by
    obtain ⟨x, _, rfl⟩ := List.mem_map.mp hd
    exact dwKL x
  obtain ⟨a2, b2⟩ := dw (ds := l2.map eRL) fun d hd => by
    obtain ⟨x, _, rfl⟩ := List.mem_map.mp hd
    exact dwRL x
  have n1 := G.n1
  have n2 := G.n2
  rw [List.length_map] at b1 b2
  refine sm_dp _ 30 _ _ G.dp G'.dp ?_ ?_
  · show max (PyData.depthAll (l1.map eKL) + 1) (max (PyData.depthAll (l2.map eRL) + 1) 0) + 1 < 30
    omega
  · show 2 + ((l1.map eKL).length + wlAll (l1.map eKL) + ((l2.map eRL).length + wlAll (l2.map eRL) + 0)) ≤ 1000000
    rw [List.length_map, List.length_map]
    omega
def spLaw (K : PySem.W.Frag) : Sp := fun vs H Q _ => ∃ (p : Addr) (ns : List Int), vs = [.ref p] ∧ SqL K H p (ns.map V.int) ∧ ∀ H', Q (.bl true) H'
theorem ok_law_of (T : Top K mg a) (G_kinds_size : FnOk P w K mg base CX0 1 a.f_kinds_size a.d_kinds_size ["card"] (spKsz K)) (G_l_state : FnOk P w K mg base CX0 1 a.f_l_state a.d_l_state ["_law_script"] (spState K)) (G_l_draw : FnOk P w K mg base CX0 1 a.f_l_draw a.d_l_draw ["_law_state_here", "_law_many"] spDraw) (G_l_alike : FnOk P w K mg base CX0 30 a.f_l_alike a.d_l_alike ["_law_actual", "_law_due"] (spAl (Sm K 30))) (G_l_names : FnOk P w K mg base CX0 2 a.f_l_names a.d_l_names ["_law_state_here", "_law_count"] spNames) (G_l_cells : FnOk P w K mg base CX0 2 a.f_l_cells a.d_l_cells ["_law_count"] (spCells K)) (G_l_kinds : FnOk P w K mg base CX0 3 a.f_l_kinds a.d_l_kinds ["_law_state_here"] (spKinds K)) (G_l_size : FnOk P w K mg base CX0 1 a.f_l_size a.d_l_size ["_law_card"] (spKsz K)) (G_l_drawn : FnOk P w K mg base CX0 2 a.f_l_drawn a.d_l_drawn ["_law_state_here", "_law_owner", "_law_card", "_law_names_here"] (spDrawn K)) (G_l_cell_right : FnOk P w K mg base CX0 32 a.f_l_cell_right a.d_l_cell_right ["_law_state_here", "_law_card", "_law_ring", "_law_names_here", "_law_cell", "_law_given"] (spCell K)) : FnOk P w K mg base CX0 33 a.f_law a.d_law ["_law_script"] (spLaw K) := by
  refine T.F_law.ok sc_law (fun vs H Q E h => ?_) (fun cdv A outer s H vs Q E hr h => ?_)
  · obtain ⟨_, _, rfl, _⟩ := h
    rfl
  · obtain ⟨p, ns, rfl, hp, q⟩ := h
    refine ⟨_, (pss_cons (ps_set (i := 1) sc_law.nd rfl (.inl rfl) (pe_call G_l_state (hr.mono (by decide)) (by rfl) T.m_l_state T.F_l_state.kp T.b_l_state .nil pass0 (pa_cons (pv 0) pa_nil)))
    (pss_cons (ps_set (i := 2) sc_law.nd rfl (.inl rfl) (pe_call G_l_names (hr.mono (by decide)) (by rfl) T.m_l_names T.F_l_names.kp T.b_l_names .nil pass0 (pa_cons (pv 1) (pa_cons (pe_ix ix_seq (pe_lst (pa_cons pe_int (pa_cons pe_int (pa_cons pe_int (pa_cons pe_int pa_nil))))) (pe_call G_l_draw (hr.mono (by decide)) (by rfl) T.m_l_draw T.F_l_draw.kp T.b_l_draw .nil pass0 (pa_cons (pv 1) (pa_cons pe_int pa_nil))) (fun _ _ => rfl)) pa_nil))))
    (pss_cons (ps_set (i := 3) sc_law.nd rfl (.inl rfl) (pe_ix ix_seq (pe_lst (pa_cons pe_str (pa_cons pe_str (pa_cons pe_str pa_nil)))) (pe_call G_l_draw (hr.mono (by decide)) (by rfl) T.m_l_draw T.F_l_draw.kp T.b_l_draw .nil pass0 (pa_cons (pv 1) (pa_cons pe_int pa_nil))) (fun _ _ => rfl)))
    (pss_cons (ps_set (i := 4) sc_law.nd rfl (.inl rfl) (pe_call G_l_kinds (hr.mono (by decide)) (by rfl) T.m_l_kinds T.F_l_kinds.kp T.b_l_kinds .nil pass0 (pa_cons (pv 1) pa_nil)))
    (pss_cons (ps_set (i := 5) sc_law.nd rfl (.inl rfl) (pe_tup (pa_cons pe_str (pa_cons (pe_op op_add pe_int (pe_call G_l_draw (hr.mono (by decide)) (by rfl) T.m_l_draw T.F_l_draw.kp T.b_l_draw .nil pass0 (pa_cons (pv 1) (pa_cons pe_int pa_nil)))) pa_nil))))
    (pss_cons (ps_if (pt_not (pt_val (pe_call G_l_alike (hr.mono (by decide)) (by rfl) T.m_l_alike T.F_l_alike.kp T.b_l_alike .nil pass0 (pa_cons (pe_call G_kinds_size (hr.mono (by decide)) (by rfl) T.m_kinds_size T.F_kinds_size.kp T.b_kinds_size .nil pass0 (pa_cons (pv 4) pa_nil)) (pa_cons (pe_call G_l_size (hr.mono (by decide)) (by rfl) T.m_l_size T.F_l_size.kp T.b_l_size .nil pass0 (pa_cons (pv 4) pa_nil)) pa_nil)))))
      (pss_one (ps_ret pe_bl))
      pss_nil)
    (pss_cons (ps_set (i := 6) sc_law.nd rfl (.inl rfl) (pe_lst (pa_cons (pe_call G_l_drawn (hr.mono (by decide)) (by rfl) T.m_l_drawn T.F_l_drawn.kp T.b_l_drawn .nil pass0 (pa_cons (pv 1) (pa_cons (pv 3) (pa_cons (pv 4) (pa_cons (pv 2) pa_nil))))) (pa_cons (pe_call G_l_drawn (hr.mono (by decide)) (by rfl) T.m_l_drawn T.F_l_drawn.kp T.b_l_drawn .nil pass0 (pa_cons (pv 1) (pa_cons (pv 3) (pa_cons (pv 5) (pa_cons (pv 2) pa_nil))))) pa_nil))))
    (pss_cons (ps_set (i := 7) sc_law.nd rfl (.inl rfl) (pe_lst (pa_cons (pe_callTy call_list_of (by rfl) T.z_list (by decide +kernel) (pa_cons (pe_ix ix_seq (pv 6) pe_int (fun _ _ => rfl)) pa_nil)) (pa_cons (pe_callTy call_list_of (by rfl) T.z_list (by decide +kernel) (pa_cons (pe_ix ix_seq (pv 6) pe_int (fun _ _ => rfl)) pa_nil)) pa_nil))))
    (pss_cons (ps_set (i := 8) sc_law.nd rfl (.inl rfl) (pe_call G_l_cells (hr.mono (by decide)) (by rfl) T.m_l_cells T.F_l_cells.kp T.b_l_cells .nil pass0 (pa_cons (pe_callB call_len_seq (by rfl) T.z_len (by decide +kernel) (pa_cons (pv 2) pa_nil)) pa_nil)))
    (pss_cons (ps_for PassesOwn.never rfl (R1.PI.or (pi_list (pe_op op_cat (pv 8) (pe_lst (pa_cons (pe_ix ix_seq (pv 8) pe_int (fun _ _ => rfl)) pa_nil)))) (pi_tup (pe_op op_cat (pv 8) (pe_lst (pa_cons (pe_ix ix_seq (pv 8) pe_int (fun _ _ => rfl)) pa_nil))))) (pg_name (i := 9) sc_law.nd rfl (.inl rfl))
      (pss_one (ps_if (pt_not (pt_val (pe_call G_l_cell_right (hr.mono (by decide)) (by rfl) T.m_l_cell_right T.F_l_cell_right.kp T.b_l_cell_right .nil pass0 (pa_cons (pv 1) (pa_cons (pv 4) (pa_cons (pv 5) (pa_cons (pv 2) (pa_cons (pv 9) (pa_cons (pv 7) pa_nil)))))))))
        (pss_one (ps_ret pe_bl))
        pss_nil)))
    (pss_one (ps_ret (pe_call G_l_alike (hr.mono (by decide)) (by rfl) T.m_l_alike T.F_l_alike.kp T.b_l_alike .nil pass0 (pa_cons (pv 7) (pa_cons (pv 6) pa_nil))))))))))))))), ?_⟩
    have len4 : (4 : Nat) ≤ sizeLine := by decide
    have len3 : (3 : Nat) ≤ sizeLine := by decide
    have len2 : (2 : Nat) ≤ sizeLine := by decide
    have len1 : (1 : Nat) ≤ sizeLine := by decide
    refine ⟨.ref p, rfl, p, ns, rfl, hp, fun H1 st sc nst s1 S1 => ?_⟩
    -- the names
    refine ⟨.ref st, rfl, len4, fun pL nL => ?_⟩
    have sL := same_upd (o := .lst [.int 2, .int 3, .int 1, .int 0]) nL
    have S2 := S1.same sL
    refine ⟨.ref st, rfl, sc, st, 4, rfl, S2, by decide, by decide, fun H3 v3 k3 S3 a0 a1 => ?_⟩
    obtain ⟨j, rfl⟩ : ∃ j : Nat, v3 = (j : Int) := ⟨v3.toNat, by omega⟩
    obtain ⟨n, gn, hn⟩ : ∃ n : Nat, ([V.int 2, V.int 3, V.int 1, V.int 0] : List V)[j]? = some (.int (n : Int)) ∧ n ≤ 3 := by
      rcases (by omega : j = 0 ∨ j = 1 ∨ j = 2 ∨ j = 3) with rfl | rfl | rfl | rfl
      · exact ⟨2, rfl, by omega⟩
      · exact ⟨3, rfl, by omega⟩
      · exact ⟨1, rfl, by omega⟩
      · exact ⟨0, rfl, by omega⟩
    refine .inl ⟨pL, _, (j : Int), _, rfl, rfl, .of (k3 _ _ (S1.nn nL) upd_same), atI_nat gn, ?_⟩
    refine ⟨sc, st, n, rfl, S3, hn, fun x nm H4 k4 S4 hx ln => ?_⟩
    -- the owner
    refine ⟨len3, fun pO nO => ?_⟩
    have sO := same_upd (o := .lst [.str "o", .str "k", .str "t10"]) nO
    have S5 := S4.same sO
    have hx5 := hx.same sO
    refine ⟨.ref st, rfl, sc, st, 3, rfl, S5, by decide, by decide, fun H6 v6 k6 S6 b0 b1 => ?_⟩
    obtain ⟨i, rfl⟩ : ∃ j : Nat, v6 = (j : Int) := ⟨v6.toNat, by omega⟩
    obtain ⟨o, go⟩ : ∃ o : Str, ([V.str "o", V.str "k", V.str "t10"] : List V)[i]? = some (.str o) := by
      rcases (by omega : i = 0 ∨ i = 1 ∨ i = 2) with rfl | rfl | rfl
      · exact ⟨_, rfl⟩
      · exact ⟨_, rfl⟩
      · exact ⟨_, rfl⟩
    refine .inl ⟨pO, _, (i : Int), _, rfl, rfl, .of (k6 _ _ (S4.nn nO) upd_same), atI_nat go, ?_⟩
    have hx6 := hx5.kp S5 k6
    -- the cards
    refine ⟨.ref st, rfl, sc, st, rfl, S6, fun c rows H7 k7 S7 hc cd => ?_⟩
    have hx7 := hx6.kp S6 k7
    refine ⟨.ref st, rfl, sc, st, 2, rfl, S7, by decide, by decide, fun H8 v8 k8 S8 c0 c1 => ⟨_, _, rfl, rfl, len2, fun pr nr => ?_⟩⟩
    obtain ⟨m, hm, hm2⟩ : ∃ m : Nat, 2 + v8 = (m : Int) ∧ (m = 2 ∨ m = 3) := ⟨(2 + v8).toNat, by omega, by omega⟩
    have sR := same_upd (o := .tup [.str "ring", .int (2 + v8)]) nr
    have hR : Dp K (upd H8 pr (.tup [.str "ring", .int (2 + v8)])) (.ref pr) (eRing m) := by
      have := dp_new (K := K) (vs := [.str "ring", .int (2 + v8)]) (ds := [.str "ring", .int (2 + v8)]) nr (.cons (.str _) (.cons (.int _) .nil)) (by simp [RN.kb])
      rw [hm] at this
      rw [hm]; exact this
    have hx9 := (hx7.kp S7 k8).same sR
    have hc9 := dp_tk ((sta_tk S7 k8).trans (Same.tk sR)) _ _ hc (kbCard rows)
    have S9 := S8.same sR
    generalize upd H8 pr (.tup [.str "ring", .int (2 + v8)]) = H9 at hR hx9 hc9 S9
    -- the size
    refine ⟨c, rfl, c, rows, rfl, hc9, cd.le, fun H10 s10 => ⟨c, rfl, c, rows, rfl, dp_tk (Same.tk s10) _ _ hc9 (kbCard rows), cd.le, fun H11 s11 => ?_⟩⟩
    refine ⟨_, _, rfl, sm_int _, _, rfl, iteF ?_⟩
    have s911 := s10.trans s11
    have S11 := S9.same s911
    have hx11 := hx9.same s911
    have hc11 := dp_tk (Same.tk s911) _ _ hc9 (kbCard rows)
    have hR11 := dp_tk (Same.tk s911) _ _ hR (kbRing m)
    -- the literals
    refine ⟨.ref st, rfl, .str o, rfl, c, rfl, x, rfl, sc, st, o, c, x, nm, rfl, S11, hx11, by omega, .inl ⟨rows, hc11, cd, fun L1 l1 H12 k12 S12 nL1 L1st hl1 z1 ln1 => ?_⟩⟩
    have hx12 := hx11.kp S11 k12
    have hR12 := dp_tk (sta_tk S11 k12) _ _ hR11 (kbRing m)
    have hc12 := dp_tk (sta_tk S11 k12) _ _ hc11 (kbCard rows)
    refine ⟨.ref st, rfl, .str o, rfl, .ref pr, rfl, x, rfl, sc, st, o, .ref pr, x, nm, rfl, S12, hx12, by omega, .inr ⟨m, hR12, hm2, fun L2 l2 H13 k13 S13 nL2 L2st hl2 z2 ln2 => ?_⟩⟩
    have hx13 := hx12.kp S12 k13
    have hR13 := dp_tk (sta_tk S12 k13) _ _ hR12 (kbRing m)
    have hc13 := dp_tk (sta_tk S12 k13) _ _ hc12 (kbCard rows)
    have hl13 := hl1.kp S12 k13 L1st (kbm kbKL _)
    refine ⟨len2, fun g0 ng0 => ?_⟩
    have s14 := same_upd (o := .lst [.ref L1, .ref L2]) ng0
    have G0 : Gv K (upd H13 g0 (.lst [.ref L1, .ref L2])) st g0 nm l1 l2 := ⟨⟨L1, L2, upd_same, hl13.same (kbm kbKL _) s14, hl2.same (kbm kbRL _) s14, S13.nn ng0, L1st, L2st⟩, z1, z2, ln1, ln2⟩
    have S14 := S13.same s14
    have hx14 := hx13.same s14
    have hc14 := dp_tk (Same.tk s14) _ _ hc13 (kbCard rows)
    have hR14 := dp_tk (Same.tk s14) _ _ hR13 (kbRing m)
    have hg0 : (upd H13 g0 (.lst [.ref L1, .ref L2])) g0 = some (.lst [.ref L1, .ref L2]) := upd_same
    obtain ⟨us1, hu1, hd1⟩ := hl13.same (kbm kbKL _) s14
    obtain ⟨us2, hu2, hd2⟩ := hl2.same (kbm kbRL _) s14
    generalize upd H13 g0 (.lst [.ref L1, .ref L2]) = H14 at G0 S14 hx14 hc14 hR14 hg0 hu1 hd1 hu2 hd2
    -- the given ones
    refine ⟨.ref g0, rfl, .inl ⟨g0, _, ((0 : Nat) : Int), .ref L1, rfl, rfl, .of hg0, atI_nat rfl, L1, us1, rfl, .inl (.of hu1), fun q1 m1 => ?_⟩⟩
    have s15 := same_upd (o := .lst us1) m1
    refine ⟨.ref g0, rfl, .inl ⟨g0, _, ((1 : Nat) : Int), .ref L2, rfl, rfl, .of (s15 _ _ hg0), atI_nat rfl, L2, us2, rfl, .inl (.of (s15 _ _ hu2)), fun q2 m2 => ?_⟩⟩
    have s16 := same_upd (o := .lst us2) m2
    refine ⟨len2, fun g ng => ?_⟩
    have s17 := same_upd (o := .lst [.ref q1, .ref q2]) ng
    have s1417 := s15.trans (s16.trans s17)
    have GG : Gv K (upd (upd (upd H14 q1 (.lst us1)) q2 (.lst us2)) g (.lst [.ref q1, .ref q2])) st g nm l1 l2 :=
      ⟨⟨q1, q2, upd_same, ⟨us1, s17 _ _ (s16 _ _ upd_same), dps_tk (Same.tk s1417) hd1 (kbm kbKL _)⟩, ⟨us2, s17 _ _ upd_same, dps_tk (Same.tk s1417) hd2 (kbm kbRL _)⟩, S14.nn (s15.free (s16.free ng)), S14.nn m1, S14.nn (s15.free m2)⟩, z1, z2, ln1, ln2⟩
    have S17 := S14.same s1417
    have G17 := G0.kp S14 (Same.kp s1417)
    have hx17 := hx14.same s1417
    have hc17 := dp_tk (Same.tk s1417) _ _ hc14 (kbCard rows)
    have hR17 := dp_tk (Same.tk s1417) _ _ hR14 (kbRing m)
    generalize upd (upd (upd H14 q1 (.lst us1)) q2 (.lst us2)) g (.lst [.ref q1, .ref q2]) = H17 at GG S17 G17 hx17 hc17 hR17
    -- the cells
    obtain ⟨px, ex, hfz⟩ := id hx17
    subst ex
    refine ⟨.ref px, rfl, px, _, rfl, .inr hfz.sq, n, by rw [List.length_map, ln]; rfl, hn, fun PC H18 s18 nPC hPC => ?_⟩
    obtain ⟨cpos, cle, cok⟩ := cells_ok hn
    have S18 := S17.same s18
    have PCst := S17.nn nPC
    have h0 : ((cellsN n).map eC)[0]? = some (eC (cellsN n)[0]) := by rw [List.getElem?_map, List.getElem?_eq_getElem cpos]; rfl
    obtain ⟨cs, hcs, hdc⟩ := id hPC
    have lcs : cs.length = (cellsN n).length := by rw [dps_le hdc, List.length_map]
    refine .inl ⟨.ref PC, rfl, .ref PC, rfl, rixL (i := 0) hPC h0 fun y0 hy0 => ⟨len1, fun pt nt => ?_⟩⟩
    have s19 := same_upd (o := .lst [y0]) nt
    refine ⟨PC, pt, _, _, rfl, rfl, s19 _ _ hcs, upd_same, Nat.le_of_lt (small1000 (by rw [lcs]; show (cellsN n).length + 1 ≤ 1000; omega)), fun W nW => ?_⟩
    have s20 := same_upd (o := .lst (cs ++ [y0])) nW
    have s1820 := s19.trans s20
    have hW : (upd (upd H18 pt (.lst [y0])) W (.lst (cs ++ [y0]))) W = some (.lst (cs ++ [y0])) := upd_same
    have hdW : DpAll K (upd (upd H18 pt (.lst [y0])) W (.lst (cs ++ [y0]))) (cs ++ [y0]) ((cellsN n ++ [(cellsN n)[0]]).map eC) := by
      rw [List.map_append]
      exact dps_app (dps_tk (Same.tk s1820) hdc (kbm kbC _)) (.cons (dp_tk (Same.tk s1820) _ _ hy0 (kbC _)) .nil)
    have s1720 := s18.trans s1820
    have S20 := S17.same s1720
    have Wst : W ≠ st := S18.nn (s19.free nW)
    have GG20 := GG.kp S17 (Same.kp s1720)
    have G20 := G17.kp S17 (Same.kp s1720)
    have hx20 := hx17.same s1720
    have hc20 := dp_tk (Same.tk s1720) _ _ hc17 (kbCard rows)
    have hR20 := dp_tk (Same.tk s1720) _ _ hR17 (kbRing m)
    generalize upd (upd H18 pt (.lst [y0])) W (.lst (cs ++ [y0])) = H20 at hW hdW S20 GG20 G20 hx20 hc20 hR20
    refine ⟨W, rfl, ⟨_, .of hW⟩, for_it (walk_list (xs := cs ++ [y0])) (fun i σ' H' => ∃ y9, σ' = [some (.ref p), some (.ref st), some (.ref px), some (.str o), some c, some (.ref pr), some (.ref g0), some (.ref g), some (.ref PC), y9] ∧ Kp st H20 H' ∧ Sta sc H' st) ⟨none, rfl, Kp.refl _ _, S20⟩ (fun i σ' H' _ h => by obtain ⟨_, _, k, _⟩ := h; exact .of (k _ _ Wst hW)) ?_ ?_⟩
    · rintro i v σ' _ H21 hi ⟨y9, rfl, k21, S21⟩ ⟨rfl, hv⟩
      obtain ⟨ce, hce, hd⟩ := dps_map hdW hv
      have hmem : ce ∈ cellsN n := by
        rcases List.mem_append.mp (List.mem_of_getElem? hce) with h | h
        · exact h
        · rw [List.mem_singleton.mp h]; exact List.getElem_mem cpos
      have mo := cok ce hmem
      have t21 := sta_tk S20 k21
      refine ⟨.ref st, rfl, c, rfl, .ref pr, rfl, .ref px, rfl, v, rfl, .ref g, rfl, sc, st, g, c, .ref pr, .ref px, v, rows, m, nm, ce, l1, l2, rfl, S21, dp_tk t21 _ _ hc20 (kbCard rows), cd, dp_tk t21 _ _ hR20 (kbRing m), hm2, hx20.kp S20 k21, by omega, dp_tk t21 _ _ hd (kbC ce), by rw [ln]; exact mo, GG20.kp S20 k21, fun H22 k22 S22 => ⟨_, rfl, iteF ⟨_, rfl, k21.trans k22, S22⟩⟩⟩
    · rintro σ' H21 ⟨y9, rfl, k21, S21⟩
      exact ⟨.ref g, rfl, .ref g0, rfl, _, _, rfl, sm_gv (GG20.kp S20 k21) (G20.kp S20 k21), q H21⟩
theorem ok_law (T : Top K mg a) : FnOk P w K mg base CX0 33 a.f_law a.d_law ["_law_script"] (spLaw K) :=
  ok_law_of T (ok_ksz T) (ok_state T) (ok_draw T) (ok_alike T 30) (ok_names T (ok_draw T)) (ok_cells T (ok_marks T)) (ok_kinds T (ok_draw T) (ok_card T (ok_draw T))) (ok_size T) (ok_drawn T (ok_draw T))
    (ok_cell T (ok_draw T) (ok_kparts T (ok_blk T) (ok_ksz T) (ok_fill T) (ok_ktr T (ok_bof T))) (ok_rparts T (ok_blk T) (ok_col T) (ok_rtr T (ok_bof T))) (ok_partsL T ok_orders (ok_kright T)) (ok_good T (ok_partsL T ok_orders (ok_kright T)) (ok_allH T (ok_holds T))) (ok_alike T 30) (ok_ktt T (ok_ktr T (ok_bof T)) (ok_alike T 30)) (ok_rtt T (ok_rtr T (ok_bof T)) (ok_alike T 30)))
end
end K21

namespace K21
open PySem PySem.Spec PyProof.Rows L2
section
theorem all_mk {l : PySem.W.OpenLaw} {w : World} {K : PySem.W.Frag} {h : Heap} {mg : Str → Option Value} {fa : Addr} (X : K.In h) (G : h.Ns mainGlobals mg) (hfa : mg "law" = some (.ref fa))
    {f1 f2 f3 f4 f5 f6 f7 f8 f9 f10 f11 f12 f13 f14 f15 f16 f17 f18 f19 f20 f21 f22 f23 f24 f25 f26 f27 f28 f29 f30 : Addr}
    {od1 an1 od2 an2 od3 an3 od4 an4 od5 an5 od6 an6 od7 an7 od8 an8 od9 an9 od10 an10 od11 an11 od12 an12 od13 an13 od14 an14 od15 an15 od16 an16 od17 an17 od18 an18 od19 an19 od20 an20 od21 an21 od22 an22 od23 an23 od24 an24 od25 an25 od26 an26 od27 an27 od28 an28 od29 an29 od30 an30 : Option Addr} {sl1 sl2 sl3 sl4 sl5 sl6 sl7 sl8 sl9 sl10 sl11 sl12 sl13 sl14 sl15 sl16 sl17 sl18 sl19 sl20 sl21 sl22 sl23 sl24 sl25 sl26 sl27 sl28 sl29 sl30 : Array (Option Value)} {oc1 kV1 dc1 pm1 cd1 ct1 oc2 kV2 dc2 pm2 cd2 ct2 oc3 kV3 dc3 pm3 cd3 ct3 oc4 kV4 dc4 pm4 cd4 ct4 oc5 kV5 dc5 pm5 cd5 ct5 oc6 kV6 dc6 pm6 cd6 ct6 oc7 kV7 dc7 pm7 cd7 ct7 oc8 kV8 dc8 pm8 cd8 ct8 oc9 kV9 dc9 pm9 cd9 ct9 oc10 kV10 dc10 pm10 cd10 ct10 oc11 kV11 dc11 pm11 cd11 ct11 oc12 kV12 dc12 pm12 cd12 ct12 oc13 kV13 dc13 pm13 cd13 ct13 oc14 kV14 dc14 pm14 cd14 ct14 oc15 kV15 dc15 pm15 cd15 ct15 oc16 kV16 dc16 pm16 cd16 ct16 oc17 kV17 dc17 pm17 cd17 ct17 oc18 kV18 dc18 pm18 cd18 ct18 oc19 kV19 dc19 pm19 cd19 ct19 oc20 kV20 dc20 pm20 cd20 ct20 oc21 kV21 dc21 pm21 cd21 ct21 oc22 kV22 dc22 pm22 cd22 ct22 oc23 kV23 dc23 pm23 cd23 ct23 oc24 kV24 dc24 pm24 cd24 ct24 oc25 kV25 dc25 pm25 cd25 ct25 oc26 kV26 dc26 pm26 cd26 ct26 oc27 kV27 dc27 pm27 cd27 ct27 oc28 kV28 dc28 pm28 cd28 ct28 oc29 kV29 dc29 pm29 cd29 ct29 oc30 kV30 dc30 pm30 cd30 ct30 : Value}
    (a1 : PySem.W.nsIn K mainGlobals "block_count" = some (some (.ref f1)))
    (l1 : K.lookup f1 = some ⟨oc1, od1, .func (PySem.W.fnOf "block_count" "block_count" (defArgs s_block_count) (defBody s_block_count) (defScope s_block_count) .none kV1 dc1 pm1 an1 cd1 ct1), sl1⟩)
    (c1 : PySem.W.codeIn K cd1 "block_count" = true)
    (k1 : PySem.W.keepIn K (.ref f1) = true)
    (a2 : PySem.W.nsIn K mainGlobals "block_of" = some (some (.ref f2)))
    (l2 : K.lookup f2 = some ⟨oc2, od2, .func (PySem.W.fnOf "block_of" "block_of" (defArgs s_block_of) (defBody s_block_of) (defScope s_block_of) .none kV2 dc2 pm2 an2 cd2 ct2), sl2⟩)
    (c2 : PySem.W.codeIn K cd2 "block_of" = true)
    (k2 : PySem.W.keepIn K (.ref f2) = true)
    (a3 : PySem.W.nsIn K mainGlobals "kinds_size" = some (some (.ref f3)))
    (l3 : K.lookup f3 = some ⟨oc3, od3, .func (PySem.W.fnOf "kinds_size" "kinds_size" (defArgs s_kinds_size) (defBody s_kinds_size) (defScope s_kinds_size) .none kV3 dc3 pm3 an3 cd3 ct3), sl3⟩)
    (c3 : PySem.W.codeIn K cd3 "kinds_size" = true)
    (k3 : PySem.W.keepIn K (.ref f3) = true)
    (a4 : PySem.W.nsIn K mainGlobals "kinds_truth" = some (some (.ref f4)))
    (l4 : K.lookup f4 = some ⟨oc4, od4, .func (PySem.W.fnOf "kinds_truth" "kinds_truth" (defArgs s_kinds_truth) (defBody s_kinds_truth) (defScope s_kinds_truth) .none kV4 dc4 pm4 an4 cd4 ct4), sl4⟩)
    (c4 : PySem.W.codeIn K cd4 "kinds_truth" = true)
    (k4 : PySem.W.keepIn K (.ref f4) = true)
    (a5 : PySem.W.nsIn K mainGlobals "_fillings" = some (some (.ref f5)))
    (l5 : K.lookup f5 = some ⟨oc5, od5, .func (PySem.W.fnOf "_fillings" "_fillings" (defArgs s_fillings) (defBody s_fillings) (defScope s_fillings) .none kV5 dc5 pm5 an5 cd5 ct5), sl5⟩)
    (c5 : PySem.W.codeIn K cd5 "_fillings" = true)
    (k5 : PySem.W.keepIn K (.ref f5) = true)
    (a6 : PySem.W.nsIn K mainGlobals "kinds_parts" = some (some (.ref f6)))
    (l6 : K.lookup f6 = some ⟨oc6, od6, .func (PySem.W.fnOf "kinds_parts" "kinds_parts" (defArgs s_kinds_parts) (defBody s_kinds_parts) (defScope s_kinds_parts) .none kV6 dc6 pm6 an6 cd6 ct6), sl6⟩)
    (c6 : PySem.W.codeIn K cd6 "kinds_parts" = true)
    (k6 : PySem.W.keepIn K (.ref f6) = true)
    (a7 : PySem.W.nsIn K mainGlobals "ring_truth" = some (some (.ref f7)))
    (l7 : K.lookup f7 = some ⟨oc7, od7, .func (PySem.W.fnOf "ring_truth" "ring_truth" (defArgs s_ring_truth) (defBody s_ring_truth) (defScope s_ring_truth) .none kV7 dc7 pm7 an7 cd7 ct7), sl7⟩)
    (c7 : PySem.W.codeIn K cd7 "ring_truth" = true)
    (k7 : PySem.W.keepIn K (.ref f7) = true)
    (a8 : PySem.W.nsIn K mainGlobals "_colorings" = some (some (.ref f8)))
    (l8 : K.lookup f8 = some ⟨oc8, od8, .func (PySem.W.fnOf "_colorings" "_colorings" (defArgs s_colorings) (defBody s_colorings) (defScope s_colorings) .none kV8 dc8 pm8 an8 cd8 ct8), sl8⟩)
    (c8 : PySem.W.codeIn K cd8 "_colorings" = true)
    (k8 : PySem.W.keepIn K (.ref f8) = true)
    (a9 : PySem.W.nsIn K mainGlobals "ring_parts" = some (some (.ref f9)))
    (l9 : K.lookup f9 = some ⟨oc9, od9, .func (PySem.W.fnOf "ring_parts" "ring_parts" (defArgs s_ring_parts) (defBody s_ring_parts) (defScope s_ring_parts) .none kV9 dc9 pm9 an9 cd9 ct9), sl9⟩)
    (c9 : PySem.W.codeIn K cd9 "ring_parts" = true)
    (k9 : PySem.W.keepIn K (.ref f9) = true)
    (a10 : PySem.W.nsIn K mainGlobals "_law_state" = some (some (.ref f10)))
    (l10 : K.lookup f10 = some ⟨oc10, od10, .func (PySem.W.fnOf "_law_state" "_law_state" (defArgs s_l_state) (defBody s_l_state) (defScope s_l_state) .none kV10 dc10 pm10 an10 cd10 ct10), sl10⟩)
    (c10 : PySem.W.codeIn K cd10 "_law_state" = true)
    (k10 : PySem.W.keepIn K (.ref f10) = true)
    (a11 : PySem.W.nsIn K mainGlobals "_law_draw" = some (some (.ref f11)))
    (l11 : K.lookup f11 = some ⟨oc11, od11, .func (PySem.W.fnOf "_law_draw" "_law_draw" (defArgs s_l_draw) (defBody s_l_draw) (defScope s_l_draw) .none kV11 dc11 pm11 an11 cd11 ct11), sl11⟩)
    (c11 : PySem.W.codeIn K cd11 "_law_draw" = true)
    (k11 : PySem.W.keepIn K (.ref f11) = true)
    (a12 : PySem.W.nsIn K mainGlobals "_law_alike" = some (some (.ref f12)))
    (l12 : K.lookup f12 = some ⟨oc12, od12, .func (PySem.W.fnOf "_law_alike" "_law_alike" (defArgs s_l_alike) (defBody s_l_alike) (defScope s_l_alike) .none kV12 dc12 pm12 an12 cd12 ct12), sl12⟩)
    (c12 : PySem.W.codeIn K cd12 "_law_alike" = true)
    (k12 : PySem.W.keepIn K (.ref f12) = true)
    (a13 : PySem.W.nsIn K mainGlobals "_law_names" = some (some (.ref f13)))
    (l13 : K.lookup f13 = some ⟨oc13, od13, .func (PySem.W.fnOf "_law_names" "_law_names" (defArgs s_l_names) (defBody s_l_names) (defScope s_l_names) .none kV13 dc13 pm13 an13 cd13 ct13), sl13⟩)
    (c13 : PySem.W.codeIn K cd13 "_law_names" = true)
    (k13 : PySem.W.keepIn K (.ref f13) = true)
    (a14 : PySem.W.nsIn K mainGlobals "_law_marks" = some (some (.ref f14)))
    (l14 : K.lookup f14 = some ⟨oc14, od14, .func (PySem.W.fnOf "_law_marks" "_law_marks" (defArgs s_l_marks) (defBody s_l_marks) (defScope s_l_marks) .none kV14 dc14 pm14 an14 cd14 ct14), sl14⟩)
    (c14 : PySem.W.codeIn K cd14 "_law_marks" = true)
    (k14 : PySem.W.keepIn K (.ref f14) = true)
    (a15 : PySem.W.nsIn K mainGlobals "_law_cells" = some (some (.ref f15)))
    (l15 : K.lookup f15 = some ⟨oc15, od15, .func (PySem.W.fnOf "_law_cells" "_law_cells" (defArgs s_l_cells) (defBody s_l_cells) (defScope s_l_cells) .none kV15 dc15 pm15 an15 cd15 ct15), sl15⟩)
    (c15 : PySem.W.codeIn K cd15 "_law_cells" = true)
    (k15 : PySem.W.keepIn K (.ref f15) = true)
    (a16 : PySem.W.nsIn K mainGlobals "_law_kinds_card" = some (some (.ref f16)))
    (l16 : K.lookup f16 = some ⟨oc16, od16, .func (PySem.W.fnOf "_law_kinds_card" "_law_kinds_card" (defArgs s_l_kinds_card) (defBody s_l_kinds_card) (defScope s_l_kinds_card) .none kV16 dc16 pm16 an16 cd16 ct16), sl16⟩)
    (c16 : PySem.W.codeIn K cd16 "_law_kinds_card" = true)
    (k16 : PySem.W.keepIn K (.ref f16) = true)
    (a17 : PySem.W.nsIn K mainGlobals "_law_order_right" = some (some (.ref f17)))
    (l17 : K.lookup f17 = some ⟨oc17, od17, .func (PySem.W.fnOf "_law_order_right" "_law_order_right" (defArgs s_l_order_right) (defBody s_l_order_right) (defScope s_l_order_right) .none kV17 dc17 pm17 an17 cd17 ct17), sl17⟩)
    (c17 : PySem.W.codeIn K cd17 "_law_order_right" = true)
    (k17 : PySem.W.keepIn K (.ref f17) = true)
    (a18 : PySem.W.nsIn K mainGlobals "_law_orders" = some (some (.ref f18)))
    (l18 : K.lookup f18 = some ⟨oc18, od18, .func (PySem.W.fnOf "_law_orders" "_law_orders" (defArgs s_l_orders) (defBody s_l_orders) (defScope s_l_orders) .none kV18 dc18 pm18 an18 cd18 ct18), sl18⟩)
    (c18 : PySem.W.codeIn K cd18 "_law_orders" = true)
    (k18 : PySem.W.keepIn K (.ref f18) = true)
    (a19 : PySem.W.nsIn K mainGlobals "_law_kinds_right" = some (some (.ref f19)))
    (l19 : K.lookup f19 = some ⟨oc19, od19, .func (PySem.W.fnOf "_law_kinds_right" "_law_kinds_right" (defArgs s_l_kinds_right) (defBody s_l_kinds_right) (defScope s_l_kinds_right) .none kV19 dc19 pm19 an19 cd19 ct19), sl19⟩)
    (c19 : PySem.W.codeIn K cd19 "_law_kinds_right" = true)
    (k19 : PySem.W.keepIn K (.ref f19) = true)
    (a20 : PySem.W.nsIn K mainGlobals "_law_parts" = some (some (.ref f20)))
    (l20 : K.lookup f20 = some ⟨oc20, od20, .func (PySem.W.fnOf "_law_parts" "_law_parts" (defArgs s_l_parts) (defBody s_l_parts) (defScope s_l_parts) .none kV20 dc20 pm20 an20 cd20 ct20), sl20⟩)
    (c20 : PySem.W.codeIn K cd20 "_law_parts" = true)
    (k20 : PySem.W.keepIn K (.ref f20) = true)
    (a21 : PySem.W.nsIn K mainGlobals "_law_holds" = some (some (.ref f21)))
    (l21 : K.lookup f21 = some ⟨oc21, od21, .func (PySem.W.fnOf "_law_holds" "_law_holds" (defArgs s_l_holds) (defBody s_l_holds) (defScope s_l_holds) .none kV21 dc21 pm21 an21 cd21 ct21), sl21⟩)
    (c21 : PySem.W.codeIn K cd21 "_law_holds" = true)
    (k21 : PySem.W.keepIn K (.ref f21) = true)
    (a22 : PySem.W.nsIn K mainGlobals "_law_all_hold" = some (some (.ref f22)))
    (l22 : K.lookup f22 = some ⟨oc22, od22, .func (PySem.W.fnOf "_law_all_hold" "_law_all_hold" (defArgs s_l_all_hold) (defBody s_l_all_hold) (defScope s_l_all_hold) .none kV22 dc22 pm22 an22 cd22 ct22), sl22⟩)
    (c22 : PySem.W.codeIn K cd22 "_law_all_hold" = true)
    (k22 : PySem.W.keepIn K (.ref f22) = true)
    (a23 : PySem.W.nsIn K mainGlobals "_law_good_parts" = some (some (.ref f23)))
    (l23 : K.lookup f23 = some ⟨oc23, od23, .func (PySem.W.fnOf "_law_good_parts" "_law_good_parts" (defArgs s_l_good_parts) (defBody s_l_good_parts) (defScope s_l_good_parts) .none kV23 dc23 pm23 an23 cd23 ct23), sl23⟩)
    (c23 : PySem.W.codeIn K cd23 "_law_good_parts" = true)
    (k23 : PySem.W.keepIn K (.ref f23) = true)
    (a24 : PySem.W.nsIn K mainGlobals "_law_kinds" = some (some (.ref f24)))
    (l24 : K.lookup f24 = some ⟨oc24, od24, .func (PySem.W.fnOf "_law_kinds" "_law_kinds" (defArgs s_l_kinds) (defBody s_l_kinds) (defScope s_l_kinds) .none kV24 dc24 pm24 an24 cd24 ct24), sl24⟩)
    (c24 : PySem.W.codeIn K cd24 "_law_kinds" = true)
    (k24 : PySem.W.keepIn K (.ref f24) = true)
    (a25 : PySem.W.nsIn K mainGlobals "_law_size" = some (some (.ref f25)))
    (l25 : K.lookup f25 = some ⟨oc25, od25, .func (PySem.W.fnOf "_law_size" "_law_size" (defArgs s_l_size) (defBody s_l_size) (defScope s_l_size) .none kV25 dc25 pm25 an25 cd25 ct25), sl25⟩)
    (c25 : PySem.W.codeIn K cd25 "_law_size" = true)
    (k25 : PySem.W.keepIn K (.ref f25) = true)
    (a26 : PySem.W.nsIn K mainGlobals "_law_drawn" = some (some (.ref f26)))
    (l26 : K.lookup f26 = some ⟨oc26, od26, .func (PySem.W.fnOf "_law_drawn" "_law_drawn" (defArgs s_l_drawn) (defBody s_l_drawn) (defScope s_l_drawn) .none kV26 dc26 pm26 an26 cd26 ct26), sl26⟩)
    (c26 : PySem.W.codeIn K cd26 "_law_drawn" = true)
    (k26 : PySem.W.keepIn K (.ref f26) = true)
    (a27 : PySem.W.nsIn K mainGlobals "_law_kind_truths" = some (some (.ref f27)))
    (l27 : K.lookup f27 = some ⟨oc27, od27, .func (PySem.W.fnOf "_law_kind_truths" "_law_kind_truths" (defArgs s_l_kind_truths) (defBody s_l_kind_truths) (defScope s_l_kind_truths) .none kV27 dc27 pm27 an27 cd27 ct27), sl27⟩)
    (c27 : PySem.W.codeIn K cd27 "_law_kind_truths" = true)
    (k27 : PySem.W.keepIn K (.ref f27) = true)
    (a28 : PySem.W.nsIn K mainGlobals "_law_turn_truths" = some (some (.ref f28)))
    (l28 : K.lookup f28 = some ⟨oc28, od28, .func (PySem.W.fnOf "_law_turn_truths" "_law_turn_truths" (defArgs s_l_turn_truths) (defBody s_l_turn_truths) (defScope s_l_turn_truths) .none kV28 dc28 pm28 an28 cd28 ct28), sl28⟩)
    (c28 : PySem.W.codeIn K cd28 "_law_turn_truths" = true)
    (k28 : PySem.W.keepIn K (.ref f28) = true)
    (a29 : PySem.W.nsIn K mainGlobals "_law_cell_right" = some (some (.ref f29)))
    (l29 : K.lookup f29 = some ⟨oc29, od29, .func (PySem.W.fnOf "_law_cell_right" "_law_cell_right" (defArgs s_l_cell_right) (defBody s_l_cell_right) (defScope s_l_cell_right) .none kV29 dc29 pm29 an29 cd29 ct29), sl29⟩)
    (c29 : PySem.W.codeIn K cd29 "_law_cell_right" = true)
    (k29 : PySem.W.keepIn K (.ref f29) = true)
    (a30 : PySem.W.nsIn K mainGlobals "law" = some (some (.ref f30)))
    (l30 : K.lookup f30 = some ⟨oc30, od30, .func (PySem.W.fnOf "law" "law" (defArgs s_law) (defBody s_law) (defScope s_law) .none kV30 dc30 pm30 an30 cd30 ct30), sl30⟩)
    (c30 : PySem.W.codeIn K cd30 "law" = true)
    (k30 : PySem.W.keepIn K (.ref f30) = true)
    (z_all : PySem.W.nsIn K mainGlobals "all" = some none)
    (z_bool : PySem.W.nsIn K mainGlobals "bool" = some none)
    (z_int : PySem.W.nsIn K mainGlobals "int" = some none)
    (z_isinstance : PySem.W.nsIn K mainGlobals "isinstance" = some none)
    (z_len : PySem.W.nsIn K mainGlobals "len" = some none)
    (z_list : PySem.W.nsIn K mainGlobals "list" = some none)
    (z_max : PySem.W.nsIn K mainGlobals "max" = some none)
    (z_range : PySem.W.nsIn K mainGlobals "range" = some none)
    (z_set : PySem.W.nsIn K mainGlobals "set" = some none)
    (z_sorted : PySem.W.nsIn K mainGlobals "sorted" = some none)
    (z_str : PySem.W.nsIn K mainGlobals "str" = some none)
    (z_sum : PySem.W.nsIn K mainGlobals "sum" = some none)
    (z_tuple : PySem.W.nsIn K mainGlobals "tuple" = some none)
    {t_ENDLESS : Tok}
    (g_ENDLESS : PySem.W.nsIn K mainGlobals "ENDLESS" = some (some (.int 3 t_ENDLESS)))
    : ∃ fd : FuncData, (∀ (s : Shared) (v : Value), BindsTo s fd ⟨[v], []⟩ [("_law_script", v)]) ∧ ∀ base : Heap, K.In base → base.Ns mainGlobals mg → FnOk l.prog w K mg base CX0 33 fa fd ["_law_script"] (spLaw K) := by
  have e := hfa.symm.trans (PySem.W.mg_of X G a30)
  cases e
  have F1 := fun_mk (st := s_block_count) l1 c1 k1
  have b1 := F1.binds (ps := ["marks"]) fun _ _ _ _ _ _ us hl => match us, hl with | [_], _ => rfl
  have F2 := fun_mk (st := s_block_of) l2 c2 k2
  have b2 := F2.binds (ps := ["names", "cell", "name"]) fun _ _ _ _ _ _ us hl => match us, hl with | [_, _, _], _ => rfl
  have F3 := fun_mk (st := s_kinds_size) l3 c3 k3
  have b3 := F3.binds (ps := ["card"]) fun _ _ _ _ _ _ us hl => match us, hl with | [_], _ => rfl
  have F4 := fun_mk (st := s_kinds_truth) l4 c4 k4
  have b4 := F4.binds (ps := ["card", "names", "cell", "own", "atom"]) fun _ _ _ _ _ _ us hl => match us, hl with | [_, _, _, _, _], _ => rfl
  have F5 := fun_mk (st := s_fillings) l5 c5 k5
  have b5 := F5.binds (ps := ["counts", "blocks"]) fun _ _ _ _ _ _ us hl => match us, hl with | [_, _], _ => rfl
  have F6 := fun_mk (st := s_kinds_parts) l6 c6 k6
  have b6 := F6.binds (ps := ["card", "names", "literals", "cell"]) fun _ _ _ _ _ _ us hl => match us, hl with | [_, _, _, _], _ => rfl
  have F7 := fun_mk (st := s_ring_truth) l7 c7 k7
  have b7 := F7.binds (ps := ["card", "names", "cell", "own", "atom"]) fun _ _ _ _ _ _ us hl => match us, hl with | [_, _, _, _, _], _ => rfl
  have F8 := fun_mk (st := s_colorings) l8 c8 k8
  have b8 := F8.binds (ps := ["colors", "blocks"]) fun _ _ _ _ _ _ us hl => match us, hl with | [_, _], _ => rfl
  have F9 := fun_mk (st := s_ring_parts) l9 c9 k9
  have b9 := F9.binds (ps := ["card", "names", "literals", "cell"]) fun _ _ _ _ _ _ us hl => match us, hl with | [_, _, _, _], _ => rfl
  have F10 := fun_mk (st := s_l_state) l10 c10 k10
  have b10 := F10.binds (ps := ["_law_script"]) fun _ _ _ _ _ _ us hl => match us, hl with | [_], _ => rfl
  have F11 := fun_mk (st := s_l_draw) l11 c11 k11
  have b11 := F11.binds (ps := ["_law_state_here", "_law_many"]) fun _ _ _ _ _ _ us hl => match us, hl with | [_, _], _ => rfl
  have F12 := fun_mk (st := s_l_alike) l12 c12 k12
  have b12 := F12.binds (ps := ["_law_actual", "_law_due"]) fun _ _ _ _ _ _ us hl => match us, hl with | [_, _], _ => rfl
  have F13 := fun_mk (st := s_l_names) l13 c13 k13
  have b13 := F13.binds (ps := ["_law_state_here", "_law_count"]) fun _ _ _ _ _ _ us hl => match us, hl with | [_, _], _ => rfl
  have F14 := fun_mk (st := s_l_marks) l14 c14 k14
  have b14 := F14.binds (ps := ["_law_count"]) fun _ _ _ _ _ _ us hl => match us, hl with | [_], _ => rfl
  have F15 := fun_mk (st := s_l_cells) l15 c15 k15
  have b15 := F15.binds (ps := ["_law_count"]) fun _ _ _ _ _ _ us hl => match us, hl with | [_], _ => rfl
  have F16 := fun_mk (st := s_l_kinds_card) l16 c16 k16
  have b16 := F16.binds (ps := ["_law_state_here"]) fun _ _ _ _ _ _ us hl => match us, hl with | [_], _ => rfl
  have F17 := fun_mk (st := s_l_order_right) l17 c17 k17
  have b17 := F17.binds (ps := ["_law_pairs"]) fun _ _ _ _ _ _ us hl => match us, hl with | [_], _ => rfl
  have F18 := fun_mk (st := s_l_orders) l18 c18 k18
  have b18 := F18.binds (ps := ["_law_blocks"]) fun _ _ _ _ _ _ us hl => match us, hl with | [_], _ => rfl
  have F19 := fun_mk (st := s_l_kinds_right) l19 c19 k19
  have b19 := F19.binds (ps := ["_law_card", "_law_cell", "_law_own"]) fun _ _ _ _ _ _ us hl => match us, hl with | [_, _, _], _ => rfl
  have F20 := fun_mk (st := s_l_parts) l20 c20 k20
  have b20 := F20.binds (ps := ["_law_card", "_law_cell"]) fun _ _ _ _ _ _ us hl => match us, hl with | [_, _], _ => rfl
  have F21 := fun_mk (st := s_l_holds) l21 c21 k21
  have b21 := F21.binds (ps := ["_law_card", "_law_names_here", "_law_cell", "_law_own", "_law_literal"]) fun _ _ _ _ _ _ us hl => match us, hl with | [_, _, _, _, _], _ => rfl
  have F22 := fun_mk (st := s_l_all_hold) l22 c22 k22
  have b22 := F22.binds (ps := ["_law_card", "_law_names_here", "_law_cell", "_law_own", "_law_literals"]) fun _ _ _ _ _ _ us hl => match us, hl with | [_, _, _, _, _], _ => rfl
  have F23 := fun_mk (st := s_l_good_parts) l23 c23 k23
  have b23 := F23.binds (ps := ["_law_card", "_law_names_here", "_law_cell", "_law_literals"]) fun _ _ _ _ _ _ us hl => match us, hl with | [_, _, _, _], _ => rfl
  have F24 := fun_mk (st := s_l_kinds) l24 c24 k24
  have b24 := F24.binds (ps := ["_law_state_here"]) fun _ _ _ _ _ _ us hl => match us, hl with | [_], _ => rfl
  have F25 := fun_mk (st := s_l_size) l25 c25 k25
  have b25 := F25.binds (ps := ["_law_card"]) fun _ _ _ _ _ _ us hl => match us, hl with | [_], _ => rfl
  have F26 := fun_mk (st := s_l_drawn) l26 c26 k26
  have b26 := F26.binds (ps := ["_law_state_here", "_law_owner", "_law_card", "_law_names_here"]) fun _ _ _ _ _ _ us hl => match us, hl with | [_, _, _, _], _ => rfl
  have F27 := fun_mk (st := s_l_kind_truths) l27 c27 k27
  have b27 := F27.binds (ps := ["_law_card", "_law_names_here", "_law_cell", "_law_own"]) fun _ _ _ _ _ _ us hl => match us, hl with | [_, _, _, _], _ => rfl
  have F28 := fun_mk (st := s_l_turn_truths) l28 c28 k28
  have b28 := F28.binds (ps := ["_law_card", "_law_names_here", "_law_cell", "_law_own"]) fun _ _ _ _ _ _ us hl => match us, hl with | [_, _, _, _], _ => rfl
  have F29 := fun_mk (st := s_l_cell_right) l29 c29 k29
  have b29 := F29.binds (ps := ["_law_state_here", "_law_card", "_law_ring", "_law_names_here", "_law_cell", "_law_given"]) fun _ _ _ _ _ _ us hl => match us, hl with | [_, _, _, _, _, _], _ => rfl
  have F30 := fun_mk (st := s_law) l30 c30 k30
  have b30 := F30.binds (ps := ["_law_script"]) fun _ _ _ _ _ _ us hl => match us, hl with | [_], _ => rfl
  let ad : Ad := { f_block_count := f1, d_block_count := (PySem.W.fnOf "block_count" "block_count" (defArgs s_block_count) (defBody s_block_count) (defScope s_block_count) .none kV1 dc1 pm1 an1 cd1 ct1), f_block_of := f2, d_block_of := (PySem.W.fnOf "block_of" "block_of" (defArgs s_block_of) (defBody s_block_of) (defScope s_block_of) .none kV2 dc2 pm2 an2 cd2 ct2), f_kinds_size := f3, d_kinds_size := (PySem.W.fnOf "kinds_size" "kinds_size" (defArgs s_kinds_size) (defBody s_kinds_size) (defScope s_kinds_size) .none kV3 dc3 pm3 an3 cd3 ct3), f_kinds_truth := f4, d_kinds_truth := (PySem.W.fnOf "kinds_truth" "kinds_truth" (defArgs s_kinds_truth) (defBody s_kinds_truth) (defScope s_kinds_truth) .none kV4 dc4 pm4 an4 cd4 ct4), f_fillings := f5, d_fillings := (PySem.W.fnOf "_fillings" "_fillings" (defArgs s_fillings) (defBody s_fillings) (defScope s_fillings) .none kV5 dc5 pm5 an5 cd5 ct5), f_kinds_parts := f6, d_kinds_parts := (PySem.W.fnOf "kinds_parts" "kinds_parts" (defArgs s_kinds_parts) (defBody s_kinds_parts) (defScope s_kinds_parts) .none kV6 dc6 pm6 an6 cd6 ct6), f_ring_truth := f7, d_ring_truth := (PySem.W.fnOf "ring_truth" "ring_truth" (defArgs s_ring_truth) (defBody s_ring_truth) (defScope s_ring_truth) .none kV7 dc7 pm7 an7 cd7 ct7), f_colorings := f8, d_colorings := (PySem.W.fnOf "_colorings" "_colorings" (defArgs s_colorings) (defBody s_colorings) (defScope s_colorings) .none kV8 dc8 pm8 an8 cd8 ct8), f_ring_parts := f9, d_ring_parts := (PySem.W.fnOf "ring_parts" "ring_parts" (defArgs s_ring_parts) (defBody s_ring_parts) (defScope s_ring_parts) .none kV9 dc9 pm9 an9 cd9 ct9), f_l_state := f10, d_l_state := (PySem.W.fnOf "_law_state" "_law_state" (defArgs s_l_state) (defBody s_l_state) (defScope s_l_state) .none kV10 dc10 pm10 an10 cd10 ct10), f_l_draw := f11, d_l_draw := (PySem.W.fnOf "_law_draw" "_law_draw" (defArgs s_l_draw) (defBody s_l_draw) (defScope s_l_draw) .none kV11 dc11 pm11 an11 cd11 ct11), f_l_alike := f12, d_l_alike := (PySem.W.fnOf "_law_alike" "_law_alike" (defArgs s_l_alike) (defBody s_l_alike) (defScope s_l_alike) .none kV12 dc12 pm12 an12 cd12 ct12), f_l_names := f13, d_l_names := (PySem.W.fnOf "_law_names" "_law_names" (defArgs s_l_names) (defBody s_l_names) (defScope s_l_names) .none kV13 dc13 pm13 an13 cd13 ct13), f_l_marks := f14, d_l_marks := (PySem.W.fnOf "_law_marks" "_law_marks" (defArgs s_l_marks) (defBody s_l_marks) (defScope s_l_marks) .none kV14 dc14 pm14 an14 cd14 ct14), f_l_cells := f15, d_l_cells := (PySem.W.fnOf "_law_cells" "_law_cells" (defArgs s_l_cells) (defBody s_l_cells) (defScope s_l_cells) .none kV15 dc15 pm15 an15 cd15 ct15), f_l_kinds_card := f16, d_l_kinds_card := (PySem.W.fnOf "_law_kinds_card" "_law_kinds_card" (defArgs s_l_kinds_card) (defBody s_l_kinds_card) (defScope s_l_kinds_card) .none kV16 dc16 pm16 an16 cd16 ct16), f_l_order_right := f17, d_l_order_right := (PySem.W.fnOf "_law_order_right" "_law_order_right" (defArgs s_l_order_right) (defBody s_l_order_right) (defScope s_l_order_right) .none kV17 dc17 pm17 an17 cd17 ct17), f_l_orders := f18, d_l_orders := (PySem.W.fnOf "_law_orders" "_law_orders" (defArgs s_l_orders) (defBody s_l_orders) (defScope s_l_orders) .none kV18 dc18 pm18 an18 cd18 ct18), f_l_kinds_right := f19, d_l_kinds_right := (PySem.W.fnOf "_law_kinds_right" "_law_kinds_right" (defArgs s_l_kinds_right) (defBody s_l_kinds_right) (defScope s_l_kinds_right) .none kV19 dc19 pm19 an19 cd19 ct19), f_l_parts := f20, d_l_parts := (PySem.W.fnOf "_law_parts" "_law_parts" (defArgs s_l_parts) (defBody s_l_parts) (defScope s_l_parts) .none kV20 dc20 pm20 an20 cd20 ct20), f_l_holds := f21, d_l_holds := (PySem.W.fnOf "_law_holds" "_law_holds" (defArgs s_l_holds) (defBody s_l_holds) (defScope s_l_holds) .none kV21 dc21 pm21 an21 cd21 ct21), f_l_all_hold := f22, d_l_all_hold := (PySem.W.fnOf "_law_all_hold" "_law_all_hold" (defArgs s_l_all_hold) (defBody s_l_all_hold) (defScope s_l_all_hold) .none kV22 dc22 pm22 an22 cd22 ct22), f_l_good_parts := f23, d_l_good_parts := (PySem.W.fnOf "_law_good_parts" "_law_good_parts" (defArgs s_l_good_parts) (defBody s_l_good_parts) (defScope s_l_good_parts) .none kV23 dc23 pm23 an23 cd23 ct23), f_l_kinds := f24, d_l_kinds := (PySem.W.fnOf "_law_kinds" "_law_kinds" (defArgs s_l_kinds) (defBody s_l_kinds) (defScope s_l_kinds) .none kV24 dc24 pm24 an24 cd24 ct24), f_l_size := f25, d_l_size := (PySem.W.fnOf "_law_size" "_law_size" (defArgs s_l_size) (defBody s_l_size) (defScope s_l_size) .none kV25 dc25 pm25 an25 cd25 ct25), f_l_drawn := f26, d_l_drawn := (PySem.W.fnOf "_law_drawn" "_law_drawn" (defArgs s_l_drawn) (defBody s_l_drawn) (defScope s_l_drawn) .none kV26 dc26 pm26 an26 cd26 ct26), f_l_kind_truths := f27, d_l_kind_truths := (PySem.W.fnOf "_law_kind_truths" "_law_kind_truths" (defArgs s_l_kind_truths) (defBody s_l_kind_truths) (defScope s_l_kind_truths) .none kV27 dc27 pm27 an27 cd27 ct27), f_l_turn_truths := f28, d_l_turn_truths := (PySem.W.fnOf "_law_turn_truths" "_law_turn_truths" (defArgs s_l_turn_truths) (defBody s_l_turn_truths) (defScope s_l_turn_truths) .none kV28 dc28 pm28 an28 cd28 ct28), f_l_cell_right := f29, d_l_cell_right := (PySem.W.fnOf "_law_cell_right" "_law_cell_right" (defArgs s_l_cell_right) (defBody s_l_cell_right) (defScope s_l_cell_right) .none kV29 dc29 pm29 an29 cd29 ct29), f_law := fa, d_law := (PySem.W.fnOf "law" "law" (defArgs s_law) (defBody s_law) (defScope s_law) .none kV30 dc30 pm30 an30 cd30 ct30) }
  have T : Top K mg ad :=
    { F_block_count := F1,
      m_block_count := PySem.W.mg_of X G a1,
      b_block_count := b1,
      F_block_of := F2,
      m_block_of := PySem.W.mg_of X G a2,
      b_block_of := b2,
      F_kinds_size := F3,
      m_kinds_size := PySem.W.mg_of X G a3,
      b_kinds_size := b3,
      F_kinds_truth := F4,
      m_kinds_truth := PySem.W.mg_of X G a4,
      b_kinds_truth := b4,
      F_fillings := F5,
      m_fillings := PySem.W.mg_of X G a5,
      b_fillings := b5,
      F_kinds_parts := F6,
      m_kinds_parts := PySem.W.mg_of X G a6,
      b_kinds_parts := b6,
      F_ring_truth := F7,
      m_ring_truth := PySem.W.mg_of X G a7,
      b_ring_truth := b7,
      F_colorings := F8,
      m_colorings := PySem.W.mg_of X G a8,
      b_colorings := b8,
      F_ring_parts := F9,
      m_ring_parts := PySem.W.mg_of X G a9,
      b_ring_parts := b9,
      F_l_state := F10,
      m_l_state := PySem.W.mg_of X G a10,
      b_l_state := b10,
      F_l_draw := F11,
      m_l_draw := PySem.W.mg_of X G a11,
      b_l_draw := b11,
      F_l_alike := F12,
      m_l_alike := PySem.W.mg_of X G a12,
      b_l_alike := b12,
      F_l_names := F13,
      m_l_names := PySem.W.mg_of X G a13,
      b_l_names := b13,
      F_l_marks := F14,
      m_l_marks := PySem.W.mg_of X G a14,
      b_l_marks := b14,
      F_l_cells := F15,
      m_l_cells := PySem.W.mg_of X G a15,
      b_l_cells := b15,
      F_l_kinds_card := F16,
      m_l_kinds_card := PySem.W.mg_of X G a16,
      b_l_kinds_card := b16,
      F_l_order_right := F17,
      m_l_order_right := PySem.W.mg_of X G a17,
      b_l_order_right := b17,
      F_l_orders := F18,
      m_l_orders := PySem.W.mg_of X G a18,
      b_l_orders := b18,
      F_l_kinds_right := F19,
      m_l_kinds_right := PySem.W.mg_of X G a19,
      b_l_kinds_right := b19,
      F_l_parts := F20,
      m_l_parts := PySem.W.mg_of X G a20,
      b_l_parts := b20,
      F_l_holds := F21,
      m_l_holds := PySem.W.mg_of X G a21,
      b_l_holds := b21,
      F_l_all_hold := F22,
      m_l_all_hold := PySem.W.mg_of X G a22,
      b_l_all_hold := b22,
      F_l_good_parts := F23,
      m_l_good_parts := PySem.W.mg_of X G a23,
      b_l_good_parts := b23,
      F_l_kinds := F24,
      m_l_kinds := PySem.W.mg_of X G a24,
      b_l_kinds := b24,
      F_l_size := F25,
      m_l_size := PySem.W.mg_of X G a25,
      b_l_size := b25,
      F_l_drawn := F26,
      m_l_drawn := PySem.W.mg_of X G a26,
      b_l_drawn := b26,
      F_l_kind_truths := F27,
      m_l_kind_truths := PySem.W.mg_of X G a27,
      b_l_kind_truths := b27,
      F_l_turn_truths := F28,
      m_l_turn_truths := PySem.W.mg_of X G a28,
      b_l_turn_truths := b28,
      F_l_cell_right := F29,
      m_l_cell_right := PySem.W.mg_of X G a29,
      b_l_cell_right := b29,
      F_law := F30,
      m_law := PySem.W.mg_of X G a30,
      b_law := b30,
      z_all := PySem.W.mg_none_of X G z_all,
      z_bool := PySem.W.mg_none_of X G z_bool,
      z_int := PySem.W.mg_none_of X G z_int,
      z_isinstance := PySem.W.mg_none_of X G z_isinstance,
      z_len := PySem.W.mg_none_of X G z_len,
      z_list := PySem.W.mg_none_of X G z_list,
      z_max := PySem.W.mg_none_of X G z_max,
      z_range := PySem.W.mg_none_of X G z_range,
      z_set := PySem.W.mg_none_of X G z_set,
      z_sorted := PySem.W.mg_none_of X G z_sorted,
      z_str := PySem.W.mg_none_of X G z_str,
      z_sum := PySem.W.mg_none_of X G z_sum,
      z_tuple := PySem.W.mg_none_of X G z_tuple,
      m_ENDLESS := ⟨_, PySem.W.mg_of X G g_ENDLESS⟩ }
  exact ⟨_, fun s v => .of_eq rfl, fun base _ _ => ok_law (a := ad) T⟩
end
end K21
open PySem PySem.W PyProof.Rows
set_option maxHeartbeats 0 in
theorem PySem.Challenge.cw_onelooker_k21_kinds_and_ring_parts_holds : PySem.Challenge.rw_onelooker_k21_kinds_and_ring_parts.Holds := by
  w_on; o_law; k_head; (case hw => w_witness2)
  k_fill
  refine L2.walk_of (l := PySem.Challenge.rw_onelooker_k21_kinds_and_ring_parts) (n := 63) (k := 33) (x := "_law_script") (CX := fun _ => L2.CX0) (sp := fun w => K21.spLaw _) rfl (by decide) rfl ⟨rfl, by decide, by decide⟩ (fun w h Y => PySem.W.kIn_of Y) ?F (fun _ _ a ns hl _ hS => ⟨a, ns, rfl, hS, fun _ => rfl⟩) (fun _ _ _ _ _ h => h)
  case F =>
    intro w mg fa h KX G hmg
    refine' K21.all_mk KX G hmg ?a1 ?l1 ?c1 ?k1 ?a2 ?l2 ?c2 ?k2 ?a3 ?l3 ?c3 ?k3 ?a4 ?l4 ?c4 ?k4 ?a5 ?l5 ?c5 ?k5 ?a6 ?l6 ?c6 ?k6 ?a7 ?l7 ?c7 ?k7 ?a8 ?l8 ?c8 ?k8 ?a9 ?l9 ?c9 ?k9 ?a10 ?l10 ?c10 ?k10 ?a11 ?l11 ?c11 ?k11 ?a12 ?l12 ?c12 ?k12 ?a13 ?l13 ?c13 ?k13 ?a14 ?l14 ?c14 ?k14 ?a15 ?l15 ?c15 ?k15 ?a16 ?l16 ?c16 ?k16 ?a17 ?l17 ?c17 ?k17 ?a18 ?l18 ?c18 ?k18 ?a19 ?l19 ?c19 ?k19 ?a20 ?l20 ?c20 ?k20 ?a21 ?l21 ?c21 ?k21 ?a22 ?l22 ?c22 ?k22 ?a23 ?l23 ?c23 ?k23 ?a24 ?l24 ?c24 ?k24 ?a25 ?l25 ?c25 ?k25 ?a26 ?l26 ?c26 ?k26 ?a27 ?l27 ?c27 ?k27 ?a28 ?l28 ?c28 ?k28 ?a29 ?l29 ?c29 ?k29 ?a30 ?l30 ?c30 ?k30 ?z_all ?z_bool ?z_int ?z_isinstance ?z_len ?z_list ?z_max ?z_range ?z_set ?z_sorted ?z_str ?z_sum ?z_tuple ?g_ENDLESS
    (case a1 => k_is)
    (case l1 => k_is)
    (case c1 => k_is)
    (case k1 => k_is)
    (case a2 => k_is)
    (case l2 => k_is)
    (case c2 => k_is)
    (case k2 => k_is)
    (case a3 => k_is)
    (case l3 => k_is)
    (case c3 => k_is)
    (case k3 => k_is)
    (case a4 => k_is)
    (case l4 => k_is)
    (case c4 => k_is)
    (case k4 => k_is)
    (case a5 => k_is)
    (case l5 => k_is)
    (case c5 => k_is)
    (case k5 => k_is)
    (case a6 => k_is)
    (case l6 => k_is)
    (case c6 => k_is)
    (case k6 => k_is)
    (case a7 => k_is)
    (case l7 => k_is)
    (case c7 => k_is)
    (case k7 => k_is)
    (case a8 => k_is)
    (case l8 => k_is)
    (case c8 => k_is)
    (case k8 => k_is)
    (case a9 => k_is)
    (case l9 => k_is)
    (case c9 => k_is)
    (case k9 => k_is)
    (case a10 => k_is)
    (case l10 => k_is)
    (case c10 => k_is)
    (case k10 => k_is)
    (case a11 => k_is)
    (case l11 => k_is)
    (case c11 => k_is)
    (case k11 => k_is)
    (case a12 => k_is)
    (case l12 => k_is)
    (case c12 => k_is)
    (case k12 => k_is)
    (case a13 => k_is)
    (case l13 => k_is)
    (case c13 => k_is)
    (case k13 => k_is)
    (case a14 => k_is)
    (case l14 => k_is)
    (case c14 => k_is)
    (case k14 => k_is)
    (case a15 => k_is)
    (case l15 => k_is)
    (case c15 => k_is)
    (case k15 => k_is)
    (case a16 => k_is)
    (case l16 => k_is)
    (case c16 => k_is)
    (case k16 => k_is)
    (case a17 => k_is)
    (case l17 => k_is)
    (case c17 => k_is)
    (case k17 => k_is)
    (case a18 => k_is)
    (case l18 => k_is)
    (case c18 => k_is)
    (case k18 => k_is)
    (case a19 => k_is)
    (case l19 => k_is)
    (case c19 => k_is)
    (case k19 => k_is)
    (case a20 => k_is)
    (case l20 => k_is)
    (case c20 => k_is)
    (case k20 => k_is)
    (case a21 => k_is)
    (case l21 => k_is)
    (case c21 => k_is)
    (case k21 => k_is)
    (case a22 => k_is)
    (case l22 => k_is)
    (case c22 => k_is)
    (case k22 => k_is)
    (case a23 => k_is)
    (case l23 => k_is)
    (case c23 => k_is)
    (case k23 => k_is)
    (case a24 => k_is)
    (case l24 => k_is)
    (case c24 => k_is)
    (case k24 => k_is)
    (case a25 => k_is)
    (case l25 => k_is)
    (case c25 => k_is)
    (case k25 => k_is)
    (case a26 => k_is)
    (case l26 => k_is)
    (case c26 => k_is)
    (case k26 => k_is)
    (case a27 => k_is)
    (case l27 => k_is)
    (case c27 => k_is)
    (case k27 => k_is)
    (case a28 => k_is)
    (case l28 => k_is)
    (case c28 => k_is)
    (case k28 => k_is)
    (case a29 => k_is)
    (case l29 => k_is)
    (case c29 => k_is)
    (case k29 => k_is)
    (case a30 => k_is)
    (case l30 => k_is)
    (case c30 => k_is)
    (case k30 => k_is)
    (case z_all => k_is)
    (case z_bool => k_is)
    (case z_int => k_is)
    (case z_isinstance => k_is)
    (case z_len => k_is)
    (case z_list => k_is)
    (case z_max => k_is)
    (case z_range => k_is)
    (case z_set => k_is)
    (case z_sorted => k_is)
    (case z_str => k_is)
    (case z_sum => k_is)
    (case z_tuple => k_is)
    (case g_ENDLESS => k_is)

