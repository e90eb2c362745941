import PyProof.Rows.All
import Wide.All
import OpenK.AllK
import Wide.FinOn
import HandS.ForMost
import HandS.SortKw
import HandS.TupAny
import KE.SortData
import KE.DatumOrd
import HandS.DictComp
import HandS.Conv
import HandS.Walk
import HandS.Star
import HandS.Zip
import HandS.TupSets
import HandS.SetFor
import HandS.ExcIs
import HandS.ExcField
import KE.KExcIs
import KE.GoesEnum
import KE.GoesMore
import KE.KDictZip
import HandS.Wide
import HandS.Style
import KE.KRevSl
import HandS.ClsMeth
import OpenK.KOps
import OpenK.KMeth
import HandS.Codes
import HandS.Words
import HandS.IterNext
import HandS.OwnIter
import PyProof.WalksMore
import PyProof.CollectWalk
import HandS.DictTup
import KE.KDictItemsList
import KE.KDictKeyed
import KE.KeyNested
import KE.KDictPairs
import KE.KDictCopyH
import HandS.Deep
import KE.KEqDict
import PyProof.NeData
import KE.KDictLaw
import HandS.CallSlots
import HandS.Defaults
import HandS.Iter
import KE.KDictWalk
import PyProof.InstEq
import HandS.SlotsOwn
import HandS.ExcInit
import HandS.Steps
import HandS.IsInst
import HandS.TryOnly
import HandS.Exc
import HandS.ExcOwn
import HandS.WordsExc
import HandS.Replace
import HandS.Property
import PySem.Challenge.RW_onelooker_k28_sums_of_certificates
set_option Elab.async false
set_option linter.all false
set_option maxRecDepth 100000
set_option maxHeartbeats 4000000
namespace R0
open PySem PySem.Spec PyProof.Rows L2
/-! ### sorted(xs), the items any data: the one stable order -/
def sortV (xs : List V) (ds : List PyData) : List V := ((xs.zip ds).mergeSort (PySem.W.dataLe false Prod.snd)).map Prod.fst
def DepLe (n : Nat) (ds : List PyData) : Prop := ∀ d ∈ ds, d.depth ≤ n
theorem dpAll_len {K : PySem.W.Frag} {H : Hp} : ∀ {xs : List V} {ds : List PyData}, DpAll K H xs ds → xs.length = ds.length
  | _, _, .nil => rfl
  | _, _, .cons _ t => congrArg Nat.succ (dpAll_len t)
section
variable {X : Cx} {pins : List (Addr × Obj)} {σ : L2.St} {H : Hp} {s : Shared}
theorem each_rel : ∀ {xs : List V} {its : List Value} {ds : List PyData}, Vals xs its → DpAll X.K H xs ds → PySem.W.EachIs (fun (v : Value) (b : V × PyData) => RelV b.1 v) its (xs.zip ds)
  | _, _, _, .nil, .nil => .nil
  | _, _, _, .cons r t, .cons _ d => .cons r (each_rel t d)
theorem each_reads (I : Inv X pins σ H s) : ∀ {xs : List V} {its : List Value} {ds : List PyData}, Vals xs its → DpAll X.K H xs ds → PySem.W.EachIs (fun (v : Value) (b : V × PyData) => ∃ as, Reads s.heap v b.2 as) its (xs.zip ds)
  | _, _, _, .nil, .nil => .nil
  | _, _, _, .cons r t, .cons h d => .cons (Dp.reads I _ _ _ h r) (each_reads I t d)
theorem each_vals : ∀ {out : List Value} {bs : List (V × PyData)}, PySem.W.EachIs (fun (v : Value) (b : V × PyData) => RelV b.1 v) out bs → Vals (bs.map Prod.fst) out
  | _, _, .nil => .nil
  | _, _, .cons r t => .cons r (each_vals t)
theorem zip_snd : ∀ {xs : List V} {ds : List PyData}, xs.length = ds.length → (xs.zip ds).map Prod.snd = ds
  | [], [], _ => rfl
  | x :: xs, d :: ds, h => congrArg (d :: ·) (zip_snd (Nat.succ.inj h))
def rSortD (K : PySem.W.Frag) : List V → Hp → VK → Prop := fun vs H Q => ∃ (a : Addr) (xs : List V) (ds : List PyData), vs = [.ref a] ∧ SqL K H a xs ∧ DpAll K H xs ds ∧ PySem.W.AllAlike ds ∧ PySem.W.Sortable ds ∧ DepLe 60 ds ∧
  ∀ p, H p = none → Q (.ref p) (upd H p (.lst (sortV xs ds)))
theorem cr_sortD (hu : X.A.units + 64 < cLine) : CallR X (.builtin "sorted") (rSortD X.K) := by
  intro pins s σ H vs us Q I r h
  obtain ⟨a, xs, ds, rfl, hs, hd, hal, hk, hdep, q⟩ := h
  obtain ⟨its, rv, pl, hz⟩ := I.list hs
  obtain ⟨u, rfl, ru⟩ := vals1 r
  obtain rfl : u = Value.ref a := ru
  have el := dpAll_len hd
  have em := zip_snd el
  have ln : (xs.zip ds).length = xs.length := by rw [List.length_zip, ← el, Nat.min_self]
  have lt : its.length = xs.length := rv.length.symm
  refine PySem.W.sorted_data (β := V × PyData) (enc := Prod.snd) (bs := xs.zip ds) (vs := its) (R := fun v b => RelV b.1 v) pl.isList (each_rel rv hd) (each_reads I rv hd) (by rw [em]; exact hal) (by rw [em]; exact hk) (by rw [ln]; exact hz) (fun b hb => ?_) fun out ho hE => ?_
  · have : b.2.depth ≤ 60 := hdep _ (by rw [← em]; exact List.mem_map.mpr ⟨b, hb, rfl⟩)
    omega
  · obtain ⟨e, he⟩ := PyProof.Rows.sortedAll_at s.heap its (List.toArray out)
    have hv := each_vals hE
    refine ⟨.ref (s.heap.objs.size + 1), upd H (s.heap.objs.size + 1) (.lst (sortV xs ds)), I.laid (t' := s.toks) (fun b o z => PyProof.Rows.sortedAll_old z) (Nat.le_succ _) ⟨?_, out, e, hv, he⟩, rfl, q _ (I.hok.fresh (Nat.le_succ _))⟩
    unfold sortV
    rw [List.length_map, List.length_mergeSort, ln]
    exact hz
/-! ### max(t, default=d), t a tuple or a list of ints -/
def maxL (d : Int) : List Int → Int
  | [] => d
  | x :: r => r.foldl (fun a y => if a < y then y else a) x
theorem maxOf_int (x : Int) (r : List Int) : PySem.W.maxOf x r = maxL 0 (x :: r) := by
  unfold PySem.W.maxOf maxL
  congr 1
  funext a y
  by_cases h : a < y
  · rw [if_pos h, if_pos (show PySem.W.DatumOrd.lt a y = true from decide_eq_true h)]
  · rw [if_neg h, if_neg (fun z : PySem.W.DatumOrd.lt a y = true => h (of_decide_eq_true z))]
theorem hold_ints {h : Heap} : ∀ {ns : List Int} {us : List Value}, Vals (ns.map V.int) us → PySem.W.HoldAll h us ns
  | [], _, .nil => ⟨_, .nil⟩
  | n :: ns, _, .cons r t => by
    obtain ⟨k, rfl⟩ := r
    obtain ⟨as, q⟩ := hold_ints t
    exact ⟨_, .cons (.int n k) q⟩
def rMaxD (K : PySem.W.Frag) : List V → List V → Hp → VK → Prop := fun vs zs H Q => ∃ (a : Addr) (ns : List Int) (d : Int), vs = [.ref a] ∧ zs = [.int d] ∧ (SqT K H a (ns.map V.int) ∨ SqL K H a (ns.map V.int)) ∧ Q (.int (maxL d ns)) H
theorem ck_maxD (hc : X.calm = true) (hu : X.A.units + 64 < cLine) : CallRK X (.builtin "max") ["default"] (rMaxD X.K) := by
  intro pins s σ H xs zs us ws Q I r rz h
  obtain ⟨a, ns, d, rfl, rfl, hs, q⟩ := h
  obtain ⟨u, rfl, ru⟩ := vals1 r
  obtain rfl : u = Value.ref a := ru
  obtain ⟨w1, rfl, rw1⟩ := vals1 rz
  have fin : ∀ (i : Nat) (v : Value) (h' : Heap) (tk : Nat) (y : Int) (ys : List Int), ns = y :: ys → PySem.W.Holds h' v (PySem.W.maxOf y ys) → (∀ b o, s.heap.get? b = some o → h'.get? b = some o) → EP X pins σ Q v { s with heap := h', toks := tk } := fun i v h' tk y ys e hv k => by
    obtain ⟨as, hv⟩ := hv
    subst e
    have hv' : Reads h' v (.int (PySem.W.maxOf y ys)) as := hv
    cases hv'
    refine ⟨.int (PySem.W.maxOf y ys), H, I.kept k, ⟨_, rfl⟩, ?_⟩
    rw [maxOf_int]
    exact q
  have fin0 : ns = [] → ∀ (h' : Heap) (tk : Nat), (∀ b o, s.heap.get? b = some o → h'.get? b = some o) → EP X pins σ Q w1 { s with heap := h', toks := tk } := fun e h' tk k => by
    subst e
    exact ⟨.int d, H, I.kept k, rw1, q⟩
  rcases hs with hs | hs
  · obtain ⟨its, rv, ht, hz⟩ := I.tuple hs
    refine PySem.W.max_tuple_datum_default (xs := ns) (vs := its.toArray) (I.ok.hd hc) ht ?_ ?_ fin0 fun y ys i v h' tk e _ hv k => fin i v h' tk y ys e hv k
    · simpa using hold_ints (h := s.heap) rv
    · show X.A.units + 1 + 0 < cLine
      omega
  · obtain ⟨its, rv, pl, hz⟩ := I.list hs
    refine PySem.W.max_list_datum_default (xs := ns) (vs := its.toArray) (I.ok.hd hc) pl.isList ?_ ?_ fin0 fun y ys i v h' tk e _ hv k => fin i v h' tk y ys e hv k
    · simpa using hold_ints (h := s.heap) rv
    · show X.A.units + 1 + 0 < cLine
      omega
end
end R0

/-! a dict comprehension whose keys are tuples of ints and texts -/
namespace R1
open PySem PySem.Spec PyProof.Rows L2
/-- one entry more, the key a tracked tuple -/
theorem tput {X : Cx} {pn : List (Addr × Obj)} {τ : L2.St} {G : Hp} {s : Shared} {E : Value → Shared → Prop} {D b : Addr} {es : List (List Key × V)} {k : List Key} {z : V} {r : Value} {Q : Unit → Shared → Prop} (hu : X.A.units + 1 < cLine) (J : Inv X pn τ G s)
    (gD : G D = some (.dT es)) (gb : G b = some (.tup (k.map kV))) (hn : es.length < sizeLine) (rz : RelV z r) (q : ∀ s', Inv X pn τ (upd G D (.dT (putK es k z))) s' → Q () s') : wpAny (model X.prog X.w) X.A (dictSet D (.ref b) r) Q E s := by
  obtain ⟨e1, e2, ks, rk, dd⟩ := dt_of J.hok gD
  have f1 : ks.length ≤ sizeLine := Paired.length rk ▸ e1
  have f2 := length_putK es k z
  refine wpAny_dictSet_heap (hsz := f1) (Nat.lt_of_succ_lt hu) (key_of J.hok gb) dd fun g' dg sb => q _ ?_
  obtain ⟨w0, w1, w2, a0, a1, a2, a3, _, a4⟩ := dg
  have kt := (rk.put k gb rz).keeps (H' := upd G D (.dT (putK es k z))) fun c ys ec => by
    rw [upd_ne (ne_of ec gD (fun y => nomatch y))]
    exact ec
  exact d_write J (by rw [gD]; trivial) sb ⟨w0, a0⟩ ⟨by omega, e2, _, kt, w0, w1, w2, a0, a1, a2, a3, a4⟩
/-- the reading of {k: v for target in iter if ..} with such keys -/
def tDcT (src : TI) (g : TG) (tt : TT) (tk tv : TE) (own : List Nat) : TE := fun σ H Q => src σ H fun J G => ∀ D, G D = none → ∃ W : Nat → Nat → Hp → Prop, (∃ m, W 0 m (upd G D (.dT []))) ∧ ∀ i m F, W i m F →
  (J.stop i F ∧ Q (.ref D) F) ∨ (J.go i F ∧ ∃ Nx : Hp → Prop, (∀ F', Nx F' → ∃ m', m' < m ∧ W (i + 1) m' F') ∧ ∀ x F', J.yld i F x F' → g x (wipe σ own) F' fun τ F2 => wipe τ own = wipe σ own ∧ tt τ F2 fun c F3 =>
    if c = true then tk τ F3 fun y F4 => tv τ F4 fun z F5 => ∃ es k b, y = .ref b ∧ F5 b = some (.tup (k.map kV)) ∧ F5 D = some (.dT es) ∧ es.length < sizeLine ∧ Nx (upd F5 D (.dT (putK es k z))) else Nx F3)
section
variable {X : Cx} {kx vx tg iter : Expr} {ifs : List Expr} {scope : Scope} {own : List (Str × Nat)} {pos : Pos} {src : TI} {g : TG} {tt : TT} {tk tv : TE}
theorem dcT_core {pins : List (Addr × Obj)} {s : Shared} {σ : L2.St} {H : Hp} {Q : VK} {pos' : Pos} {use : Option (Value → Sem Unit)} {Qf : Value → Shared → Prop} (I : Inv X pins σ H s)
    (hu : X.A.units + 64 < cLine) (hc : X.calm = true) (hN : X.N.Nodup) (hi : PI X tg iter src) (ok : BlkOk X.N X.env.scope scope own)
    (hg : ∀ (s : Shared) (G : Hp) (C : Addr) (cl : List (Str × Addr)) (fp : List Addr), PG (X.blk s G scope (compEnvC scope cl C X.env) fp) tg g)
    (ht : ∀ (s : Shared) (G : Hp) (C : Addr) (cl : List (Str × Addr)) (fp : List Addr), PTs (X.blk s G scope (compEnvC scope cl C X.env) fp) ifs tt)
    (hk : ∀ (s : Shared) (G : Hp) (C : Addr) (cl : List (Str × Addr)) (fp : List Addr), PE (X.blk s G scope (compEnvC scope cl C X.env) fp) kx tk)
    (hv : ∀ (s : Shared) (G : Hp) (C : Addr) (cl : List (Str × Addr)) (fp : List Addr), PE (X.blk s G scope (compEnvC scope cl C X.env) fp) vx tv)
    (hs : ∀ x, foldedSetIterable iter X.env x = pure x) (h : tDcT src g tt tk tv (own.map (·.2)) σ H Q)
    (hR : ∀ D C s' m F, Inv X pins σ F s' → Q (.ref D) F → s'.heap.Ns C m → FpOk X pins F C → compPost (model X.prog X.w) X.A X.xe use Qf (.ref D) C (.ok .next) s') :
    wpAny (model X.prog X.w) X.A (comprehension (.DictComp kx vx [⟨tg, iter, ifs, 0⟩] scope pos) scope X.env pos' newDict false (eval iter X.env) use) Qf X.xe s := by
  have fr : ∀ y ∈ scope.names, y.2 = .free → ∃ c, X.env.cells.lookup y.1 = some c := fun y hy e => (ok.free y hy e).elim (fun z => I.ok.has _ (.inl z)) fun z => I.ok.has _ (.inr z)
  refine wpAny_comprehension_free (use := use) rfl hs (closure_ok fr) ok.kind (fun y hy e => by rw [ok.uniq y hy, e]) (thn (hi.run pins s σ H _ I h) fun xv s1 hx => thn hx fun iv s2 a2 => ?_)
  obtain ⟨it, fp, tn, J, G, rfl, K2, T, t2, p2, q⟩ := a2
  refine wpAny_newObj_type (newEnv_comp ?_)
  obtain ⟨W, ⟨m0, w0⟩, turn⟩ := q s2.heap.objs.size (K2.hok.fresh (Nat.le_refl _))
  generalize eD : s2.heap.objs.size = D at w0 turn
  have nD : G D = none := K2.hok.fresh (Nat.le_of_eq eD)
  -- the new dict
  generalize e3 : ({ s2 with heap := s2.heap.push { cls := .type "dict", data := .dict #[] } } : Shared) = s3
  have K3 : Inv X pins σ (upd G D (.dT [])) s3 := by
    subst e3
    refine K2.laid (t' := s2.toks) (fun b o z => Heap.get?_push_of_some _ z) (Nat.le_of_eq eD) ?_
    subst eD
    exact dt_empty s2.heap K2.big
  have z3 : s3.heap = s2.heap.push { cls := .type "dict", data := .dict #[] } := by subst e3; rfl
  have p3 : ∀ b ∈ fp, FpOk X pins (upd G D (.dT [])) b ∧ b < s3.heap.objs.size := fun b hb => by
    obtain ⟨o, y, _⟩ := T.obj _ _ t2 b hb
    have lt : b < s2.heap.objs.size := Heap.lt_size y
    refine ⟨⟨?_, (p2 b hb).2⟩, by rw [z3, Heap.size_push]; exact Nat.lt_succ_of_lt lt⟩
    rw [upd_ne (by rw [← eD]; exact Nat.ne_of_lt lt)]
    exact (p2 b hb).1
  have t3 : tn 0 s3.heap := T.keep _ _ _ t2 fun b _ o y => by rw [z3]; exact Heap.get?_push_of_some _ y
  have K4 := block_start K3 ok hN p3
  have qg := hg s3 (upd G D (.dT [])) s3.heap.objs.size (cellsFrom (s3.heap.objs.size + 1) scope.names (cloFrom X.env.cells scope.names [])) fp
  have qt := ht s3 (upd G D (.dT [])) s3.heap.objs.size (cellsFrom (s3.heap.objs.size + 1) scope.names (cloFrom X.env.cells scope.names [])) fp
  have qk := hk s3 (upd G D (.dT [])) s3.heap.objs.size (cellsFrom (s3.heap.objs.size + 1) scope.names (cloFrom X.env.cells scope.names [])) fp
  have qv := hv s3 (upd G D (.dT [])) s3.heap.objs.size (cellsFrom (s3.heap.objs.size + 1) scope.names (cloFrom X.env.cells scope.names [])) fp
  have np : ∀ b ∈ fp, (upd G D (.dT [])) b = none := fun b hb => (p3 b hb).1.1
  show codeAny _ _ (.compStart (.DictComp kx vx [⟨tg, iter, ifs, 0⟩] scope pos) 0 (.ref it) (.ref D) (compEnvC scope (cellsFrom (s3.heap.objs.size + 1) scope.names (cloFrom X.env.cells scope.names [])) s3.heap.objs.size X.env)) (compPost (model X.prog X.w) X.A X.xe use _ (.ref D) s3.heap.objs.size) { s3 with heap := pushCells (s3.heap.push { cls := .type "dict", data := .dict #[] }) scope.names }
  generalize ec : compEnvC scope (cellsFrom (s3.heap.objs.size + 1) scope.names (cloFrom X.env.cells scope.names [])) s3.heap.objs.size X.env = ce at K4 qg qt qk qv ⊢
  have eL : ce.locals = s3.heap.objs.size := by subst ec; rfl
  generalize eG : upd G D (.dT []) = G3 at K3 K4 qg qt qk qv w0 np p3
  generalize e4 : ({ s3 with heap := pushCells (s3.heap.push { cls := .type "dict", data := .dict #[] }) scope.names } : Shared) = s4 at K4 ⊢
  have t4 : tn 0 s4.heap := T.keep _ _ _ t3 fun b _ o y => by subst e4; exact pushCells_keeps _ _ _ _ (Heap.get?_push_of_some _ y)
  have still : ∀ {τ : L2.St} {F : Hp} {s' : Shared}, Inv (X.blk s3 G3 scope ce fp) [] τ F s' → (∀ b ∈ fp, F b = none) → ∀ b ∈ fp, FpOk (X.blk s3 G3 scope ce fp) [] F b := fun {τ F s'} L n b hb =>
    ⟨n b hb, (L.ok.exf b hb).1, L.ok.exfs b hb, .inl hb, fun x c y => (L.ok.exf b hb).2 x c y, fun p hp => absurd (show p ∈ ([] : List (Addr × Obj)) ++ [] from hp) (by simp)⟩
  have go : codeAny (model X.prog X.w) X.A (.compLoop (.DictComp kx vx [⟨tg, iter, ifs, 0⟩] scope pos) 0 (.ref it) (.ref D) ce) (compPost (model X.prog X.w) X.A X.xe use Qf (.ref D) s3.heap.objs.size) s4 := by
    refine compLoop_anyD (fun n s' => ∃ i F, Inv (X.blk s3 G3 scope ce fp) [] (wipe σ (own.map (·.2))) F s' ∧ tn i s'.heap ∧ (∀ b ∈ fp, F b = none) ∧ W i n F) ?_ m0 ⟨0, G3, K4, t4, np, w0⟩
    rintro n s5 ⟨i, F, L, t5, n5, w5⟩
    rcases turn i n F w5 with ⟨stop, qq⟩ | ⟨hgo, Nx, hNx, step⟩
    · refine thnF (T.done (X.blk s3 G3 scope ce fp) rfl rfl rfl hc i [] s5 _ F (fun _ _ => False) L (still L n5) t5 stop) fun r s6 ⟨hr, L6⟩ => ?_
      subst hr
      have M : Inv X pins σ F s6 := K3.call' (ch := fp) L6.os L6.base L6.hok L6.bare fun b hb => ⟨(p3 b hb).1.2.2.2.1, (p3 b hb).1.2.1, (p3 b hb).1.2.2.2.2.1, (p3 b hb).1.2.2.2.2.2⟩
      have nC : F s3.heap.objs.size = none := eL ▸ L6.free
      obtain ⟨m, hn, _⟩ := L6.loc
      have hn' : s6.heap.Ns ce.locals m := hn
      rw [eL] at hn'
      exact hR D s3.heap.objs.size s6 m F M qq hn' (K3.fpOk (Nat.le_refl _) nC)
    · refine thnF (T.item (X.blk s3 G3 scope ce fp) rfl rfl rfl hc i [] s5 _ F (fun _ _ => False) L (still L n5) t5 hgo) fun r s6 ⟨u, hr, h6⟩ => ?_
      subst hr
      refine thnF h6 fun _ s7 ⟨x, F7, L7, r7, y7, t7, n7⟩ => ?_
      have L7' := L7.pinned (still L7 n7) (T.obj _ _ t7)
      refine thnF (qg.run _ s7 _ F7 x u _ L7' r7 (step x F7 y7)) fun _ s8 ⟨τ, F8, L8, hw, q8⟩ => ?_
      refine thnF (qt.run _ s8 τ F8 _ L8 q8) fun c s9 ⟨F9, L9, q9⟩ => ?_
      have fin : ∀ {s' : Shared} {F' : Hp}, Inv (X.blk s3 G3 scope ce fp) ([] ++ pinsAt fp s7.heap) τ F' s' → Nx F' → ∃ m, m < n ∧ ∃ i F', Inv (X.blk s3 G3 scope ce fp) [] (wipe σ (own.map (·.2))) F' s' ∧ tn i s'.heap ∧ (∀ b ∈ fp, F' b = none) ∧ W i m F' := fun {s' F'} L' nx => by
        obtain ⟨m', hm, w'⟩ := hNx F' nx
        have pin : ∀ b ∈ fp, ∀ o, s7.heap.get? b = some o → s'.heap.get? b = some o ∧ F' b = none := fun b hb o y =>
          have z := L'.pin (b, o) (List.mem_append_right _ (List.mem_append_right _ (mem_pinsAt hb y)))
          ⟨z.1, z.2.1⟩
        refine ⟨m', hm, i + 1, F', (L'.unpinned (pins := [])).weak (by rw [← hw, wipe_length]) (fun j v y => ?_), T.keep _ _ _ t7 fun b hb o y => (pin b hb o y).1, fun b hb => ?_, w'⟩
        · rw [← hw] at y
          exact (wipe_some y).1
        · obtain ⟨o, y, _⟩ := T.obj _ _ t7 b hb
          exact (pin b hb o y).2
      cases c with
      | false =>
        simp only [Bool.false_eq_true, if_false] at q9 ⊢
        exact fin L9 q9
      | true =>
        simp only [if_true] at q9 ⊢
        refine thnF (qk.run _ s9 τ F9 _ L9 q9) fun a1 s10 ⟨yk, F10, L10, r10, q10⟩ => ?_
        refine thnF (qv.run _ s10 τ F10 _ L10 q10) fun a2 s11 ⟨yv, F11, L11, r11, es, k, b, ek, hb, hD, hz, nx⟩ => ?_
        subst ek
        cases (show a1 = Value.ref b from r10)
        exact tput (X := X.blk s3 G3 scope ce fp) (by show X.A.units + 1 < cLine; omega) L11 hD hb hz r11 fun s12 L12 => fin L12 nx
  exact codeAny_compStart_dict go (T.self X.A 0 _ _ _ t4 go)
theorem pe_dcT (hu : X.A.units + 64 < cLine) (hc : X.calm = true) (hN : X.N.Nodup) (hi : PI X tg iter src) (ok : BlkOk X.N X.env.scope scope own)
    (hg : ∀ (s : Shared) (G : Hp) (C : Addr) (cl : List (Str × Addr)) (fp : List Addr), PG (X.blk s G scope (compEnvC scope cl C X.env) fp) tg g)
    (ht : ∀ (s : Shared) (G : Hp) (C : Addr) (cl : List (Str × Addr)) (fp : List Addr), PTs (X.blk s G scope (compEnvC scope cl C X.env) fp) ifs tt)
    (hk : ∀ (s : Shared) (G : Hp) (C : Addr) (cl : List (Str × Addr)) (fp : List Addr), PE (X.blk s G scope (compEnvC scope cl C X.env) fp) kx tk)
    (hv : ∀ (s : Shared) (G : Hp) (C : Addr) (cl : List (Str × Addr)) (fp : List Addr), PE (X.blk s G scope (compEnvC scope cl C X.env) fp) vx tv)
    (hs : ∀ x, foldedSetIterable iter X.env x = pure x := by intro _; rfl) : PE X (.DictComp kx vx [⟨tg, iter, ifs, 0⟩] scope pos) (tDcT src g tt tk tv (own.map (·.2))) := by
  refine ⟨fun pins s σ H Q I h => ?_⟩
  rw [arm_eval_DictComp]
  refine dcT_core I hu hc hN hi ok hg ht hk hv hs h fun D C s' m F J q hn f => ⟨m, hn, fun h'' sb => ?_⟩
  obtain ⟨y0, y1, y2, y3, y4, y5⟩ := f
  exact ⟨.ref D, F, J.turned (t' := s'.toks) (fun b o hb z => (sb.2 b hb).trans z) y0 y1 y3 y4 y5, rfl, q⟩
/-- what is stored behind a comprehension's frame -/
theorem dc_store {pins : List (Addr × Obj)} {σ : L2.St} {F : Hp} {s' : Shared} {i : Nat} {y : Str} {py : Pos} {D C : Addr} {m : Str → Option Value} {Ds : Ends} (hN : X.N.Nodup) (hy : X.N[i]? = some y) (hl : X.env.scope.names.lookup y = some .local) (J : Inv X pins σ F s')
    (q : gName i (.ref D) σ F Ds.nx) (hn : s'.heap.Ns C m) (f : FpOk X pins F C) :
    compPost (model X.prog X.w) X.A X.xe (some (assign (.Name y py) X.env)) (fun _ s'' => SP X pins Ds .next s'') (.ref D) C (.ok .next) s' := by
  show wpAny _ _ (assign (.Name y py) X.env (.ref D)) _ _ _
  refine wpAny_assign_Name (store_ok2 (v := V.ref D) J hN hy (.inl hl) rfl (fun s2 J2 ⟨a, sb, ha⟩ => ?_) (.inr hl))
  obtain ⟨y0, y1, y2, y3, y4, y5⟩ := f
  have ne : C ≠ a := by
    rcases ha with z | z
    · rw [z]; exact y1
    · exact fun e => y4 y a z e.symm
  exact ⟨m, hn.sameBut sb ne, fun h3 sb3 => ⟨_, F, J2.turned (t' := s2.toks) (fun b o hb z => (sb3.2 b hb).trans z) y0 y1 y3 y4 y5, q⟩⟩
theorem ps_setDcT {i : Nat} {y : Str} {py spos : Pos} (hy : X.N[i]? = some y) (hl : X.env.scope.names.lookup y = some .local) (hsw : swapsWith (.DictComp kx vx [⟨tg, iter, ifs, 0⟩] scope pos) (some (.Name y py)) spos.line X.env = pure true)
    (hu : X.A.units + 64 < cLine) (hc : X.calm = true) (hN : X.N.Nodup) (hi : PI X tg iter src) (ok : BlkOk X.N X.env.scope scope own)
    (hg : ∀ (s : Shared) (G : Hp) (C : Addr) (cl : List (Str × Addr)) (fp : List Addr), PG (X.blk s G scope (compEnvC scope cl C X.env) fp) tg g)
    (ht : ∀ (s : Shared) (G : Hp) (C : Addr) (cl : List (Str × Addr)) (fp : List Addr), PTs (X.blk s G scope (compEnvC scope cl C X.env) fp) ifs tt)
    (hk : ∀ (s : Shared) (G : Hp) (C : Addr) (cl : List (Str × Addr)) (fp : List Addr), PE (X.blk s G scope (compEnvC scope cl C X.env) fp) kx tk)
    (hv : ∀ (s : Shared) (G : Hp) (C : Addr) (cl : List (Str × Addr)) (fp : List Addr), PE (X.blk s G scope (compEnvC scope cl C X.env) fp) vx tv)
    (hs : ∀ x, foldedSetIterable iter X.env x = pure x := by intro _; rfl) : PS X (.Assign [.Name y py] (.DictComp kx vx [⟨tg, iter, ifs, 0⟩] scope pos) spos) (tAsg (tDcT src g tt tk tv (own.map (·.2))) (gName i)) := by
  refine ⟨fun pins s σ H Ds I h => ?_⟩
  rw [exec_Assign_Name_used _ _ _ _ hsw]
  refine wpAny_bind (wpAny_standAt (wpAny_bind ?_))
  show wpAny _ X.A (do let _ ← comprehension (.DictComp kx vx [⟨tg, iter, ifs, 0⟩] scope pos) scope X.env (firstIterPos [⟨tg, iter, ifs, 0⟩] pos) newDict false (eval iter X.env) (some (assign (.Name y py) X.env))) _ _ s
  have h' : tDcT src g tt tk tv (own.map (·.2)) σ H (fun x G => gName i x σ G Ds.nx) := h
  exact wpAny_bind (thn (dcT_core (Qf := fun _ s' => SP X pins Ds .next s') I hu hc hN hi ok hg ht hk hv hs h' fun D C s' m F J q hn f => dc_store hN hy hl J q hn f) fun _ s' hq => wpAny_pure (wpAny_pure hq))
theorem ps_setDcK {i : Nat} {y : Str} {py spos : Pos} (hy : X.N[i]? = some y) (hl : X.env.scope.names.lookup y = some .local) (hsw : swapsWith (.DictComp kx vx [⟨tg, iter, ifs, 0⟩] scope pos) (some (.Name y py)) spos.line X.env = pure true)
    (hc : X.calm = true) (hN : X.N.Nodup) (hi : PI X tg iter src) (ok : BlkOk X.N X.env.scope scope own)
    (hg : ∀ (s : Shared) (G : Hp) (C : Addr) (cl : List (Str × Addr)) (fp : List Addr), PG (X.blk s G scope (compEnvC scope cl C X.env) fp) tg g)
    (ht : ∀ (s : Shared) (G : Hp) (C : Addr) (cl : List (Str × Addr)) (fp : List Addr), PTs (X.blk s G scope (compEnvC scope cl C X.env) fp) ifs tt)
    (hk : ∀ (s : Shared) (G : Hp) (C : Addr) (cl : List (Str × Addr)) (fp : List Addr), PE (X.blk s G scope (compEnvC scope cl C X.env) fp) kx tk)
    (hv : ∀ (s : Shared) (G : Hp) (C : Addr) (cl : List (Str × Addr)) (fp : List Addr), PE (X.blk s G scope (compEnvC scope cl C X.env) fp) vx tv)
    (hs : ∀ x, foldedSetIterable iter X.env x = pure x := by intro _; rfl) : PS X (.Assign [.Name y py] (.DictComp kx vx [⟨tg, iter, ifs, 0⟩] scope pos) spos) (tAsg (tDc src g tt tk tv (own.map (·.2))) (gName i)) := by
  refine ⟨fun pins s σ H Ds I h => ?_⟩
  rw [exec_Assign_Name_used _ _ _ _ hsw]
  refine wpAny_bind (wpAny_standAt (wpAny_bind ?_))
  show wpAny _ X.A (do let _ ← comprehension (.DictComp kx vx [⟨tg, iter, ifs, 0⟩] scope pos) scope X.env (firstIterPos [⟨tg, iter, ifs, 0⟩] pos) newDict false (eval iter X.env) (some (assign (.Name y py) X.env))) _ _ s
  have h' : tDc src g tt tk tv (own.map (·.2)) σ H (fun x G => gName i x σ G Ds.nx) := h
  exact wpAny_bind (thn (dc_core (Qf := fun _ s' => SP X pins Ds .next s') hc hN I hi ok hg ht hk hv hs h' fun D C s' m F J q hn f => dc_store hN hy hl J q hn f) fun _ s' hq => wpAny_pure (wpAny_pure hq))
theorem sw_trueD {py : Pos} {y : Str} {l : Nat} {gs : List Comprehension} {env : Env} (hk : env.scope.kind = .function) (hy : env.scope.names.lookup y = some .local) (hl : (py.line == pos.line) = true)
    (ha : (scope.names.any fun (n, k) => n == y && (k == .local || k == .cell)) = false) : swapsWith (.DictComp kx vx gs scope pos) (some (.Name y py)) l env = pure true := by
  have e1 : env.kindOf y = some .local := hy
  have e2 : env.blockKind = .function := by unfold Env.blockKind; rw [hk]; rfl
  unfold swapsWith
  simp only [e2, e1, ha, Expr.pos, hl]
  rfl
theorem PE.or {e : Expr} {t t' : TE} (h : PE X e t) (h' : PE X e t') : PE X e (fun σ H Q => t σ H Q ∨ t' σ H Q) := ⟨fun pins s σ H Q I q => q.elim (h.run pins s σ H Q I) (h'.run pins s σ H Q I)⟩
theorem PS.or {st : Stmt} {t t' : TS} (h : PS X st t) (h' : PS X st t') : PS X st (fun D σ H => t D σ H ∨ t' D σ H) := ⟨fun pins s σ H D I q => q.elim (h.run pins s σ H D I) (h'.run pins s σ H D I)⟩
theorem PI.or {tg it : Expr} {t t' : TI} (h : PI X tg it t) (h' : PI X tg it t') : PI X tg it (fun σ H R => t σ H R ∨ t' σ H R) := ⟨fun pins s σ H R I q => q.elim (h.run pins s σ H R I) (h'.run pins s σ H R I)⟩
theorem pi_listK {K : PySem.W.Frag} {tg it : Expr} {tl : TE} (e : X.K = K) (h : PE X it tl) : PI X tg it (iList K tl) := by subst e; exact pi_list h
theorem pi_tupK {K : PySem.W.Frag} {tg it : Expr} {tl : TE} (e : X.K = K) (h : PE X it tl) : PI X tg it (iTup K tl) := by subst e; exact pi_tup h
theorem pa_starK {K : PySem.W.Frag} {e : Expr} {es : List Expr} {te : TE} {t : TA} {p : Pos} (hK : X.K = K) (he : PE X e te) (hr : PA X es t) (hs : starEach (.Starred e p :: es) X.env = (true, eval e X.env) :: starEach es X.env := by rfl) : PA X (.Starred e p :: es) (StX.tStar K te t) := by subst hK; exact StX.pa_star he hr hs
theorem pg_tupK {K : PySem.W.Frag} {es : List Expr} {k n : Nat} {p : Pos} {t : TGs} (hK : X.K = K) (hc : X.calm = true) (h : PGs X es t) (hn : (assignEach es X.env).length = n := by rfl) (hst : (assignEach es X.env).findIdx? (·.1) = none := by rfl) : PG X (.Tuple es k p) (gTup K n t) := by subst hK; exact pg_tup hc h hn hst
end
section
variable {J : It} {n : Nat} {G : Hp → Prop} {Y : Nat → Hp → V → Hp → Prop} {g : TG} {tt : TT} {tk tv : TE} {vs : List Nat} {σ : L2.St} {H1 : Hp} {D : Addr} {Qd : Hp → Prop}
theorem dT_it (w : Walk J n G Y) (Pv : Nat → Hp → Prop) (h0 : Pv 0 (upd H1 D (.dT []))) (hG : ∀ i H, i ≤ n → Pv i H → G H)
    (hs : ∀ i x H H', i < n → Pv i H → Y i H x H' → g x (wipe σ vs) H' fun τ F2 => wipe τ vs = wipe σ vs ∧ tt τ F2 fun c F3 =>
      if c = true then tk τ F3 fun y F4 => tv τ F4 fun z F5 => ∃ es k b, y = .ref b ∧ F5 b = some (.tup (k.map kV)) ∧ F5 D = some (.dT es) ∧ es.length < sizeLine ∧ Pv (i + 1) (upd F5 D (.dT (putK es k z))) else Pv (i + 1) F3) (hd : ∀ H, Pv n H → Qd H) :
    ∃ W : Nat → Nat → Hp → Prop, (∃ m, W 0 m (upd H1 D (.dT []))) ∧ ∀ i m F, W i m F → (J.stop i F ∧ Qd F) ∨ (J.go i F ∧ ∃ Nx : Hp → Prop, (∀ F', Nx F' → ∃ m', m' < m ∧ W (i + 1) m' F') ∧ ∀ x F', J.yld i F x F' → g x (wipe σ vs) F' fun τ F2 => wipe τ vs = wipe σ vs ∧ tt τ F2 fun c F3 =>
      if c = true then tk τ F3 fun y F4 => tv τ F4 fun z F5 => ∃ es k b, y = .ref b ∧ F5 b = some (.tup (k.map kV)) ∧ F5 D = some (.dT es) ∧ es.length < sizeLine ∧ Nx (upd F5 D (.dT (putK es k z))) else Nx F3) := by
  refine ⟨fun i m F => i + m = n ∧ Pv i F, ⟨n, by omega, h0⟩, fun i m F hW => ?_⟩
  obtain ⟨hm, p⟩ := hW
  have q := hG i F (by omega) p
  by_cases lt : i < n
  · exact .inr ⟨w.goes i F lt q, Pv (i + 1), fun F' p' => ⟨m - 1, by omega, by omega, p'⟩, fun x F' y => hs i x F F' lt p (w.yields i F x F' lt q y)⟩
  · obtain rfl : i = n := by omega
    exact .inl ⟨w.stops F q, hd F p⟩
theorem dK_it (w : Walk J n G Y) (Pv : Nat → Hp → Prop) (h0 : Pv 0 (upd H1 D (.dK []))) (hG : ∀ i H, i ≤ n → Pv i H → G H)
    (hs : ∀ i x H H', i < n → Pv i H → Y i H x H' → g x (wipe σ vs) H' fun τ F2 => wipe τ vs = wipe σ vs ∧ tt τ F2 fun c F3 =>
      if c = true then tk τ F3 fun y F4 => tv τ F4 fun z F5 => ∃ es k, y = kV k ∧ F5 D = some (.dK es) ∧ es.length < sizeLine ∧ Pv (i + 1) (upd F5 D (.dK (putK es k z))) else Pv (i + 1) F3) (hd : ∀ H, Pv n H → Qd H) :
    ∃ W : Nat → Nat → Hp → Prop, (∃ m, W 0 m (upd H1 D (.dK []))) ∧ ∀ i m F, W i m F → (J.stop i F ∧ Qd F) ∨ (J.go i F ∧ ∃ Nx : Hp → Prop, (∀ F', Nx F' → ∃ m', m' < m ∧ W (i + 1) m' F') ∧ ∀ x F', J.yld i F x F' → g x (wipe σ vs) F' fun τ F2 => wipe τ vs = wipe σ vs ∧ tt τ F2 fun c F3 =>
      if c = true then tk τ F3 fun y F4 => tv τ F4 fun z F5 => ∃ es k, y = kV k ∧ F5 D = some (.dK es) ∧ es.length < sizeLine ∧ Nx (upd F5 D (.dK (putK es k z))) else Nx F3) := by
  refine ⟨fun i m F => i + m = n ∧ Pv i F, ⟨n, by omega, h0⟩, fun i m F hW => ?_⟩
  obtain ⟨hm, p⟩ := hW
  have q := hG i F (by omega) p
  by_cases lt : i < n
  · exact .inr ⟨w.goes i F lt q, Pv (i + 1), fun F' p' => ⟨m - 1, by omega, by omega, p'⟩, fun x F' y => hs i x F F' lt p (w.yields i F x F' lt q y)⟩
  · obtain rfl : i = n := by omega
    exact .inl ⟨w.stops F q, hd F p⟩
end
end R1

namespace R1
open PySem PySem.Spec PyProof.Rows L2
/-! ### one lemma for every loop and comprehension -/
section
variable {J : It} {n : Nat} {G : Hp → Prop} {Y : Nat → Hp → V → Hp → Prop} {H0 : Hp} {Qd : Hp → Prop} {Body : V → Hp → (Hp → Prop) → Prop}
theorem walk_it (w : Walk J n G Y) (Pv : Nat → Hp → Prop) (h0 : Pv 0 H0) (hG : ∀ i H, i ≤ n → Pv i H → G H)
    (hs : ∀ i x H H', i < n → Pv i H → Y i H x H' → Body x H' (Pv (i + 1))) (hd : ∀ H, Pv n H → Qd H) :
    ∃ W : Nat → Nat → Hp → Prop, (∃ m, W 0 m H0) ∧ ∀ i m F, W i m F → (J.stop i F ∧ Qd F) ∨ (J.go i F ∧ ∃ Nx : Hp → Prop, (∀ F', Nx F' → ∃ m', m' < m ∧ W (i + 1) m' F') ∧ ∀ x F', J.yld i F x F' → Body x F' Nx) := by
  refine ⟨fun i m F => i + m = n ∧ Pv i F, ⟨n, by omega, h0⟩, fun i m F hW => ?_⟩
  obtain ⟨hm, p⟩ := hW
  have q := hG i F (by omega) p
  by_cases lt : i < n
  · exact .inr ⟨w.goes i F lt q, Pv (i + 1), fun F' p' => ⟨m - 1, by omega, by omega, p'⟩, fun x F' y => hs i x F F' lt p (w.yields i F x F' lt q y)⟩
  · obtain rfl : i = n := by omega
    exact .inl ⟨w.stops F q, hd F p⟩
end
/-! ### two lists alike, item by item -/
section
variable {α : Type} {R S : V → α → Prop}
def Al (R : V → α → Prop) (xs : List V) (rs : List α) : Prop := xs.length = rs.length ∧ ∀ (i : Nat) (x : V) (r : α), xs[i]? = some x → rs[i]? = some r → R x r
theorem Al.nil : Al R [] [] := ⟨rfl, fun i x r h => by simp at h⟩
theorem Al.mono {xs : List V} {rs : List α} (h : Al R xs rs) (f : ∀ x r, R x r → S x r) : Al S xs rs := ⟨h.1, fun i x r a b => f x r (h.2 i x r a b)⟩
theorem Al.snoc {xs : List V} {rs : List α} {x : V} {r : α} (h : Al R xs rs) (q : R x r) : Al R (xs ++ [x]) (rs ++ [r]) := by
  refine ⟨by simp [h.1], fun i y t hy ht => ?_⟩
  by_cases lt : i < xs.length
  · rw [List.getElem?_append_left lt] at hy
    rw [List.getElem?_append_left (by rw [← h.1]; exact lt)] at ht
    exact h.2 i y t hy ht
  · rw [List.getElem?_append_right (by omega)] at hy
    rw [List.getElem?_append_right (by rw [← h.1]; omega)] at ht
    rw [h.1] at hy
    have e : i - rs.length = 0 := by
      cases z : i - rs.length with
      | zero => rfl
      | succ k => rw [z] at hy; simp at hy
    rw [e] at hy ht
    cases hy; cases ht
    exact q
theorem Al.at {xs : List V} {rs : List α} (h : Al R xs rs) {i : Nat} {x : V} (hx : xs[i]? = some x) : ∃ r, rs[i]? = some r ∧ R x r := by
  have lt : i < xs.length := by
    by_cases z : i < xs.length
    · exact z
    · rw [List.getElem?_eq_none (by omega)] at hx; cases hx
  have e : rs[i]? = some (rs[i]'(by rw [← h.1]; exact lt)) := List.getElem?_eq_getElem _
  exact ⟨_, e, h.2 i x _ hx e⟩
theorem Al.one {x : V} {r : α} (q : R x r) : Al R [x] [r] := (Al.nil (R := R)).snoc q
end
end R1

namespace R1
open PySem PySem.Spec PyProof.Rows L2
/-! ### len(set(x)), x a list or a tuple of ints, any of them twice -/
def dist (ns : List Int) : List Int := ns.foldl step_dedup []
theorem firstMet_dist (ns : List Int) : firstMet (fun i => ns.getD i 0) ns.length = dist ns := by
  unfold firstMet dist
  congr 1
  apply List.ext_getElem?
  intro i
  rw [List.getElem?_map]
  by_cases h : i < ns.length
  · rw [List.getElem?_range h, List.getElem?_eq_getElem h]
    simp [List.getD, List.getElem?_eq_getElem h]
  · rw [List.getElem?_eq_none (by simpa using h), List.getElem?_eq_none (by omega)]
    rfl
theorem dist_go : ∀ (ns acc : List Int), acc.Nodup → ((ns.foldl step_dedup acc).Nodup ∧ ∀ k, k ∈ ns.foldl step_dedup acc ↔ k ∈ acc ∨ k ∈ ns)
  | [], acc, h => ⟨h, fun k => by simp⟩
  | n :: r, acc, h => by
    show ((r.foldl step_dedup (step_dedup acc n)).Nodup ∧ _)
    by_cases z : acc.any (· == n) = true
    · have e : step_dedup acc n = acc := by unfold step_dedup; rw [if_pos z]
      have m : n ∈ acc := by
        obtain ⟨u, hu, q⟩ := List.any_eq_true.mp z
        rw [← eq_of_beq q]; exact hu
      obtain ⟨a, b⟩ := dist_go r acc h
      refine ⟨by rw [e]; exact a, fun k => ?_⟩
      show k ∈ r.foldl step_dedup (step_dedup acc n) ↔ _
      rw [e, b k, List.mem_cons]
      constructor
      · rintro (q | q)
        · exact .inl q
        · exact .inr (.inr q)
      · rintro (q | q | q)
        · exact .inl q
        · exact .inl (q ▸ m)
        · exact .inr q
    · have e : step_dedup acc n = acc ++ [n] := by unfold step_dedup; rw [if_neg z]
      have m : n ∉ acc := fun hm => z (List.any_eq_true.mpr ⟨n, hm, beq_self_eq_true n⟩)
      have h2 : (acc ++ [n]).Nodup := by
        rw [List.nodup_append]
        refine ⟨h, by simp, fun u hu v hv q => m ?_⟩
        rw [← (by simpa using hv : v = n), ← q]; exact hu
      obtain ⟨a, b⟩ := dist_go r (acc ++ [n]) h2
      refine ⟨by rw [e]; exact a, fun k => ?_⟩
      show k ∈ r.foldl step_dedup (step_dedup acc n) ↔ _
      rw [e, b k, List.mem_append, List.mem_cons]
      simp [or_assoc]
theorem dist_nodup (ns : List Int) : (dist ns).Nodup := (dist_go ns [] List.nodup_nil).1
theorem dist_mem (ns : List Int) (k : Int) : k ∈ dist ns ↔ k ∈ ns := by
  have := (dist_go ns [] List.nodup_nil).2 k
  unfold dist
  simpa using this
section
variable {X : Cx}
def tLenSetX (K : PySem.W.Frag) (ta : TE) : TE := fun σ H Q => ta σ H fun x H1 => ∃ (l : Addr) (ns : List Int), x = V.ref l ∧ (SqL K H1 l (ns.map V.int) ∨ SqT K H1 l (ns.map V.int)) ∧ ns.length ≤ 1000 ∧ Q (.int (dist ns).length) H1
theorem pe_lenSetX {a : Expr} {ta : TE} {p p2 q pos : Pos} (hc : X.calm = true) (hg : Gl X "len") (hm : X.mg "len" = none) (hg2 : Gl X "set") (hm2 : X.mg "set" = none) (ha : PE X a ta)
    (na : starEach [a] X.env = (false, eval a X.env) :: starEach [] X.env := by rfl) : PE X (.Call (.Name "len" p) [.Call (.Name "set" p2) [a] [] q] [] pos) (tLenSetX X.K ta) := by
  refine ⟨fun pins s σ H Q I h => ?_⟩
  refine Call_ (ld_blt I hg hm PySem.boot_len ?_)
  refine PyProof.Rows.callWith_builtin1 (PyProof.Rows.args_cons ?_ rfl) rfl rfl
  refine Call_ (ld_blt I hg2 hm2 PyProof.Rows.boot_set ?_)
  refine PyProof.Rows.callWith_type1 (PyProof.Rows.args_cons (thn (ha.run pins s σ H _ I h) fun v s1 ⟨x, H1, I1, r1, q1⟩ => PyProof.Rows.args_nil ?_) na) na rfl
  obtain ⟨l, ns, rfl, hq, h1, q1⟩ := q1
  cases r1
  rcases hq with hq | hq
  · obtain ⟨its, r, pl, hz⟩ := I1.list hq
    have hl : its.toArray.size = ns.length := by rw [List.size_toArray, ← r.length, List.length_map]
    refine call_set_list (I1.ok.hd hc) pl.isList (ns := ns) (by simpa using r.ints) (by unfold scanBound; omega) fun h' tk hS hk => ?_
    rw [hl, firstMet_dist] at hS
    refine PyProof.Rows.args_nil ?_
    obtain ⟨o, es, ep, t, ho, hex, hd, _, _, hb, hf, hn⟩ := hS
    have hle : (dist ns).length ≤ ns.length := by rw [← firstMet_dist]; exact firstMet_length_le _ _
    have I2 : Inv X pins σ H1 { s1 with heap := h', toks := tk } := I1.kept fun b o e => hk b o (Heap.lt_size e) e
    exact call_len_set ho hex hd hf (by rw [hn] <;> omega) ⟨.int (dist ns).length, H1, I2.tok _, ⟨_, by rw [hn]⟩, q1⟩
  · obtain ⟨its, r, pl, hz⟩ := I1.tuple hq
    refine call_set_tupI ns (I1.ok.hd hc) pl (by simpa using r.ints) (by unfold scanBound; omega) fun h' tk c hS hc' hk => ?_
    refine PyProof.Rows.args_nil ?_
    obtain ⟨o, es, ep, t, ho, hex, hd, _, nd, me, _, hf, hn, _⟩ := hS
    have I2 : Inv X pins σ H1 { s1 with heap := h', toks := tk } := I1.kept fun b o e => hk b o e
    have e1 : (es.toList.map keyOf).length = (dist ns).length := by
      refine ((List.perm_ext_iff_of_nodup nd (dist_nodup ns)).mpr fun k => ?_).length_eq
      rw [← me k, dist_mem, decide_eq_true_eq]
    have hn' : es.size = (dist ns).length := by rw [← e1]; simp
    exact call_len_set ho hex hd hf (by omega) ⟨.int (dist ns).length, H1, I2.tok _, ⟨_, by rw [hn']⟩, q1⟩
/-! ### rules that name X.K, for a comprehension's block -/
theorem tuple_ofK {K : PySem.W.Frag} (hK : X.K = K) : CallR X (.type "tuple") (fun xs H Q => ∃ p ys, xs = [V.ref p] ∧ ((SqL K H p ys ∧ ∀ (l : Addr), H l = none → Q (V.ref l) (upd H l (HO.tup ys))) ∨ SqT K H p ys ∧ Q (V.ref p) H)) := by subst hK; exact call_tuple_of
theorem list_ofK {K : PySem.W.Frag} (hK : X.K = K) : CallR X (.type "list") (fun xs H Q => ∃ p ys, xs = [V.ref p] ∧ (SqL K H p ys ∨ SqT K H p ys) ∧ ∀ l, H l = none → Q (V.ref l) (upd H l (HO.lst ys))) := by subst hK; exact call_list_of
theorem op_catTK {K : PySem.W.Frag} (hK : X.K = K) : OpR X (binaryOp .Add) (rCatT K) := by subst hK; exact op_catT
end
end R1

/-! isinstance(e, C), e a caught error with fields: the answer may be False -/
namespace R1
open PySem PySem.Spec PyProof.Rows L2
def rIsX (K : PySem.W.Frag) (D a : Addr) (cls : Value) (d : Option Addr) : List V → Hp → VK → Prop := fun xs H Q => ∃ (c : Addr) (b : Bool) (dd : Addr) (fs : List (Str × V)), cls = .ref D ∧ d = some dd ∧ H dd = some (.xd fs) ∧ xs = [.ref a, .ref c] ∧ PySem.W.kitOne K (.ref D) (.ref c) = some b ∧ Q (.bl b) H
theorem call_isX {X : Cx} {K : PySem.W.Frag} {a D : Addr} {oe : Obj} {cls : Value} {d : Option Addr} {pn : List (Addr × Obj)} (hK : X.K = K) (C : ExcC K D) (hz : Zc cls d oe) (hf : ∃ vs, oe.data = .fields vs) : CallR (X.suite a ((a, oe) :: pn)) (.builtin "isinstance") (rIsX K D a cls d) := by
  subst hK
  intro pins s σ H xs us Q I r h
  obtain ⟨c, b, dd, fs, rfl, rfl, ea, rfl, e, q⟩ := h
  obtain ⟨u1, u2, rfl, r1, r2⟩ := vals2 r
  cases (show u1 = Value.ref a from r1)
  cases (show u2 = Value.ref c from r2)
  obtain ⟨hget, _⟩ := I.pin (a, oe) (List.mem_append.mpr (.inl List.mem_cons_self))
  obtain ⟨vs, hd⟩ := hf
  have hx : ObjOk X.prog X.w H s.heap dd (.xd fs) := I.hok dd _ ea
  obtain ⟨mA, hns, hr⟩ := hx
  obtain ⟨od, ho, hl⟩ := lookIn_ns hns
  have J : PySem.W.InstAt s.heap a oe D (some od) := ⟨hget, hz.1, by unfold PySem.W.notCls; rw [hd] <;> rfl, by rw [hz.2]; exact ho⟩
  obtain ⟨cd, hc, _⟩ := PySem.W.any_some C.hd
  exact PySem.W.kia_one (PySem.W.kitx_exc (by rw [hc]; rfl) C.hg C.hk C.hs C.ha C.hn C.ht C.hm) I.kIn J e (fun z => nomatch z) fun tk => ⟨.bl b, H, I.tok tk, rfl, q⟩
end R1

namespace R1
open PySem PySem.Spec PyProof.Rows L2
section
variable {K : PySem.W.Frag} {a b : Addr} {xs ys : List V}
theorem walk_zipT {n : Nat} (hn : n = min xs.length ys.length) : Walk (RZ.ItzT K a b) n (fun H => SqT K H a xs ∧ SqT K H b ys) (YPair (fun i => xs[i]?) (fun i => ys[i]?)) := by
  subst hn
  refine ⟨fun i _ hi q => ?_, fun _ q => ⟨xs, ys, q.1, q.2, by omega⟩, fun i H v H' _ q y => ?_⟩
  · have h1 : i < xs.length := by omega
    have h2 : i < ys.length := by omega
    exact ⟨xs, ys, xs[i], ys[i], q.1, q.2, by simp [h1], by simp [h2]⟩
  · obtain ⟨T, x, z, h1, h2, h3, h4, h5⟩ := y
    exact ⟨T, x, z, h1, h2, h3, h4 xs q.1, h5 ys q.2⟩
end
end R1

/-! enumerate(t), t a tuple -/
namespace PySem
open PySem.Spec PyProof.Rows PySem.W
theorem meets_enum1 {v : Value} {o : Obj} {H : Heap → Prop} (B : Begins v o H) :
    Meets (Builtin.«enumerate.__new__» ⟨[.type "enumerate", v], []⟩) (fun _ R s => H s.heap ∧
      R (.ok (.ret (.ref (s.heap.push o).objs.size))) { s with heap := (s.heap.push o).push { cls := .type "enumerate", data := .fields #[.none, .bool false, .ref s.heap.objs.size, rawInt 0, .none, .none] } }) :=
  .of_wp fun prog w A R s h => by
    obtain ⟨hp, g, d, tk, os⟩ := s; obtain ⟨h1, h⟩ := h
    have hsub := sub_enumerate
    have q1 : ∀ {A' : Around} {E : Value → Shared → Prop} {Q : Value → Shared → Prop}, Q (.ref hp.objs.size) ⟨hp.push o, g, d, tk, os⟩ → wpAny (model prog w) A' (pyIter v) Q E ⟨hp, g, d, tk, os⟩ :=
      fun q => B.iter prog w _ _ ⟨hp, g, d, tk, os⟩ _ h1 q
    wp_walk using q1
    refine wpAny_stack_any fun st => wpAny_pure ?_
    split
    · rename_i c _ _ _ _ _
      cases (c == Value.type "enumerate")
      · wp_walk using q1
        exact ⟨_, rfl, h⟩
      · wp_walk using q1
        exact ⟨_, rfl, h⟩
    · wp_walk using q1
      exact ⟨_, rfl, h⟩
section
variable {prog : Program} {w : World} {A : Around} {E : Value → Shared → Prop} {s : Shared}
theorem enum1 {v : Value} {o : Obj} {H : Heap → Prop} {Q : Value → Shared → Prop} (B : Begins v o H) (h1 : H s.heap)
    (h : ∀ h', IsEnum h' (s.heap.objs.size + 1) s.heap.objs.size 0 .none → h'.get? s.heap.objs.size = some o → h'.objs.size = s.heap.objs.size + 2 →
      (∀ b o, s.heap.get? b = some o → h'.get? b = some o) → Q (.ref (s.heap.objs.size + 1)) { s with heap := h' }) :
    wpAny (model prog w) A (call (.type "enumerate") [v]) Q E s := by
  refine callType_new F.called_enumerate (by decide) (F.typeCall_enumerate_1 _) (F.newCall_enumerate_1 _) (fun obj => F.args_object_init_2 obj _) F.entry_enumerate_new
    (meets_enum1 B) ⟨h1, ?_⟩
  have hz : (s.heap.push o).objs.size = s.heap.objs.size + 1 := Heap.size_push ..
  show _ ∧ _
  rw [hz]
  have he : IsEnum ((s.heap.push o).push { cls := .type "enumerate", data := .fields #[.none, .bool false, .ref s.heap.objs.size, rawInt 0, .none, .none] }) (s.heap.objs.size + 1) s.heap.objs.size 0 .none := by
    have := Heap.get?_push_size (s.heap.push o) (o := { cls := .type "enumerate", data := .fields #[.none, .bool false, .ref s.heap.objs.size, rawInt 0, .none, .none] }) rfl
    rw [hz] at this; exact this
  exact ⟨⟨_, he, rfl⟩, h _ he (Heap.get?_push_of_some _ (Heap.get?_push_size _ B.free)) (by rw [Heap.size_push, hz]) fun b o x => Heap.get?_push_of_some _ (Heap.get?_push_of_some _ x)⟩
end
end PySem

namespace PySem
section
variable {prog : Program} {w : World} {A : Around} {E : Value → Shared → Prop} {s : Shared}
theorem enum_endT {e it l : Addr} {i : Nat} {items : Array Value} {old : Value} {Q : Option Value → Shared → Prop} (hh : A.handled = none)
    (he : IsEnum s.heap e it i old) (hit : s.heap.IsTupleIter it l i) (hl : s.heap.IsTuple l items) (hx : items[i]? = none)
    (hQ : ∀ h', Heap.ExtBut it s.heap h' → Q none { s with heap := h' }) : wpAny (model prog w) A (pyNext (.ref e)) Q E s := by
  have hT : s.TypeIs (.ref e) "enumerate" := ⟨_, he, rfl⟩
  unfold pyNext
  refine wpAny_bind (wpAny_attempt (wpAny_callSpecial?_slot (name := Str.ofString "__next__") hT F.slot_enumerate_next
    (wpAny_call_entry F.slot_enumerate_next hT F.entry_enumerate_next ?_ (F.args_enumerate_next_1 _))))
  show wpAny _ _ (field (.ref e) 2 >>= _) _ _ _
  refine wpAny_bind (wpAny_field he rfl (x := .ref it) rfl ?_)
  refine wpAny_bind (wpAny_nextOf_tuple_end hh hit hl hx fun h' x he' hx' => ?_)
  obtain ⟨o, ho, hc⟩ := hx'
  refine wpAny_bind (wpAny_isInstance (T := "StopIteration") (b := true) ⟨o, ho, hc⟩ isSubtype_stop ?_)
  exact wpAny_pure (hQ _ he')
end
end PySem
namespace R1
open PySem PySem.Spec PyProof.Rows L2
def IteT (K : PySem.W.Frag) (a : Addr) : It :=
  ⟨fun i H => ∃ (xs : List V) (x : V), SqT K H a xs ∧ xs[i]? = some x, fun i H v H' => ∃ T x, v = .ref T ∧ H T = none ∧ H' = upd H T (.tup [.int (i : Nat), x]) ∧ ∀ xs, SqT K H a xs → xs[i]? = some x, fun i H => ∃ xs : List V, SqT K H a xs ∧ xs.length ≤ i⟩
theorem turn_enumT {P : Program} {w : World} {K : PySem.W.Frag} {elts : List Expr} {kk : Nat} {tpos : Pos} (a e it : Addr) :
    Turn P w K (.Tuple elts kk tpos) (IteT K a) [e, it] e (fun i h => (∃ old, IsEnum h e it ((i : Nat) : Int) old) ∧ h.IsTupleIter it a i ∧ e ≠ it ∧ a ≠ it ∧ a ≠ e) where
  mem := by simp
  obj := fun i h st b hb => by
    obtain ⟨⟨old, he⟩, ⟨o, ho, hc, hd⟩, _⟩ := st
    have e' : b = e ∨ b = it := by simpa using hb
    rcases e' with z | z
    · rw [z]; exact ⟨_, he, fun v q => nomatch q⟩
    · rw [z]; exact ⟨o, ho, fun v q => by rw [hd] at q; cases q⟩
  keep := fun i h h' st k => let ⟨⟨old, he⟩, hi, hne⟩ := st; ⟨⟨old, k e (by simp) _ he⟩, hi.at fun o q => k it (by simp) o q, hne⟩
  item := by
    intro X hP hw hK hc i pins s σ H E I hf st hg
    subst hP hw hK
    obtain ⟨⟨old, he⟩, hit, hne, hai, hae⟩ := st
    obtain ⟨xs, x, hq, hx⟩ := hg
    obtain ⟨its, rv, p, hz⟩ := I.tuple hq
    obtain ⟨u, hu, ru⟩ := rv.get hx
    have hel : e < s.heap.objs.size := Heap.lt_size he
    have hil : it < s.heap.objs.size := by obtain ⟨_, q, _⟩ := hit; exact Heap.lt_size q
    have hli : i < its.toArray.size := by
      have := rv.length
      have h2 : i < xs.length := by
        by_cases z : i < xs.length
        · exact z
        · rw [List.getElem?_eq_none (by omega)] at hx; cases hx
      simp; omega
    refine wpAny_pyNext_enum_itemD (PySem.Draws.tuple (show X.A.in1.handled = none from I.ok.hd hc) it a hai its.toArray) he ⟨hit, p⟩ hli hne (by simp [hne, Ne.symm hae]) fun x' h' tk hP' ho hst' hT hsz hk => ?_
    have ex : x' = u := by
      rw [List.getElem?_toArray, hu] at hP'
      exact (Option.some.inj hP').symm
    subst ex
    refine ⟨_, rfl, wpAny_letOwnedTupleGo_enum (s := { s with heap := h', toks := tk + 1 }) ho fun h'' he' sb => ?_⟩
    have hT2 : h''.get? s.heap.objs.size = some { cls := .type "tuple", data := .seq #[.int i tk, x'] } := (sb.2 _ (Nat.ne_of_gt hel)).trans hT
    have new : ObjOk X.prog X.w (upd H s.heap.objs.size (.tup [.int (i : Nat), x])) h'' s.heap.objs.size (.tup [.int (i : Nat), x]) :=
      ⟨by show 2 ≤ sizeLine; decide, [.int i tk, x'], .cons ⟨_, rfl⟩ (.cons ru .nil), ⟨_, hT2, rfl, _, rfl⟩⟩
    have I1 : Inv X pins σ (upd H s.heap.objs.size (.tup [.int (i : Nat), x])) { s with heap := h'', toks := tk + 1 } :=
      I.turnedNew (ch := [e, it]) (fun b ob hb q => (sb.2 b (fun z => hb (by simp [z]))).trans (hk b ob (fun z => hb (by simp [z])) (fun z => hb (by simp [z])) q)) hf (Nat.le_refl _) new
    refine ⟨.ref s.heap.objs.size, _, I1, rfl, ⟨_, x, rfl, I.hok.fresh (Nat.le_refl _), rfl, fun ys hy => by rw [I.tuple_inj hy hq]; exact hx⟩, ⟨⟨x', ?_⟩, hst'.1.at fun o q => (sb.2 it (Ne.symm hne)).trans q, hne, hai, hae⟩, fun b hb => ?_⟩
    · have e1 : ((i + 1 : Nat) : Int) = (i : Int) + 1 := by omega
      rw [e1]; exact he'
    · have hb' : b < s.heap.objs.size := by
        have e' : b = e ∨ b = it := by simpa using hb
        rcases e' with z | z
        · rw [z]; exact hel
        · rw [z]; exact hil
      rw [upd_ne (Nat.ne_of_lt hb')]
      exact (hf b hb).1
  done := by
    intro X hP hw hK hc i pins s σ H E I hf st hg
    subst hP hw hK
    obtain ⟨⟨old, he⟩, hit, hne, hai, hae⟩ := st
    obtain ⟨xs, hq, hx⟩ := hg
    obtain ⟨its, rv, p, hz⟩ := I.tuple hq
    obtain ⟨f0, f1, f2, f3, f4, f5⟩ := hf it (by simp)
    have hl := rv.length
    exact enum_endT (I.ok.hd hc) he hit p (by simp; omega) fun h' eb => ⟨rfl, I.turned (t' := s.toks) (fun b o hb q => eb b o hb q) f0 f1 f3 f4 f5⟩
  self := fun A i s Q E st h => let ⟨⟨_, he⟩, _⟩ := st; wpAny_pyIter_enum he h
end R1

namespace R1
open PySem PySem.Spec PyProof.Rows L2
def iEnumT (K : PySem.W.Frag) (ta : TA) : TI := fun σ H R => ta σ H fun vs H1 => ∃ a xs, vs = [.ref a] ∧ SqT K H1 a xs ∧ R (IteT K a) H1
theorem pi_enumT {X : Cx} {e : Expr} {ta : TA} {p pos tpos : Pos} {elts : List Expr} {kk : Nat} (hg : Gl X "enumerate") (hm : X.mg "enumerate" = none) (ha : PA X [e] ta) (hs : starEach [e] X.env = [(false, eval e X.env)] := by rfl) :
    PI X (.Tuple elts kk tpos) (.Call (.Name "enumerate" p) [e] [] pos) (iEnumT X.K ta) := by
  refine ⟨fun pins s σ H R I h => ?_⟩
  refine Call_ (ld_blt I hg hm boot_enumerate (PyProof.Rows.callWith_type1 (thn (ha.run pos pins s σ H _ I h) fun us s1 ⟨vs, H1, I1, r1, q1⟩ => ?_) hs rfl))
  obtain ⟨a, xs, ex, hq, q⟩ := q1
  subst ex
  cases r1 with
  | cons r rr =>
    cases rr
    cases r
    obtain ⟨its, rv, p', hz⟩ := I1.tuple hq
    have hla : a < s1.heap.objs.size := by
      obtain ⟨o, ho, _⟩ := id p'
      exact Heap.lt_size ho
    refine enum1 (begins_tuple a its.toArray) p' fun h' he hit hsz hk => wpAny_pyIter_enum he ?_
    have I2 : Inv X pins σ H1 { s1 with heap := h' } := I1.kept (t' := s1.toks) hk
    refine ⟨s1.heap.objs.size + 1, [s1.heap.objs.size + 1, s1.heap.objs.size], _, _, H1, rfl, I2, turn_enumT a (s1.heap.objs.size + 1) s1.heap.objs.size, ⟨⟨.none, he⟩, ⟨_, hit, rfl, rfl⟩, Nat.succ_ne_self _, Nat.ne_of_lt hla, Nat.ne_of_lt (Nat.lt_succ_of_lt hla)⟩, fun b hb => ?_, q⟩
    have e' : b = s1.heap.objs.size + 1 ∨ b = s1.heap.objs.size := by simpa using hb
    have hle : s1.heap.objs.size ≤ b := by
      rcases e' with z | z
      · rw [z]; exact Nat.le_add_right _ _
      · rw [z]; exact Nat.le_refl _
    exact I1.fpOk hle (I1.hok.fresh hle)
section
variable {K : PySem.W.Frag} {a : Addr} {xs : List V}
theorem walk_enumT : Walk (IteT K a) xs.length (fun H => SqT K H a xs) (YPair (fun i => some (.int (i : Nat))) (fun i => xs[i]?)) := by
  refine ⟨fun i _ hi q => ⟨xs, xs[i], q, by simp [hi]⟩, fun _ q => ⟨xs, q, Nat.le_refl _⟩, fun i H v H' _ q y => ?_⟩
  obtain ⟨T, x, h1, h2, h3, h4⟩ := y
  exact ⟨T, .int (i : Nat), x, h1, h2, h3, rfl, h4 xs q⟩
end
end R1

namespace R1
open PySem PySem.Spec PyProof.Rows L2
section
variable {P : Program} {w : World} {K : PySem.W.Frag} {mg : Str → Option Value} {base : Heap} {CX : CXT} {k : Nat} {f : Addr} {fd : FuncData} {ps : List Str}
/-- one def, two contracts -/
theorem fn_or {sp sp' : Sp} (F : FnOk P w K mg base CX k f fd ps sp) (G : FnOk P w K mg base CX k f fd ps sp') : FnOk P w K mg base CX k f fd ps (fun vs H Q E => sp vs H Q E ∨ sp' vs H Q E) :=
  ⟨fun vs H Q E q => q.elim (F.len vs H Q E) (G.len vs H Q E), fun A outer s H args us vs Q E hr he hb hv hs => hs.elim (F.run A outer s H args us vs Q E hr he hb hv) (G.run A outer s H args us vs Q E hr he hb hv)⟩
end
end R1

namespace R1
open PySem PySem.Spec PyProof.Rows L2
/-! ### what sorted leaves, by the items' own rows -/
section
variable {κ : Type} {R : V → κ → Prop} (enc : κ → PyData)
def sortK (rs : List κ) : List κ := rs.mergeSort (PySem.W.dataLe false enc)
theorem zip_al : ∀ {xs : List V} {rs : List κ}, xs.length = rs.length → (xs.zip rs).map Prod.fst = xs ∧ (xs.zip rs).map Prod.snd = rs
  | [], [], _ => ⟨rfl, rfl⟩
  | x :: xs, r :: rs, h => by
    obtain ⟨a, b⟩ := zip_al (Nat.succ.inj h)
    exact ⟨by rw [List.zip_cons_cons, List.map_cons, a], by rw [List.zip_cons_cons, List.map_cons, b]⟩
theorem sort_al {xs : List V} {rs : List κ} (h : Al R xs rs) : Al R (R0.sortV xs (rs.map enc)) (sortK enc rs) := by
  obtain ⟨e1, e2⟩ := zip_al h.1
  obtain ⟨zs, hzs⟩ : ∃ zs, zs = (xs.zip rs).mergeSort (PySem.W.dataLe false fun z : V × κ => enc z.2) := ⟨_, rfl⟩
  have hz : xs.zip (rs.map enc) = (xs.zip rs).map fun z => (z.1, enc z.2) := by
    rw [List.zip_map_right]
    exact List.map_congr_left fun z _ => rfl
  have hs1 : R0.sortV xs (rs.map enc) = zs.map Prod.fst := by
    unfold R0.sortV
    rw [hz, ← List.map_mergeSort (f := fun z : V × κ => (z.1, enc z.2)) (r := PySem.W.dataLe false fun z : V × κ => enc z.2) (s := PySem.W.dataLe false Prod.snd) (fun a _ b _ => rfl), List.map_map, hzs]
    rfl
  have hs2 : sortK enc rs = zs.map Prod.snd := by
    unfold sortK
    rw [hzs, List.map_mergeSort (r := PySem.W.dataLe false fun z : V × κ => enc z.2) (s := PySem.W.dataLe false enc) (fun a _ b _ => rfl), e2]
  rw [hs1, hs2]
  refine ⟨by simp, fun i x r hx hr => ?_⟩
  rw [List.getElem?_map] at hx hr
  cases e : zs[i]? with
  | none => rw [e] at hx; cases hx
  | some z =>
    rw [e] at hx hr
    obtain rfl : z.1 = x := Option.some.inj hx
    obtain rfl : z.2 = r := Option.some.inj hr
    have hm : z ∈ xs.zip rs := by
      have := List.mem_of_getElem? e
      rw [hzs, List.mem_mergeSort] at this
      exact this
    obtain ⟨j, hj⟩ := List.mem_iff_getElem?.mp hm
    have hj' := List.getElem?_zip_eq_some.mp hj
    exact h.2 j z.1 z.2 hj'.1 hj'.2
end
end R1

/-! list(zip(a, b)), a and b tuples of one length -/
namespace R1
open PySem PySem.Spec PyProof.Rows L2
theorem lt1000 {k : Nat} (h : k ≤ 1000) : k < sizeLine := by
  have : (1000 : Nat) < sizeLine := by decide
  omega
theorem zip_has_no_len : typeLookup (.type "zip") "__len__" = pure none := am_miss_of_fast (by decide +kernel)
theorem zip_has_no_hint : typeLookup (.type "zip") "__length_hint__" = pure none := am_miss_of_fast (by decide +kernel)
section
variable {prog : Program} {w : World} {A : Around} {E : Value → Shared → Prop} {s : Shared} {z TI TO T i1 i2 a b S : Addr} {f : Bool} {oT : Obj} {i n : Nat} {xs ys : Array Value} {x y : Value}
theorem zheld_item {Q : Value → Shared → Prop} (D : ZipApart z TI TO i1 i2 a b) (hz : IsZipHeld s.heap z TI TO T f) (hT : s.heap.get? T = some oT) (ti : IsPair s.heap TI (.ref i1) (.ref i2))
    (t1 : s.heap.IsTupleIter i1 a i) (t2 : s.heap.IsTupleIter i2 b i) (ha : s.heap.IsTuple a xs) (hb : s.heap.IsTuple b ys) (hx : xs[i]? = some x) (hy : ys[i]? = some y)
    (q : ∀ h', IsZipHeld h' z TI TO T true → h'.IsTupleIter i1 a (i + 1) → h'.IsTupleIter i2 b (i + 1) → IsPair h' s.heap.objs.size x y →
      (∀ c o, c ≠ z → c ≠ i1 → c ≠ i2 → s.heap.get? c = some o → h'.get? c = some o) → Q (.ref s.heap.objs.size) { s with heap := h' }) :
    wpAny (model prog w) A (Builtin.«zip.__next__» ⟨[.ref z], []⟩) (fun r s2 => ∃ u, r = .done (.ret u) ∧ Q u s2) E s := by
  show wpAny _ _ (field (.ref z) 2 >>= _) _ _ s
  refine wpAny_bind (wpAny_field hz rfl (x := .bool false) rfl ?_); show wpAny _ _ (field (.ref z) 3 >>= _) _ _ s
  refine wpAny_bind (wpAny_field hz rfl (x := .ref TI) rfl ?_); refine wpAny_bind (wpAny_seqItems ti rfl ?_)
  show wpAny _ _ (Builtin.SmallTypes.ownedTupleIsFree (.ref z) >>= _) _ _ s
  refine wpAny_bind (wpAny_tupleHeld_zip hz hT fun g1 z1 k1 => ?_); simp only [Bool.false_eq_true, if_false]
  refine wpAny_bind ?_; rw [← Array.forIn_toList]; simp only [List.forIn_cons, List.forIn_nil]
  refine wpAny_bind (wpAny_bind (wpAny_holding ?_)); show wpAny _ _ (Builtin.SmallTypes.nextOf (.ref i1) >>= _) _ _ _
  refine wpAny_bind (RZ.nextOf_tuple_item (s := { s with heap := g1 }) (t1.extBut k1.extBut D.i1z) (ha.extBut k1.extBut D.l1z) hx fun g2 t1' k2 => wpAny_pure (wpAny_pure ?_))
  refine wpAny_bind (wpAny_bind (wpAny_holding ?_)); show wpAny _ _ (Builtin.SmallTypes.nextOf (.ref i2) >>= _) _ _ _
  refine wpAny_bind (RZ.nextOf_tuple_item (s := { s with heap := g2 }) ((t2.extBut k1.extBut D.i2z).extBut k2.extBut D.i12.symm) ((hb.extBut k1.extBut D.l2z).extBut k2.extBut D.l2i1) hy fun g3 t2' k3 => wpAny_pure (wpAny_pure (wpAny_pure ?_)))
  show wpAny _ _ (newTuple [x, y] >>= _) _ _ _
  refine wpAny_bind (wpAny_newTuple (wpAny_pure ⟨_, rfl, ?_⟩))
  have e0 : g3.objs.size = s.heap.objs.size := by rw [k3.1, k2.1, k1.1]
  have z3 : IsZipHeld g3 z TI TO T true := k3.extBut _ _ D.i2z.symm (k2.extBut _ _ D.i1z.symm z1)
  have up : ∀ c o, c ≠ z → c ≠ i1 → c ≠ i2 → s.heap.get? c = some o → g3.get? c = some o := fun c o n1 n2 n3 e => k3.extBut _ _ n3 (k2.extBut _ _ n2 (k1.extBut _ _ n1 e))
  have t13 : g3.IsTupleIter i1 a (i + 1) := t1'.extBut k3.extBut D.i12
  have new : IsPair (g3.push { cls := .type "tuple", data := .seq #[x, y] }) g3.objs.size x y := Heap.get?_push_size _ rfl
  show Q (.ref g3.objs.size) _
  rw [e0] at new ⊢
  exact q _ (Heap.get?_push_of_some _ z3) (t13.at fun o e => Heap.get?_push_of_some _ e) (t2'.at fun o e => Heap.get?_push_of_some _ e) new fun c o n1 n2 n3 e => Heap.get?_push_of_some _ (up c o n1 n2 n3 e)
theorem zheld_end {Q : Fin → Shared → Prop} (hh : A.handled = none) (D : ZipApart z TI TO i1 i2 a b) (hz : IsZipHeld s.heap z TI TO T f) (hT : s.heap.get? T = some oT) (ti : IsPair s.heap TI (.ref i1) (.ref i2))
    (t1 : s.heap.IsTupleIter i1 a i) (ha : s.heap.IsTuple a xs) (hx : xs[i]? = none)
    (q : ∀ h' e, (∀ c o, c ≠ z → c ≠ i1 → c ≠ i2 → s.heap.get? c = some o → h'.get? c = some o) → (∃ o, h'.get? e = some o ∧ o.cls = .type "StopIteration") → E (.ref e) { s with heap := h' }) :
    wpAny (model prog w) A (Builtin.«zip.__next__» ⟨[.ref z], []⟩) Q E s := by
  show wpAny _ _ (field (.ref z) 2 >>= _) _ _ s
  refine wpAny_bind (wpAny_field hz rfl (x := .bool false) rfl ?_); show wpAny _ _ (field (.ref z) 3 >>= _) _ _ s
  refine wpAny_bind (wpAny_field hz rfl (x := .ref TI) rfl ?_); refine wpAny_bind (wpAny_seqItems ti rfl ?_)
  show wpAny _ _ (Builtin.SmallTypes.ownedTupleIsFree (.ref z) >>= _) _ _ s
  refine wpAny_bind (wpAny_tupleHeld_zip hz hT fun g1 z1 k1 => ?_); simp only [Bool.false_eq_true, if_false]
  refine wpAny_bind ?_; rw [← Array.forIn_toList]; simp only [List.forIn_cons, List.forIn_nil]
  refine wpAny_bind (wpAny_bind (wpAny_holding ?_)); show wpAny _ _ (Builtin.SmallTypes.nextOf (.ref i1) >>= _) _ _ _
  exact wpAny_bind (RZ.nextOf_tuple_end (s := { s with heap := g1 }) hh (t1.extBut k1.extBut D.i1z) (ha.extBut k1.extBut D.l1z) hx fun g2 e k2 he => q g2 e (fun c o n1 n2 _ v => k2 _ _ n2 (k1.extBut _ _ n1 v)) he)
theorem znext_item {Q : Option Value → Shared → Prop} (D : ZipApart z TI TO i1 i2 a b) (hz : IsZipHeld s.heap z TI TO T f) (hT : s.heap.get? T = some oT) (ti : IsPair s.heap TI (.ref i1) (.ref i2))
    (t1 : s.heap.IsTupleIter i1 a i) (t2 : s.heap.IsTupleIter i2 b i) (ha : s.heap.IsTuple a xs) (hb : s.heap.IsTuple b ys) (hx : xs[i]? = some x) (hy : ys[i]? = some y)
    (q : ∀ h', IsZipHeld h' z TI TO T true → h'.IsTupleIter i1 a (i + 1) → h'.IsTupleIter i2 b (i + 1) → IsPair h' s.heap.objs.size x y →
      (∀ c o, c ≠ z → c ≠ i1 → c ≠ i2 → s.heap.get? c = some o → h'.get? c = some o) → Q (some (.ref s.heap.objs.size)) { s with heap := h' }) :
    wpAny (model prog w) A (pyNext (.ref z)) Q E s := by
  have ty : s.TypeIs (.ref z) "zip" := ⟨_, hz, rfl⟩
  unfold pyNext
  exact wpAny_bind (wpAny_attempt (wpAny_callSpecial?_slot (name := Str.ofString "__next__") ty F.slot_zip_next (wpAny_call_entry F.slot_zip_next ty F.entry_zip_next (zheld_item D hz hT ti t1 t2 ha hb hx hy fun h' c1 c2 c3 c4 c5 => wpAny_pure (q h' c1 c2 c3 c4 c5)) (F.args_zip_next_1 _))))
theorem znext_end {Q : Option Value → Shared → Prop} (hh : A.handled = none) (D : ZipApart z TI TO i1 i2 a b) (hz : IsZipHeld s.heap z TI TO T f) (hT : s.heap.get? T = some oT) (ti : IsPair s.heap TI (.ref i1) (.ref i2))
    (t1 : s.heap.IsTupleIter i1 a i) (ha : s.heap.IsTuple a xs) (hx : xs[i]? = none)
    (q : ∀ h', (∀ c o, c ≠ z → c ≠ i1 → c ≠ i2 → s.heap.get? c = some o → h'.get? c = some o) → Q none { s with heap := h' }) : wpAny (model prog w) A (pyNext (.ref z)) Q E s := by
  have ty : s.TypeIs (.ref z) "zip" := ⟨_, hz, rfl⟩
  unfold pyNext
  refine wpAny_bind (wpAny_attempt (wpAny_callSpecial?_slot (name := Str.ofString "__next__") ty F.slot_zip_next (wpAny_call_entry F.slot_zip_next ty F.entry_zip_next (zheld_end hh D hz hT ti t1 ha hx fun h' e k ⟨o, ho, hc⟩ => ?_) (F.args_zip_next_1 _))))
  exact wpAny_bind (wpAny_isInstance (T := "StopIteration") (b := true) ⟨o, ho, hc⟩ isSubtype_stop (wpAny_pure (q _ k)))
/-- where the iterator stands, i pairs given out -/
structure ZAt (h : Heap) (z TI TO i1 i2 a b : Addr) (i : Nat) : Prop where
  ti : IsPair h TI (.ref i1) (.ref i2)
  t1 : h.IsTupleIter i1 a i
  t2 : h.IsTupleIter i2 b i
  out : (IsZip h z TI TO .none ∧ ∃ u v, IsPair h TO u v) ∨ ∃ T f oT, IsZipHeld h z TI TO T f ∧ h.get? T = some oT ∧ T ≠ z ∧ T ≠ i1 ∧ T ≠ i2 ∧ T ≠ S
/-- the pairs given out -/
structure Prs (h : Heap) (lo : Addr) (xs ys : Array Value) (as : List Addr) : Prop where
  rise : as.Pairwise (· < ·)
  above : ∀ c ∈ as, lo ≤ c
  pair : ∀ (j : Nat) (c : Addr), as[j]? = some c → ∃ x y, xs[j]? = some x ∧ ys[j]? = some y ∧ IsPair h c x y
theorem Prs.there {h : Heap} {lo : Addr} {as : List Addr} (g : Prs h lo xs ys as) {c : Addr} (hc : c ∈ as) : c < h.objs.size := by
  obtain ⟨j, hj⟩ := List.mem_iff_getElem?.mp hc
  obtain ⟨_, _, _, _, e⟩ := g.pair j c hj
  exact Heap.lt_size e
theorem zat_item {Q : Option Value → Shared → Prop} (D : ZipApart z TI TO i1 i2 a b) (Z : ZAt (S := S) s.heap z TI TO i1 i2 a b i) (hS : S < s.heap.objs.size) (ha : s.heap.IsTuple a xs) (hb : s.heap.IsTuple b ys) (hx : xs[i]? = some x) (hy : ys[i]? = some y)
    (q : ∀ h', ZAt (S := S) h' z TI TO i1 i2 a b (i + 1) → IsPair h' s.heap.objs.size x y → (∀ c o, c ≠ z → c ≠ TO → c ≠ i1 → c ≠ i2 → s.heap.get? c = some o → h'.get? c = some o) → Q (some (.ref s.heap.objs.size)) { s with heap := h' }) :
    wpAny (model prog w) A (pyNext (.ref z)) Q E s := by
  have l1 : i1 < s.heap.objs.size := by obtain ⟨_, e, _⟩ := Z.t1; exact Heap.lt_size e
  have l2 : i2 < s.heap.objs.size := by obtain ⟨_, e, _⟩ := Z.t2; exact Heap.lt_size e
  rcases Z.out with ⟨hz, u, v, hO⟩ | ⟨T, f, oT, hz, hT, n1, n2, n3, n4⟩
  · have lz : z < s.heap.objs.size := Heap.lt_size hz
    refine RZ.pyNext_zipT_item D hz Z.ti hO Z.t1 Z.t2 ha hb hx hy fun h' z' o' t1' t2' hN _ k => q h' ⟨k _ _ D.TIz D.TITO D.TIi1 D.TIi2 Z.ti, t1', t2', .inr ⟨s.heap.objs.size, false, _, z', hN, Nat.ne_of_gt lz, Nat.ne_of_gt l1, Nat.ne_of_gt l2, Nat.ne_of_gt hS⟩⟩ hN k
  · refine znext_item D hz hT Z.ti Z.t1 Z.t2 ha hb hx hy fun h' z' t1' t2' hN k => q h' ⟨k _ _ D.TIz D.TIi1 D.TIi2 Z.ti, t1', t2', .inr ⟨T, true, oT, z', k _ _ n1 n2 n3 hT, n1, n2, n3, n4⟩⟩ hN fun c o m1 _ m3 m4 e => k c o m1 m3 m4 e
theorem zat_end {Q : Option Value → Shared → Prop} (hh : A.handled = none) (D : ZipApart z TI TO i1 i2 a b) (Z : ZAt (S := S) s.heap z TI TO i1 i2 a b i) (ha : s.heap.IsTuple a xs) (hb : s.heap.IsTuple b ys) (hx : xs[i]? = none)
    (q : ∀ h', (∀ c o, c ≠ z → c ≠ TO → c ≠ i1 → c ≠ i2 → s.heap.get? c = some o → h'.get? c = some o) → Q none { s with heap := h' }) : wpAny (model prog w) A (pyNext (.ref z)) Q E s := by
  rcases Z.out with ⟨hz, u, v, hO⟩ | ⟨T, f, oT, hz, hT, n1, n2, n3, n4⟩
  · exact RZ.pyNext_zipT_end hh D hz Z.ti hO Z.t1 Z.t2 ha hb (.inl hx) fun h' k => q h' k
  · exact znext_end hh D hz hT Z.ti Z.t1 ha hx fun h' k => q h' fun c o m1 _ m3 m4 e => k c o m1 m3 m4 e
theorem ZAt.keep {h h' : Heap} (Z : ZAt (S := S) h z TI TO i1 i2 a b i) (k : ∀ c o, c ≠ S → h.get? c = some o → h'.get? c = some o) (m1 : z ≠ S) (m2 : TI ≠ S) (m3 : TO ≠ S) (m4 : i1 ≠ S) (m5 : i2 ≠ S) : ZAt (S := S) h' z TI TO i1 i2 a b i :=
  ⟨k _ _ m2 Z.ti, Z.t1.at fun o e => k _ o m4 e, Z.t2.at fun o e => k _ o m5 e, Z.out.elim (fun ⟨hz, u, v, hO⟩ => .inl ⟨k _ _ m1 hz, u, v, k _ _ m3 hO⟩) fun ⟨T, f, oT, hz, hT, n1, n2, n3, n4⟩ => .inr ⟨T, f, oT, k _ _ m1 hz, k _ _ n4 hT, n1, n2, n3, n4⟩⟩
/-- all five cells and the list lie below lo -/
structure ZLow (lo S z TI TO i1 i2 a b : Addr) : Prop where
  fs : S < lo
  fz : z < lo
  fo : TO < lo
  f1 : i1 < lo
  f2 : i2 < lo
  nz : z ≠ S
  nI : TI ≠ S
  nO : TO ≠ S
  n1 : i1 ≠ S
  n2 : i2 ≠ S
  na : a ≠ S
  nb : b ≠ S
theorem zloop {R : Result → Shared → Prop} {lo : Addr} {h1 : Heap} (hh : A.handled = none) (D : ZipApart z TI TO i1 i2 a b) (L : ZLow lo S z TI TO i1 i2 a b) (ex : xs.size = n) (ey : ys.size = n) (hn : n ≤ 1000) (res : Value)
    (hR : ∀ h' acc c as, (∀ d o, d ≠ S → d ≠ z → d ≠ TO → d ≠ i1 → d ≠ i2 → h1.get? d = some o → h'.get? d = some o) → h'.get? S = some { cls := .type "list", dict := none, data := .seq acc c, slots := #[] } → as.length = n → Prs h' lo xs ys as →
      acc.toList = as.map Value.ref → R (.ok (.ret res)) { s with heap := h' }) :
    ∀ (k i : Nat) (h : Heap) (c : Nat) (acc : Array Value) (as : List Addr), n - i = k → i ≤ n → ZAt (S := S) h z TI TO i1 i2 a b i → h.IsTuple a xs → h.IsTuple b ys → (∀ d o, d ≠ S → d ≠ z → d ≠ TO → d ≠ i1 → d ≠ i2 → h1.get? d = some o → h.get? d = some o) →
      h.get? S = some { cls := .type "list", dict := none, data := .seq acc c, slots := #[] } → acc.toList = as.map Value.ref → as.length = i → Prs h lo xs ys as → lo ≤ h.objs.size →
      codeAny (model prog w) A (.builtin "list.extend.loop" ⟨[.ref S, .ref z, res], []⟩) R { s with heap := h } := by
  intro k
  induction k with
  | zero =>
    intro i h c acc as hk hi Z ha hb kp hS hacc hal G hlo
    refine codeAny_builtin PySem.F.entry_extend_loop ?_; rw [Around.under_plainId PySem.F.plain_extend_loop _]
    show wpAny _ A.in1 (pyNext (.ref z) >>= _) _ _ _
    refine wpAny_bind (zat_end (s := { s with heap := h }) (A := A.in1) hh D Z ha hb (Array.getElem?_eq_none (by omega)) fun h' k' => wpAny_pure ?_)
    refine hR h' acc c as (fun d o d0 d1 d2 d3 d4 e => k' d o d1 d2 d3 d4 (kp d o d0 d1 d2 d3 d4 e)) (k' _ _ L.nz.symm L.nO.symm L.n1.symm L.n2.symm hS) (by omega) ⟨G.rise, G.above, fun j d hj => ?_⟩ hacc
    obtain ⟨u, v, e1, e2, e3⟩ := G.pair j d hj
    have ge := G.above d (List.mem_of_getElem? hj)
    exact ⟨u, v, e1, e2, k' d _ (Nat.ne_of_gt (Nat.lt_of_lt_of_le L.fz ge)) (Nat.ne_of_gt (Nat.lt_of_lt_of_le L.fo ge)) (Nat.ne_of_gt (Nat.lt_of_lt_of_le L.f1 ge)) (Nat.ne_of_gt (Nat.lt_of_lt_of_le L.f2 ge)) e3⟩
  | succ k ih =>
    intro i h c acc as hk hi Z ha hb kp hS hacc hal G hlo
    have lt : i < n := by omega
    have hx : xs[i]? = some (xs[i]'(by omega)) := Array.getElem?_eq_getElem _
    have hy : ys[i]? = some (ys[i]'(by omega)) := Array.getElem?_eq_getElem _
    have hsz : acc.size = i := by rw [← Array.length_toList, hacc, List.length_map, hal]
    refine codeAny_builtin PySem.F.entry_extend_loop ?_; rw [Around.under_plainId PySem.F.plain_extend_loop _]
    show wpAny _ A.in1 (pyNext (.ref z) >>= _) _ _ _
    refine wpAny_bind (zat_item (s := { s with heap := h }) (S := S) D Z (Heap.lt_size hS) ha hb hx hy fun h' Z' hN k' => ?_)
    dsimp only at hN k' ⊢
    have hS' := k' S _ L.nz.symm L.nO.symm L.n1.symm L.n2.symm hS
    have up : ∀ d o, d ≠ S → h'.get? d = some o → (h'.update S (Obj.mapSeq (·.push (Value.ref h.objs.size)))).get? d = some o := fun d o hd e => (Heap.get?_update_other _ _ (Ne.symm hd)).trans e
    have lS : S < h.objs.size := Heap.lt_size hS
    show wpAny _ A.in1 (updateSeq S (·.push (Value.ref h.objs.size)) >>= _) _ _ _
    refine wpAny_bind (wpAny_updateSeq hS' rfl (wpAny_pure ⟨plainId_quiet PySem.F.plain_extend_loop _, ih (i + 1) _ _ (acc.push (Value.ref h.objs.size)) (as ++ [h.objs.size]) (by omega) lt (Z'.keep up L.nz L.nI L.nO L.n1 L.n2)
      (ha.at fun o e => up a o L.na (k' a o D.l1z D.l1TO D.l1i1 D.l1i2 e)) (hb.at fun o e => up b o L.nb (k' b o D.l2z D.l2TO D.l2i1 D.l2i2 e)) (fun d o d0 d1 d2 d3 d4 e => up d o d0 (k' d o d1 d2 d3 d4 (kp d o d0 d1 d2 d3 d4 e)))
      (Heap.get?_update_self _ hS' rfl) (by rw [Array.toList_push, hacc, List.map_append]; rfl) (by rw [List.length_append, hal]; rfl) ⟨?_, ?_, ?_⟩ ?_⟩) ?_ ?_)
    · exact List.pairwise_append.mpr ⟨G.rise, List.pairwise_singleton _ _, fun u hu v hv => by rw [List.mem_singleton.mp hv]; exact G.there hu⟩
    · intro u hu
      rcases List.mem_append.mp hu with hu | hu
      · exact G.above u hu
      · rw [List.mem_singleton.mp hu]; exact hlo
    · intro j d hj
      by_cases h1 : j < as.length
      · rw [List.getElem?_append_left h1] at hj
        obtain ⟨u, v, e1, e2, e3⟩ := G.pair j d hj
        have ge := G.above d (List.mem_of_getElem? hj)
        exact ⟨u, v, e1, e2, up d _ (Nat.ne_of_gt (Nat.lt_of_lt_of_le L.fs ge)) (k' d _ (Nat.ne_of_gt (Nat.lt_of_lt_of_le L.fz ge)) (Nat.ne_of_gt (Nat.lt_of_lt_of_le L.fo ge)) (Nat.ne_of_gt (Nat.lt_of_lt_of_le L.f1 ge)) (Nat.ne_of_gt (Nat.lt_of_lt_of_le L.f2 ge)) e3)⟩
      · rw [List.getElem?_append_right (by omega)] at hj
        have e0 : j - as.length = 0 := by
          cases e : j - as.length with
          | zero => rfl
          | succ m => rw [e] at hj; simp at hj
        rw [e0] at hj
        have hd : h.objs.size = d := by simpa using hj
        have hji : j = i := by omega
        subst hd
        subst hji
        exact ⟨_, _, hx, hy, up _ _ (Nat.ne_of_gt lS) hN⟩
    · have e : (h'.update S (Obj.mapSeq (·.push (Value.ref h.objs.size)))).get? h.objs.size = _ := up _ _ (Nat.ne_of_gt lS) hN
      exact Nat.le_trans hlo (Nat.le_of_lt (Heap.lt_size e))
    · rw [hsz]; exact Nat.le_of_lt (lt1000 (by omega))
    · show (acc.push (Value.ref h.objs.size)).size ≤ sizeLine + 1
      rw [Array.size_push, hsz]
      have := lt1000 (show i ≤ 1000 by omega)
      omega
end
end R1

namespace R1
open PySem PySem.Spec PyProof.Rows L2
section
variable {prog : Program} {w : World} {A : Around} {E : Value → Shared → Prop} {s : Shared} {z TI TO i1 i2 a b S : Addr} {n : Nat} {xs ys : Array Value} {u v : Value}
theorem zip_hint (hz : s.TypeIs (.ref z) "zip") {Q : Bool → Shared → Prop} (q : Q true s) : wpAny (model prog w) A (Builtin.List.listLengthHint (.ref z)) Q E s := by
  unfold Builtin.List.listLengthHint
  refine wpAny_bind (wpAny_specialOf hz zip_has_no_len ?_)
  show wpAny _ A (specialOf (Value.ref z) (Str.ofString "__length_hint__") >>= _) _ _ _
  exact wpAny_bind (wpAny_specialOf hz zip_has_no_hint (wpAny_pure q))
def ZKept (S z TO i1 i2 : Addr) (h h' : Heap) : Prop := ∀ d o, d ≠ S → d ≠ z → d ≠ TO → d ≠ i1 → d ≠ i2 → h.get? d = some o → h'.get? d = some o
theorem zextend {R : Result → Shared → Prop} {c0 : Nat} (hh : A.handled = none) (D : ZipApart z TI TO i1 i2 a b) (L : ZLow s.heap.objs.size S z TI TO i1 i2 a b) (hz : IsZip s.heap z TI TO .none) (ti : IsPair s.heap TI (.ref i1) (.ref i2)) (hO : IsPair s.heap TO u v)
    (t1 : s.heap.IsTupleIter i1 a 0) (t2 : s.heap.IsTupleIter i2 b 0) (ha : s.heap.IsTuple a xs) (hb : s.heap.IsTuple b ys) (ex : xs.size = n) (ey : ys.size = n) (hn : n ≤ 1000) (res : Value) (hS : s.heap.get? S = some { cls := .type "list", data := .seq #[] c0 })
    (hR : ∀ h' acc c as, ZKept S z TO i1 i2 s.heap h' → h'.get? S = some { cls := .type "list", dict := none, data := .seq acc c, slots := #[] } → as.length = n → Prs h' s.heap.objs.size xs ys as → acc.toList = as.map Value.ref → R (.ok (.ret res)) { s with heap := h' }) :
    wpAny (model prog w) A.in1 (Builtin.List.listExtendWith (.ref S) (.ref z) res)
      (fun r s' => match r with | .done f => R (.ok f) s' | .again c' => c'.quiet = true ∧ codeAny (model prog w) A c' R s') (fun e s' => R (.error e) s') s := by
  have ty : s.TypeIs (.ref z) "zip" := ⟨_, hz, rfl⟩
  have n1 : Builtin.List.listSameRef (.ref S) (.ref z) = false := by simp [Builtin.List.listSameRef, L.nz.symm]
  have n2 : (Value.type "zip" == Value.type "list") = false := by decide
  have n3 : (Value.type "zip" == Value.type "tuple") = false := by decide
  unfold Builtin.List.listExtendWith
  refine wpAny_bind (wpAny_typeOf ty ?_); simp only [n1, n2, n3, Bool.or_false, Bool.false_eq_true, if_false]
  refine wpAny_bind (wpAny_pyIter_zip hz ?_); refine wpAny_bind (wpAny_holding (zip_hint ty ?_)); simp only [Bool.true_or, if_true]
  refine wpAny_bind (wpAny_rule ?_)
  refine wpAny_bind ?_; show wpAny _ A.in1 (updateSeq S (·.push .none) >>= fun _ => updateSeq S (·.pop)) _ _ s
  refine wpAny_bind (wpAny_updateSeq hS rfl ?_)
  have g2 := Heap.get?_update_self (Obj.mapSeq (·.push Value.none)) hS rfl
  refine wpAny_updateSeq (hz := by seq_fits) g2 rfl ?_
  have g3 := Heap.get?_update_self (Obj.mapSeq (·.pop)) g2 rfl
  have ot : ∀ d o, d ≠ S → s.heap.get? d = some o → ((s.heap.update S (Obj.mapSeq (·.push Value.none))).update S (Obj.mapSeq (·.pop))).get? d = some o := fun d o hd e =>
    (Heap.get?_update_other _ _ (Ne.symm hd)).trans ((Heap.get?_update_other _ _ (Ne.symm hd)).trans e)
  generalize eh : (s.heap.update S (Obj.mapSeq (·.push Value.none))).update S (Obj.mapSeq (·.pop)) = hf at g3 ot ⊢
  have sz : s.heap.objs.size ≤ hf.objs.size := by rw [← eh]; simp [Heap.update]
  have Z0 : ZAt (S := S) s.heap z TI TO i1 i2 a b 0 := ⟨ti, t1, t2, .inl ⟨hz, u, v, hO⟩⟩
  exact wpAny_pure ⟨plainId_quiet PySem.F.plain_extend_loop _, zloop (s := s) (h1 := s.heap) hh D L ex ey hn res (fun h' acc c as kp hS' hl G hacc => hR h' acc c as kp hS' hl G hacc) n 0 hf _ _ [] (Nat.sub_zero _) (Nat.zero_le _) (Z0.keep ot L.nz L.nI L.nO L.n1 L.n2)
    (ha.at fun o e => ot a o L.na e) (hb.at fun o e => ot b o L.nb e) (fun d o d0 _ _ _ _ e => ot d o d0 e) g3 rfl rfl ⟨List.Pairwise.nil, (fun _ h => nomatch h), fun j c hj => by simp at hj⟩ sz⟩
theorem zcall {Q : Value → Shared → Prop} (hh : A.handled = none) (D : ZipApart z TI TO i1 i2 a b) (hz : IsZip s.heap z TI TO .none) (ti : IsPair s.heap TI (.ref i1) (.ref i2)) (hO : IsPair s.heap TO u v)
    (t1 : s.heap.IsTupleIter i1 a 0) (t2 : s.heap.IsTupleIter i2 b 0) (ha : s.heap.IsTuple a xs) (hb : s.heap.IsTuple b ys) (ex : xs.size = n) (ey : ys.size = n) (hn : n ≤ 1000)
    (q : ∀ h' acc c as, (∀ d o, d ≠ z → d ≠ TO → d ≠ i1 → d ≠ i2 → s.heap.get? d = some o → h'.get? d = some o) → h'.get? s.heap.objs.size = some { cls := .type "list", dict := none, data := .seq acc c, slots := #[] } → as.length = n → Prs h' (s.heap.objs.size + 1) xs ys as →
      acc.toList = as.map Value.ref → Q (.ref s.heap.objs.size) { s with heap := h' }) : wpAny (model prog w) A (call (.type "list") [.ref z]) Q E s := by
  have lz : z < s.heap.objs.size := Heap.lt_size hz
  have lI : TI < s.heap.objs.size := Heap.lt_size ti
  have lO : TO < s.heap.objs.size := Heap.lt_size hO
  have l1 : i1 < s.heap.objs.size := by obtain ⟨_, e, _⟩ := t1; exact Heap.lt_size e
  have l2 : i2 < s.heap.objs.size := by obtain ⟨_, e, _⟩ := t2; exact Heap.lt_size e
  have la : a < s.heap.objs.size := by obtain ⟨_, e, _⟩ := id ha; exact Heap.lt_size e
  have lb : b < s.heap.objs.size := by obtain ⟨_, e, _⟩ := id hb; exact Heap.lt_size e
  refine callType_codes (Q₁ := fun obj s2 => obj = .ref s.heap.objs.size ∧ s2 = { s with heap := s.heap.push { cls := .type "list", data := .seq #[] } }) PySem.F.called_list (PySem.F.typeCall_list_1 _) PySem.F.entry_list_init (code_list_new _ ⟨rfl, rfl⟩) fun obj s2 h2 => ?_
  obtain ⟨rfl, rfl⟩ := h2
  have hS : (s.heap.push { cls := .type "list", data := .seq #[] }).get? s.heap.objs.size = some { cls := .type "list", data := .seq #[] } := Heap.get?_push_size _ rfl
  have pz : (s.heap.push { cls := .type "list", data := .seq #[] }).objs.size = s.heap.objs.size + 1 := Heap.size_push ..
  have up : ∀ d o, s.heap.get? d = some o → (s.heap.push { cls := .type "list", data := .seq #[] }).get? d = some o := fun d o e => Heap.get?_push_of_some _ e
  generalize eg : s.heap.push { cls := .type "list", data := .seq #[] } = g at hS pz up ⊢
  refine ⟨⟨_, hS, rfl⟩, PySem.F.args_list_init_2 _ _, ?_⟩
  show wpAny _ _ (do let old ← Builtin.List.listItems (.ref s.heap.objs.size); Builtin.List.listUpdate (.ref s.heap.objs.size) (fun _ => #[]); letGo old.toList.reverse; Builtin.List.listExtendWith (.ref s.heap.objs.size) (.ref z) .none) _ _ _
  refine wpAny_bind ?_; unfold Builtin.List.listItems
  refine wpAny_bind (wpAny_seqItems hS rfl (wpAny_pure ?_))
  show wpAny _ _ (updateSeq s.heap.objs.size (fun _ => #[]) >>= fun _ => letGo (#[] : Array Value).toList.reverse >>= fun _ => Builtin.List.listExtendWith (.ref s.heap.objs.size) (.ref z) .none) _ _ _
  refine wpAny_bind (wpAny_updateSeq hS rfl ?_)
  have hS2 := Heap.get?_update_self (Obj.mapSeq (fun _ => (#[] : Array Value))) hS rfl
  have ot : ∀ d o, d ≠ s.heap.objs.size → g.get? d = some o → (g.update s.heap.objs.size (Obj.mapSeq (fun _ => (#[] : Array Value)))).get? d = some o := fun d o hd e => (Heap.get?_update_other _ _ (Ne.symm hd)).trans e
  have sz2 : (g.update s.heap.objs.size (Obj.mapSeq (fun _ => (#[] : Array Value)))).objs.size = s.heap.objs.size + 1 := by rw [← pz]; simp [Heap.update]
  refine wpAny_bind (wpAny_letGo ?_)
  generalize g.update s.heap.objs.size (Obj.mapSeq (fun _ => (#[] : Array Value))) = g2 at hS2 ot sz2 ⊢
  have k2 : ∀ d o, s.heap.get? d = some o → g2.get? d = some o := fun d o e => ot d o (Nat.ne_of_lt (Heap.lt_size e)) (up d o e)
  refine zextend (A := A.in1) (R := wants (fun r s₂ => r = Value.none ∧ Q (Value.ref s.heap.objs.size) s₂) E) (s := { s with heap := g2 }) (n := n) hh D ⟨?_, ?_, ?_, ?_, ?_, Nat.ne_of_lt lz, Nat.ne_of_lt lI, Nat.ne_of_lt lO, Nat.ne_of_lt l1, Nat.ne_of_lt l2, Nat.ne_of_lt la, Nat.ne_of_lt lb⟩ (k2 _ _ hz) (k2 _ _ ti) (k2 _ _ hO)
    (t1.at fun o e => k2 _ o e) (t2.at fun o e => k2 _ o e) (ha.at fun o e => k2 _ o e) (hb.at fun o e => k2 _ o e) ex ey hn .none hS2 fun h' acc c as kp hS' hl G hacc => ⟨rfl, q h' acc c as (fun d o d1 d2 d3 d4 e => kp d o (Nat.ne_of_lt (Heap.lt_size e)) d1 d2 d3 d4 (k2 d o e)) hS' hl (by rw [← sz2]; exact G) hacc⟩
  all_goals (show _ < g2.objs.size; rw [sz2])
  · exact Nat.lt_succ_self _
  · exact Nat.lt_succ_of_lt lz
  · exact Nat.lt_succ_of_lt lO
  · exact Nat.lt_succ_of_lt l1
  · exact Nat.lt_succ_of_lt l2
end
/-! ### tracked -/
def putP : Hp → List Addr → List (V × V) → Hp
  | H, c :: cs, p :: ps => putP (upd H c (.tup [p.1, p.2])) cs ps
  | H, _, _ => H
theorem putP_off {d : Addr} : ∀ (cs : List Addr) (ps : List (V × V)) (H : Hp), d ∉ cs → putP H cs ps d = H d
  | [], _, _, _ => rfl
  | _ :: _, [], _, _ => rfl
  | c :: cs, p :: ps, H, h => by
    have h2 : d ≠ c ∧ d ∉ cs := ⟨fun e => h (e ▸ List.mem_cons_self), fun e => h (List.mem_cons_of_mem _ e)⟩
    show putP (upd H c (.tup [p.1, p.2])) cs ps d = H d
    rw [putP_off cs ps _ h2.2, upd_ne h2.1]
theorem putP_at : ∀ (cs : List Addr) (ps : List (V × V)) (H : Hp), cs.Nodup → ∀ (j : Nat) (c : Addr) (p : V × V), cs[j]? = some c → ps[j]? = some p → putP H cs ps c = some (.tup [p.1, p.2])
  | [], _, _, _, _, _, _, h, _ => by simp at h
  | _ :: _, [], _, _, _, _, _, _, h => by simp at h
  | c :: cs, p :: ps, H, nd, 0, d, r, h1, h2 => by
    cases h1; cases h2
    show putP (upd H c (.tup [p.1, p.2])) cs ps c = _
    rw [putP_off cs ps _ (List.nodup_cons.mp nd).1, upd_same]
  | c :: cs, p :: ps, H, nd, j + 1, d, r, h1, h2 => putP_at cs ps _ (List.nodup_cons.mp nd).2 j d r (by simpa using h1) (by simpa using h2)
theorem refs_vals : ∀ as : List Addr, Vals (as.map V.ref) (as.map Value.ref)
  | [] => .nil
  | _ :: as => .cons rfl (refs_vals as)
theorem LiI_get : ∀ {vs : List V} {us : List Value}, Vals vs us → ∀ {j : Nat} {u : Value}, us[j]? = some u → ∃ v, vs[j]? = some v ∧ RelV v u
  | _, _, .nil, j, u, h => by simp at h
  | _, _, .cons r t, 0, u, h => by cases h; exact ⟨_, rfl, r⟩
  | _, _, .cons r t, j + 1, u, h => by simpa using LiI_get t (by simpa using h)
section
variable {X : Cx}
theorem zip_laid {pins : List (Addr × Obj)} {σ : L2.St} {H : Hp} {s : Shared} {h' : Heap} {l : Addr} {acc : Array Value} {c tk : Nat} {as : List Addr} {vs ws : List V} {us rs : List Value} (I : Inv X pins σ H s) (rv : Vals vs us) (rw' : Vals ws rs) (hl : as.length ≤ 1000) (hk : ∀ d o, s.heap.get? d = some o → h'.get? d = some o)
    (ll : s.heap.objs.size ≤ l) {lw : Addr} (hlw : l < lw) (hS : h'.get? l = some { cls := .type "list", dict := none, data := .seq acc c, slots := #[] }) (G : Prs h' lw us.toArray rs.toArray as) (hacc : acc.toList = as.map Value.ref) :
    ∃ H' : Hp, Same H H' ∧ H l = none ∧ H' l = some (.lst (as.map V.ref)) ∧ (∀ (j : Nat) (d : Addr) (x y : V), as[j]? = some d → vs[j]? = some x → ws[j]? = some y → H' d = some (.tup [x, y])) ∧ Inv X pins σ H' { s with heap := h', toks := tk } := by
  have nd : as.Nodup := List.Pairwise.imp (fun {d e} (h : d < e) => Nat.ne_of_lt h) G.rise
  have lo : ∀ d ∈ as, s.heap.objs.size ≤ d ∧ d ≠ l := fun d hd => by
    have q : l < d := Nat.lt_of_lt_of_le hlw (G.above d hd)
    exact ⟨Nat.le_of_lt (Nat.lt_of_le_of_lt ll q), Nat.ne_of_gt q⟩
  have nl : H l = none := I.hok.fresh ll
  have nw : ∀ d ∈ as, H d = none := fun d hd => I.hok.fresh (lo d hd).1
  have zl : (vs.zip ws).length = min vs.length ws.length := List.length_zip
  have gz : ∀ (j : Nat) (x y : V), vs[j]? = some x → ws[j]? = some y → (vs.zip ws)[j]? = some (x, y) := fun j x y h1 h2 => List.getElem?_zip_eq_some.mpr ⟨h1, h2⟩
  generalize eH : putP (upd H l (.lst (as.map V.ref))) as (vs.zip ws) = H'
  have off : ∀ d, d ∉ as → d ≠ l → H' d = H d := fun d h1 h2 => by rw [← eH, putP_off as _ _ h1, upd_ne h2]
  have atl : H' l = some (.lst (as.map V.ref)) := by rw [← eH, putP_off as _ _ (fun z => (lo l z).2 rfl), upd_same]
  have att : ∀ (j : Nat) (d : Addr) (x y : V), as[j]? = some d → vs[j]? = some x → ws[j]? = some y → H' d = some (.tup [x, y]) := fun j d x y h1 h2 h3 => by
    rw [← eH]; exact putP_at as _ _ nd j d (x, y) h1 (gz j x y h2 h3)
  have kp : Same H H' := fun d o e => by
    rw [off d (fun z => by rw [nw d z] at e; cases e) (fun z => by rw [z, nl] at e; cases e)]; exact e
  refine ⟨H', kp, nl, atl, att, I.call' (ch := []) rfl ⟨fun d o e _ _ _ => hk d o e, fun d o e _ _ _ => ⟨o.slots, hk d o e⟩, fun d o e n _ => ?_, fun d o e _ => ⟨o, hk d o e⟩, fun d r e => kp d _ e, fun d o r e => kp d _ e, fun d r e => ⟨#[], by rw [kp d _ e]; simp⟩⟩ (fun d o e => ?_) I.bare fun d z => by simp at z⟩
  · have q := Heap.lt_size e
    rw [off d (fun z => absurd q (Nat.not_lt.mpr (lo d z).1)) (fun z => absurd q (Nat.not_lt.mpr (z ▸ ll)))]; exact n
  · by_cases hd : d ∈ as
    · obtain ⟨j, hj⟩ := List.mem_iff_getElem?.mp hd
      obtain ⟨x, y, e1, e2, e3⟩ := G.pair j d hj
      obtain ⟨p, hp, rp⟩ := LiI_get rv (by simpa using e1)
      obtain ⟨r, hr, rr⟩ := LiI_get rw' (by simpa using e2)
      rw [att j d p r hj hp hr] at e
      cases e
      exact ⟨by show 2 ≤ sizeLine; decide, [x, y], .cons rp (.cons rr .nil), ⟨_, e3, rfl, _, rfl⟩⟩
    · by_cases h2 : d = l
      · subst h2
        rw [atl] at e
        cases e
        refine ⟨by rw [List.length_map]; exact Nat.le_of_lt (lt1000 hl), acc.toList, c, by rw [hacc]; exact refs_vals as, ?_⟩
        rw [Array.toArray_toList]; exact hS
      · rw [off d hd h2] at e
        exact (I.hok d o e).stay (fun g v _ y => hk g v y) (fun g y => kp g _ y) fun g r y => kp g _ y
def tListZip (K : PySem.W.Frag) (ta : TA) : TE := fun σ H Q => ta σ H fun vs H1 => ∃ a b xs ys, vs = [.ref a, .ref b] ∧ SqT K H1 a xs ∧ SqT K H1 b ys ∧ xs.length = ys.length ∧ xs.length ≤ 1000 ∧
  ∀ (H2 : Hp) (l : Addr) (as : List Addr), Same H1 H2 → H1 l = none → as.length = xs.length → H2 l = some (.lst (as.map V.ref)) → (∀ (j : Nat) (d : Addr) (x y : V), as[j]? = some d → xs[j]? = some x → ys[j]? = some y → H2 d = some (.tup [x, y])) → Q (.ref l) H2
theorem pe_listZip {e e2 : Expr} {ta : TA} {p p2 pos pos2 : Pos} (hc : X.calm = true) (hg : Gl X "list") (hm : X.mg "list" = none) (hg2 : Gl X "zip") (hm2 : X.mg "zip" = none) (ha : PA X [e, e2] ta)
    (na : starEach [.Call (.Name "zip" p2) [e, e2] [] pos2] X.env = (false, eval (.Call (.Name "zip" p2) [e, e2] [] pos2) X.env) :: starEach [] X.env := by rfl)
    (hs : starEach [e, e2] X.env = (false, eval e X.env) :: starEach [e2] X.env := by rfl) (hpl : (backTo pos2 (starEach [e2] X.env)).any (·.1) = false := by rfl) :
    PE X (.Call (.Name "list" p) [.Call (.Name "zip" p2) [e, e2] [] pos2] [] pos) (tListZip X.K ta) := by
  refine ⟨fun pins s σ H Q I h => ?_⟩
  refine Call_ (ld_blt I hg hm PyProof.Rows.boot_list ?_)
  refine PyProof.Rows.callWith_type1 (PyProof.Rows.args_cons ?_ na) na rfl
  refine Call_ (ld_blt I hg2 hm2 PyProof.Rows.boot_zip (PyProof.Rows.callWith_type1 (thn (ha.run pos2 pins s σ H _ I h) fun us s1 ⟨vs, H1, I1, r1, q1⟩ => ?_) hs hpl))
  obtain ⟨a, b, xs, ys, rfl, hqx, hqy, hl, hl2, q⟩ := q1
  obtain ⟨u1, u2, rfl, e1, e2⟩ := vals2 r1
  obtain rfl : u1 = Value.ref a := e1
  obtain rfl : u2 = Value.ref b := e2
  obtain ⟨its, rv, p1, _⟩ := I1.tuple hqx
  obtain ⟨its2, rv2, p2', _⟩ := I1.tuple hqy
  obtain ⟨o1, ho1, _⟩ := id p1
  obtain ⟨o2, ho2, _⟩ := id p2'
  have y1 := rv.length
  have y2 := rv2.length
  refine RZ.call_zipT (show s1.heap.IsTuple a its.toArray from p1) (show s1.heap.IsTuple b its2.toArray from p2') fun h' hz hTI hTO h1 h2 hsz hk => ?_
  refine PyProof.Rows.args_nil ?_
  refine zcall (s := { s1 with heap := h' }) (n := xs.length) (xs := its.toArray) (ys := its2.toArray) (I1.ok.hd hc) (PySem.W.ktu_apart s1.heap.objs.size a b (Heap.lt_size ho1) (Heap.lt_size ho2)) hz hTI hTO h1 h2 (let ⟨o, ho, r⟩ := p1; ⟨o, hk a o ho, r⟩) (let ⟨o, ho, r⟩ := p2'; ⟨o, hk b o ho, r⟩) (by rw [List.size_toArray]; omega) (by rw [List.size_toArray]; omega) hl2 fun h3 acc c as k3 hS hal G hacc => ?_
  have I2 : Inv X pins σ H1 { s1 with heap := h' } := I1.kept (t' := s1.toks) hk
  have ne : ∀ d o, s1.heap.get? d = some o → h3.get? d = some o := fun d o e => by
    have q := Heap.lt_size e
    have nq : ∀ m : Nat, d ≠ s1.heap.objs.size + m := fun m z => absurd q (Nat.not_lt.mpr (z ▸ Nat.le_add_right _ _))
    exact k3 d o (nq 4) (nq 3) (nq 0) (nq 1) (hk d o e)
  obtain ⟨H2, sm, n0, at0, att, J⟩ := zip_laid (tk := s1.toks) I1 rv rv2 (by omega) ne (by rw [hsz]; omega) (Nat.lt_succ_self _) hS G hacc
  exact ⟨.ref h'.objs.size, H2, J, rfl, q H2 _ as sm n0 hal at0 att⟩
end
end R1

/-! text * int, the int any count -/
namespace R1
open PySem PySem.Spec PyProof.Rows L2
def repT (n : Nat) (z : List Nat) : List Nat := (List.replicate n z).flatten
theorem rep_fold (z : Array Nat) : ∀ (n : Nat) (b : Array Nat), ((List.replicate n z).foldl (· ++ ·) b).toList = b.toList ++ (List.replicate n z.toList).flatten
  | 0, b => by simp
  | n + 1, b => by
    rw [List.replicate_succ, List.foldl_cons, rep_fold z n, Array.toList_append, List.replicate_succ, List.flatten_cons, List.append_assoc]
theorem rep_len (z : List Nat) : ∀ n : Nat, (repT n z).length = n * z.length
  | 0 => by simp [repT]
  | n + 1 => by
    have := rep_len z n
    unfold repT at *
    rw [List.replicate_succ, List.flatten_cons, List.length_append, this, Nat.add_mul]
    omega
theorem op_rep {X : Cx} : OpR X (binaryOp .Mult) (fun x y H Q => ∃ (z : List Nat) (n : Nat), x = .str ⟨z.toArray⟩ ∧ y = .int n ∧ n ≤ 1000 ∧ 1 ≤ z.length ∧ z.length ≤ 1000 ∧ Q (.str ⟨(repT n z).toArray⟩) H) := by
  intro pins s σ H x y v u Q I rx ry h
  obtain ⟨z, n, rfl, rfl, h2, h3, h4, q⟩ := h
  obtain ⟨t, rfl⟩ := rx
  obtain ⟨t', rfl⟩ := ry
  have ez : (⟨z.toArray⟩ : Str).length = z.length := by show z.toArray.size = _; simp
  have e24 : sizeLine = 16777216 := by decide
  have hm : z.length * n ≤ 1000 * 1000 := Nat.mul_le_mul h4 h2
  refine PySem.P.mul_str ?_ (fun h1 _ => ?_) (fun _ _ => ?_) ?_
  · rw [decide_eq_false (by omega), decide_eq_false (by omega)]
    rfl
  · have : (1000 : Int) ≤ (2 ^ 63 - 1) / (n : Int) := by
      rw [Int.le_ediv_iff_mul_le (by omega)]
      omega
    rw [ez]
    omega
  · refine decide_eq_false ?_
    rw [e24, ez, Int.toNat_natCast]
    omega
  · have fin : ∀ s' : Shared, s' = { s with toks := s.toks + 1 } → EP X pins σ Q (.str ⟨(repT n z).toArray⟩ s.toks) s' := fun s' e => by
      subst e
      exact ⟨.str ⟨(repT n z).toArray⟩, H, I.tok _, ⟨_, rfl⟩, q⟩
    by_cases h0 : n = 0
    · subst h0
      rw [if_pos (by decide)]
      exact ⟨by decide, fin _ rfl⟩
    · rw [if_neg (by omega)]
      by_cases h1 : n = 1
      · subst h1
        rw [if_pos (by rfl)]
        have e1 : repT 1 z = z := by simp [repT]
        rw [e1] at q
        exact ⟨.str ⟨z.toArray⟩, H, I, ⟨_, rfl⟩, q⟩
      · have c1 : ((n : Int) == 1 || (⟨z.toArray⟩ : Str).length == 0) = false := by
          rw [Bool.or_eq_false_iff, ez]
          exact ⟨by rw [beq_eq_false_iff_ne]; omega, by rw [beq_eq_false_iff_ne]; omega⟩
        rw [c1, if_neg Bool.false_ne_true]
        have eq : (⟨(List.replicate (n : Int).toNat (⟨z.toArray⟩ : Str).cps).foldl (· ++ ·) #[]⟩ : Str) = ⟨(repT n z).toArray⟩ := by
          congr 1
          apply Array.toList_inj.mp
          rw [rep_fold, Int.toNat_natCast]
          simp [repT]
        rw [eq]
        refine ⟨?_, fin _ rfl⟩
        show (repT n z).toArray.size ≤ sizeLine
        rw [e24, List.size_toArray, rep_len, Nat.mul_comm]
        omega
end R1

/-! t[::-1], t a tuple -/
namespace R1
open PySem PySem.Spec PyProof.Rows L2 HT
section
variable {prog : Program} {w : World} {A : Around} {E : Value → Shared → Prop} {s : Shared}
theorem adjust_rev (n : Nat) : Builtin.Slice.sliceAdjust none none (-1) (n : Int) = ((n : Int) - 1, -1) := by
  unfold Builtin.Slice.sliceAdjust
  simp
theorem places_rev (n : Nat) : Builtin.Slice.slicePlaces ((n : Int) - 1) (-1) (-1) = n := by
  unfold Builtin.Slice.slicePlaces
  have h1 : ¬ ((-1 : Int) > 0) := by decide
  simp only [h1, if_false]
  split
  · rw [show (-(-1 : Int)) = 1 by decide, Int.ediv_one]
    omega
  · omega
theorem applied_rev {sl : Addr} {v : Value} {n : Nat} {Q : Int × Int × Nat → Shared → Prop} (hs : s.heap.IsSliceOf sl .none .none v) (p : IsPart v (some (-1))) (q : Q ((n : Int) - 1, -1, n) s) : wpAny (model prog w) A (Builtin.Slice.sliceApplied (.ref sl) (pure (n : Int))) Q E s := by
  obtain ⟨os, hos, hcs, hds⟩ := id hs
  unfold Builtin.Slice.sliceApplied Builtin.Slice.sliceFields
  refine wpAny_bind (wpAny_bind (wpAny_field hos hds (x := .none) rfl (wpAny_bind (wpAny_field hos hds (x := .none) rfl (wpAny_bind (wpAny_field hos hds (x := v) rfl (wpAny_pure ?_)))))))
  refine wpAny_bind (slicePart_ p ?_)
  show wpAny _ _ (if ((-1 : Int) == 0) = true then _ else _) _ _ s
  rw [if_neg (by decide)]
  refine wpAny_bind (slicePart_none (wpAny_bind (slicePart_none (wpAny_bind (wpAny_pure ?_)))))
  show wpAny _ _ (match Builtin.Slice.sliceAdjust none none (-1) (n : Int) with | (l, u) => pure (l, (-1 : Int), Builtin.Slice.slicePlaces l u (-1))) _ _ s
  rw [adjust_rev n]
  show wpAny _ _ (pure ((n : Int) - 1, (-1 : Int), Builtin.Slice.slicePlaces ((n : Int) - 1) (-1) (-1))) _ _ s
  rw [places_rev]
  exact wpAny_pure q
theorem pick_rev (xs : Array Value) : ((List.range xs.size).filterMap fun (m : Nat) => xs[(((xs.size : Int) - 1) + (m : Int) * (-1)).toNat]?).toArray = xs.toList.reverse.toArray := by
  congr 1
  have e : (fun (m : Nat) => xs[(((xs.size : Int) - 1) + (m : Int) * (-1)).toNat]?) = fun m => xs[xs.size - 1 - m]? := by
    funext m
    have : (((xs.size : Int) - 1) + (m : Int) * (-1)).toNat = xs.size - 1 - m := by omega
    rw [this]
  rw [e]
  have f : (List.range xs.size).filterMap (fun m => xs[xs.size - 1 - m]?) = ((List.range xs.size).map fun k => xs.size - 1 - k).filterMap (xs[·]?) := by
    rw [List.filterMap_map]; rfl
  rw [f, PySem.W.krv_range, List.filterMap_reverse, PySem.W.krv_all]
theorem getItem_rev {t sl : Addr} {items : Array Value} {v : Value} {Q : Value → Shared → Prop} (ht : IsTup s.heap t items) (hs : s.heap.IsSliceOf sl .none .none v) (p : IsPart v (some (-1)))
    (h : Q (.ref s.heap.objs.size) { s with heap := s.heap.push { cls := .type "tuple", data := .seq items.toList.reverse.toArray } }) (hz : items.size ≤ sizeLine) : wpAny (model prog w) A (getItem (.ref t) (.ref sl)) Q E s := by
  have hz2 : sizeOk (.seq items.toList.reverse.toArray) := by
    show items.toList.reverse.toArray.size ≤ sizeLine
    rw [List.size_toArray, List.length_reverse, Array.length_toList]; exact hz
  obtain ⟨os, hos, hcs, hds⟩ := id hs
  have ty : s.TypeIs (.ref sl) "slice" := ⟨os, hos, hcs⟩
  unfold getItem
  try with_reducible refine wpAny_holding ?_
  first | refine wpAny_bind (wpAny_pure ?_) | skip
  refine wpAny_bind (wpAny_sequenceKey ht.typeIs (by decide) ?_)
  refine wpAny_bind (wpAny_callSpecial?_slot (name := Str.ofString "__getitem__") ht.typeIs PyProof.Rows.slot_tuple_getitem (wpAny_call_entry PyProof.Rows.slot_tuple_getitem ht.typeIs entry_tuple_getitem ?_ (args_tuple_getitem _ _)))
  show wpAny _ _ (Builtin.Tuple.tupleItemsOf (.ref t) >>= _) _ _ s
  refine wpAny_bind (tupleItemsOf_ ht ?_)
  refine wpAny_bind (wpAny_typeOf ty ?_)
  rw [if_pos (by decide)]
  refine wpAny_bind (applied_rev hs p ?_)
  have hno : ¬ ((((items.size : Int) - 1) == 0 && (-1 : Int) == 1 && items.size == items.size) = true) := by
    rw [show ((-1 : Int) == 1) = false from by decide]
    simp
  show wpAny _ _ (if (((items.size : Int) - 1) == 0 && (-1 : Int) == 1 && items.size == items.size) = true then _ else _) _ _ s
  rw [if_neg hno, pick_rev]
  first
    | exact wpAny_bind (m := Builtin.Tuple.tupleExact _) (wpAny_newObj_type (wpAny_pure ⟨_, rfl, wpAny_pure h⟩) hz2)
    | exact wpAny_bind (m := Builtin.Tuple.tupleExact _) (wpAny_newObj_type (wpAny_bind (wpAny_pure (wpAny_pure ⟨_, rfl, wpAny_pure h⟩))) hz2)
    | exact wpAny_bind (wpAny_bind (m := Builtin.Tuple.tupleExact _) (wpAny_newObj_type (wpAny_pure (wpAny_pure ⟨_, rfl, wpAny_pure h⟩)) hz2))
    | exact wpAny_bind (wpAny_bind (m := Builtin.Tuple.tupleExact _) (wpAny_newObj_type (wpAny_pure ⟨_, rfl, wpAny_pure h⟩) hz2))
end
def tRevT (K : PySem.W.Frag) (te : TE) : TE := fun σ H Q => te σ H fun x H1 => ∃ a xs, x = .ref a ∧ SqT K H1 a xs ∧ ∀ p, H1 p = none → Q (.ref p) (upd H1 p (.tup xs.reverse))
theorem pe_revT {X : Cx} {e : Expr} {te : TE} {k : Nat} {p1 p2 p3 pos : Pos} (he : PE X e te) : PE X (.Subscript e (.Slice none none (some (.UnaryOp .USub (.Constant (.int 1) k p1) p2)) p3) pos) (tRevT X.K te) := by
  refine ⟨fun pins s σ H Q I h => Subscript_ (thn (he.run pins s σ H _ I h) fun v s1 ⟨x, H1, I1, r1, a, xs, ex, hx, q⟩ => ?_)⟩
  subst ex
  cases r1
  have ps : PO X (some (.UnaryOp .USub (.Constant (.int 1) k p1) p2)) (tPart (tUn (rU fun i => .int (-i)) (tC (.int 1)))) := po_some (pe_un un_neg pe_int)
  refine wpAny_Slice (thn (po_none.run pins s1 σ H1 (fun o F => o = none ∧ F = H1) I1 ⟨rfl, rfl⟩) fun vl s2 ⟨l, H2, I2, pl, el, e2⟩ => ?_)
  subst el e2
  refine thn (po_none.run pins s2 σ H2 (fun o F => o = none ∧ F = H2) I2 ⟨rfl, rfl⟩) fun vu s3 ⟨u, H3, I3, pu, eu, e3⟩ => ?_
  subst eu e3
  refine thn (ps.run pins s3 σ H3 (fun o F => o = some (-1) ∧ F = H3) I3 ⟨1, rfl, -1, rfl, rfl, rfl⟩) fun vs s4 ⟨o, H4, I4, pp, eo, e4⟩ => ?_
  subst eo e4
  cases pl
  cases pu
  have J : Inv X pins σ H4 { s4 with heap := s4.heap.push { cls := .type "slice", data := .fields #[.none, .none, vs] } } := I4.kept (t' := s4.toks) fun b ob q => Heap.get?_push_of_some _ q
  obtain ⟨its, r, ht, hz⟩ := J.tuple hx
  have hl := r.length
  show wpAny (model X.prog X.w) X.A (subscriptTail e (.Slice none none (some (.UnaryOp .USub (.Constant (.int 1) k p1) p2)) p3) (.ref a) (.ref s4.heap.objs.size)) (EP X pins σ Q) X.xe { s4 with heap := s4.heap.push { cls := .type "slice", data := .fields #[.none, .none, vs] } }
  refine tail_any (ops := [.ref a, .ref s4.heap.objs.size]) ht.typeIs (PyProof.Rows.slot_tuple_getitem.lookup) ?_ (by with_unfolding_all rfl)
  refine getItem_rev ht (Heap.IsSliceOf.new _ .none .none vs) pp ?_ (by rw [List.size_toArray]; omega)
  refine ⟨.ref _, _, J.laid (t' := s4.toks) (o := .tup xs.reverse) (fun b ob q => Heap.get?_push_of_some _ q) (Nat.le_refl _) ?_, rfl, q _ (J.hok.fresh (Nat.le_refl _))⟩
  exact ⟨by rw [List.length_reverse]; exact hz, _, r.reverse, IsTup.new _ _⟩
end R1

/-! dict(d), a copy -/
namespace R1
open PySem PySem.Spec PyProof.Rows L2
theorem call_dict_of {X : Cx} : CallR X (.type "dict") (fun xs H Q => ∃ (a : Addr) (kvs : List (Key × V)), xs = [.ref a] ∧ H a = some (.dK kvs) ∧ ∀ p, H p = none → Q (.ref p) (upd H p (.dK kvs))) := by
  intro pins s σ H xs us Q I r h
  obtain ⟨a, kvs, rfl, ha, q⟩ := h
  obtain ⟨u, rfl, rx⟩ := vals1 r
  cases rx
  exact d_copyOf I (.inl ha) fun p s' np J => ⟨.ref p, _, J, rfl, q p np⟩
end R1

/-! C.m(..), m a staticmethod of the class at C -/
namespace R1
open PySem PySem.Spec PyProof.Rows L2 ClX
structure SMet (K : PySem.W.Frag) (C : Addr) (mc : Value) (m : Str) (p g : Addr) : Prop where
  at_ : PySem.W.findCls K (.ref C) mc m = some (.get (.builtin "staticmethod.__get__") (.ref p) .none (.ref C))
  rc : ∃ rest, PySem.W.recIn K p "staticmethod" = some (.ref g :: rest)
  kp : PySem.W.keepIn K (.ref g) = true
section
variable {X : Cx} {pins : List (Addr × Obj)} {σ : L2.St} {H : Hp} {s : Shared} {C p g : Addr} {mc : Value} {m : Str} {A : Around} {E : Value → Shared → Prop}
theorem getmethsm_ok {pl : Sem Bool} {Q : Value × List Value → Shared → Prop} (I : Inv X pins σ H s) (r : CRead X.K C mc) (k : SMet X.K C mc m p g) (h : ∀ s', Inv X pins σ H s' → Q (.ref g, []) s') : wpAny (model X.prog X.w) A (getMethod (.ref C) m pl) Q E s := by
  obtain ⟨rest, hp⟩ := k.rc
  refine PySem.W.method_cls I.kIn r.ga (PySem.W.cls_bind I.kIn r.rd k.at_ (wpAny_call (PySem.W.sm_get (s := { s with toks := s.toks + 1 }) I.kIn hp (PySem.W.handed_on rfl ?_))))
  exact h _ (I.tok _)
end
def tSMeth (C : Addr) (sp : Sp) (E : XK) (ta : TE) (t : TA) : TE := fun σ H Q => ta σ H fun x H1 => x = .ref C ∧ t σ H1 fun vs H2 => sp vs H2 Q E
section
variable {X : Cx} {CX : CXT} {k : Nat} {C p g : Addr} {mc : Value} {sp : Sp} {E : XK} {o e : Expr} {es : List Expr} {f m : Str} {pos apos : Pos} {ta : TE} {t : TA} {pl : Sem Bool}
theorem pe_smeth (he : PE X o ta) (r : CRead X.K C mc) (c : SMet X.K C mc m p g) (F : FnR X.prog X.w X.K X.mg X.base CX k g sp) (hr : Room k X.A) (hx : Passes CX X E) (ha : PA X (e :: es) t)
    (hst : starEach (e :: es) X.env = (false, eval e X.env) :: starEach es X.env := by rfl) (hpl : (backTo pos (starEach es X.env)).any (·.1) = false := by rfl)
    (ht : eval (.Call (.Attribute o m apos) (e :: es) [] pos) X.env = (do
      let ov ← eval o X.env
      standAt apos.atName
      let (f, first) ← holding [ov] (getMethod ov m pl)
      callWith pos f first (backTo pos (starEach (e :: es) X.env)) (backToKw pos (keywordEach [] X.env))) := by rfl) :
    PE X (.Call (.Attribute o m apos) (e :: es) [] pos) (tSMeth C sp E ta t) := by
  refine ⟨fun pins s σ H Q I h => ?_⟩
  refine PySem.W.methodCall_KW (pl := pl) (thn (he.run pins s σ H _ I h) fun u s1 ⟨x, H1, I1, rx, ex, q⟩ => ?_) ht
  subst ex
  obtain rfl : u = Value.ref C := rx
  refine getmethsm_ok I1 r c fun s2 I2 => ?_
  refine PySem.W.callWith_K (first := []) (h₀ := X.base) I.ok.mod.kin c.kp (thn (ha.run pos pins s2 σ H1 _ I2 q) fun us s3 ⟨vs, H2, I3, rv, q2⟩ => ⟨I3.kIn, ?_⟩) hst hpl
  exact wpAny_call (run_fnR F hr hx I3 rv q2)
theorem pe_smeth0 (he : PE X o ta) (r : CRead X.K C mc) (c : SMet X.K C mc m p g) (F : FnR X.prog X.w X.K X.mg X.base CX k g sp) (hr : Room k X.A) (hx : Passes CX X E)
    (ht : eval (.Call (.Attribute o m apos) [] [] pos) X.env = (do
      let ov ← eval o X.env
      standAt apos.atName
      let (f, first) ← holding [ov] (getMethod ov m pl)
      callWith pos f first (backTo pos (starEach [] X.env)) (backToKw pos (keywordEach [] X.env))) := by rfl) :
    PE X (.Call (.Attribute o m apos) [] [] pos) (tSMeth C sp E ta tNil) := by
  refine ⟨fun pins s σ H Q I h => ?_⟩
  refine PySem.W.methodCall_KW (pl := pl) (thn (he.run pins s σ H _ I h) fun u s1 ⟨x, H1, I1, rx, ex, q⟩ => ?_) ht
  subst ex
  obtain rfl : u = Value.ref C := rx
  refine getmethsm_ok I1 r c fun s2 I2 => ?_
  exact PySem.W.callWith_K0 (first := []) I2.kIn c.kp (wpAny_call (run_fnR (us := []) (vs := []) F hr hx I2 .nil q))
end
end R1

/-! len(x), k in x, x[k] by the own defs of x's class -/
namespace R1
open PySem PySem.Spec PyProof.Rows L2
section
variable {X : Cx} {CX : CXT} {n : Nat} {C g : Addr} {sp : Sp} {E : XK}
theorem run_fnR1 {pins : List (Addr × Obj)} {σ : L2.St} {H : Hp} {s : Shared} {Q : VK} {us : List Value} {vs : List V} (F : FnR X.prog X.w X.K X.mg X.base CX n g sp) (hr : Room (n + 1) X.A) (hx : Passes CX X E) (I : Inv X pins σ H s) (r : Vals vs us) (h : sp vs H Q E) :
    codeAny (model X.prog X.w) X.A.in1 (.call (.ref g) ⟨us, []⟩) (fun r s' => match r with | .ok (.ret v) => EP X pins σ Q v s' | .ok _ => False | .error e => X.xe e s') s := by
  refine codeAny_mono (F X.A.in1 X.stack s H us vs Q E hr.in1 I.env0.in1 r h) fun r s' hq => ?_
  cases r with
  | error e => exact hx pins σ H s e s' I hq
  | ok fl =>
    cases fl with
    | ret u => exact I.after hq
    | next => exact False.elim hq
    | brk => exact False.elim hq
    | cont => exact False.elim hq
def rLenO (C : Addr) (sp : Sp) (E : XK) : List V → Hp → VK → Prop := fun xs H Q => ∃ a dx fs, xs = [.ref a] ∧ H a = some (.ins C dx fs) ∧ sp [.ref a] H (fun v H' => ∃ k : Nat, v = .int k ∧ k < 1000000 ∧ Q (.int k) H') E
theorem call_lenO (hs : PySem.W.findIn X.K (.ref C) "__len__" = some (some (.ref g))) (hf : PySem.W.isFn X.K (.ref g) = true) (F : FnR X.prog X.w X.K X.mg X.base CX n g sp) (hr : Room (n + 1) X.A) (hx : Passes CX X E) : CallR X (.builtin "len") (rLenO C sp E) := by
  intro pins s σ H xs us Q I r h
  obtain ⟨a, dx, fs, rfl, ha, q⟩ := h
  obtain rfl := Vals.ref1 r
  obtain ⟨mA, O, _, _, _, _⟩ := ins_get I.hok ha
  obtain ⟨od, J, _⟩ := O.look
  obtain ⟨m, hF⟩ := I.fr
  refine PySem.W.len_K hF I.ok.mod.kin J hs hf (wpAny_mono (wpAny_call (run_fnR1 (us := [.ref a]) (vs := [.ref a]) F hr hx I (.cons rfl .nil) q)) (fun v s' z => ?_) fun _ _ x => x)
  obtain ⟨x, H', I', rx, k, rfl, hk, q'⟩ := z
  obtain ⟨t, rfl⟩ := rx
  exact ⟨⟨by omega, by omega⟩, .int k, H', I'.tok _, ⟨_, rfl⟩, q'⟩
def rInO (C : Addr) (sp : Sp) (E : XK) (neg : Bool) : R2 := fun x y H Q => ∃ a dx fs, y = .ref a ∧ H a = some (.ins C dx fs) ∧ sp [.ref a, x] H (fun v H' => ∃ b, v = .bl b ∧ Q (.bl (if neg then !b else b)) H') E
theorem op_inO (hs : PySem.W.findIn X.K (.ref C) "__contains__" = some (some (.ref g))) (hf : PySem.W.isFn X.K (.ref g) = true) (F : FnR X.prog X.w X.K X.mg X.base CX n g sp) (hr : Room n X.A) (hx : Passes CX X E) : OpR X (compareOp .In) (rInO C sp E false) := by
  intro pins s σ H x y v u Q I rx ry h
  obtain ⟨a, dx, fs, rfl, ha, q⟩ := h
  cases (show u = Value.ref a from ry)
  obtain ⟨mA, O, _, _, _, _⟩ := ins_get I.hok ha
  obtain ⟨od, J, _⟩ := O.look
  obtain ⟨m, hF⟩ := I.fr
  refine PySem.W.in_K hF I.ok.mod.kin J hs hf (wpAny_mono (wpAny_call (run_fnR (us := [.ref a, v]) (vs := [.ref a, x]) F hr hx I (.cons rfl (.cons rx .nil)) q)) (fun w s' z => ?_) fun _ _ x => x)
  obtain ⟨z', H', I', rz, b, rfl, q'⟩ := z
  cases (show w = Value.bool b from rz)
  exact wpAny_pure ⟨.bl b, H', I', rfl, q'⟩
theorem op_notInO (hs : PySem.W.findIn X.K (.ref C) "__contains__" = some (some (.ref g))) (hf : PySem.W.isFn X.K (.ref g) = true) (F : FnR X.prog X.w X.K X.mg X.base CX n g sp) (hr : Room n X.A) (hx : Passes CX X E) : OpR X (compareOp .NotIn) (rInO C sp E true) := by
  intro pins s σ H x y v u Q I rx ry h
  obtain ⟨a, dx, fs, rfl, ha, q⟩ := h
  cases (show u = Value.ref a from ry)
  obtain ⟨mA, O, _, _, _, _⟩ := ins_get I.hok ha
  obtain ⟨od, J, _⟩ := O.look
  obtain ⟨m, hF⟩ := I.fr
  refine PySem.W.notIn_K hF I.ok.mod.kin J hs hf (wpAny_mono (wpAny_call (run_fnR (us := [.ref a, v]) (vs := [.ref a, x]) F hr hx I (.cons rfl (.cons rx .nil)) q)) (fun w s' z => ?_) fun _ _ x => x)
  obtain ⟨z', H', I', rz, b, rfl, q'⟩ := z
  cases (show w = Value.bool b from rz)
  exact wpAny_pure ⟨.bl (!b), H', I', rfl, q'⟩
/-- x[k] -/
def rIxO (C : Addr) (sp : Sp) (E : XK) : R2 := fun x y H Q => ∃ a dx fs, x = .ref a ∧ H a = some (.ins C dx fs) ∧ sp [.ref a, y] H Q E
theorem op_ixO (hq : PySem.W.noSeq X.K C = true) (hs : PySem.W.findIn X.K (.ref C) "__getitem__" = some (some (.ref g))) (hf : PySem.W.isFn X.K (.ref g) = true) (F : FnR X.prog X.w X.K X.mg X.base CX n g sp) (hr : Room n X.A) (hx : Passes CX X E) : OpR X getItem (rIxO C sp E) := by
  intro pins s σ H x y v u Q I rx ry h
  obtain ⟨a, dx, fs, rfl, ha, q⟩ := h
  cases (show v = Value.ref a from rx)
  obtain ⟨mA, O, _, _, _, _⟩ := ins_get I.hok ha
  obtain ⟨od, J, _⟩ := O.look
  obtain ⟨m, hF⟩ := I.fr
  exact PySem.W.getItem_K hF I.ok.mod.kin J hq hs hf (wpAny_call (run_fnR (us := [.ref a, u]) (vs := [.ref a, y]) F hr hx I (.cons rfl (.cons ry .nil)) q))
end
end R1

/-! iter(t) of a tuple; list(o), o of a class whose __iter__ gives such an iterator and whose __len__ gives a number -/
namespace RI
open PySem PySem.Spec PyProof.Rows L2
/-- an iterator over the tuple at t, at its first place -/
def ItTO (t it : Addr) : HO := .ext fun h => h.IsTupleIter it t 0
theorem itTO_ok {P : Program} {w : World} {H : Hp} {h : Heap} {t it : Addr} (e : h.IsTupleIter it t 0) (e2 : ∃ o, h.get? it = some o) : ObjOk P w H h it (ItTO t it) := ⟨e, e2, fun h1 h2 q k => q.at k⟩
/-- whatever stands there -/
def AnyO (it : Addr) : HO := .ext fun h => ∃ o, h.get? it = some o
theorem anyO_ok {P : Program} {w : World} {H : Hp} {h : Heap} {it : Addr} (e : ∃ o, h.get? it = some o) : ObjOk P w H h it (AnyO it) := ⟨e, e, fun h1 h2 q k => let ⟨o, z⟩ := q; ⟨o, k o z⟩⟩
section
variable {X : Cx}
theorem call_iterT : CallR X (.builtin "iter") (fun xs H Q => ∃ (t : Addr) (zs : List V), xs = [.ref t] ∧ SqT X.K H t zs ∧ ∀ it, H it = none → Q (.ref it) (upd H it (ItTO t it))) := by
  intro pins s σ H xs us Q I r h
  obtain ⟨t, zs, rfl, hq, q⟩ := h
  obtain ⟨u, rfl, rx⟩ := vals1 r
  cases rx
  obtain ⟨its, rv, pl, hz⟩ := I.tuple hq
  refine Calls.call_function_entry (by decide +kernel) (by decide +kernel) PySem.W.kdk_entry_iter (PySem.W.kdk_args_iter _) ?_
  unfold Builtin.«iter»
  refine wpAny_bind (m := someArgs "iter" 1 2 _) (wpAny_of_eq (a := [Value.ref t]) (by first | rfl | kernel_rfl!) ?_)
  show wpAny _ _ (pyIter (.ref t) >>= _) _ _ _
  refine wpAny_bind (wpAny_pyIter_tuple pl ?_)
  have hI : (s.heap.push { cls := .type "tuple_iterator", data := .fields #[.ref t, .int 0 0] }).IsTupleIter s.heap.objs.size t 0 := ⟨_, Heap.get?_push_size _ rfl, rfl, rfl⟩
  exact wpAny_pure ⟨_, rfl, .ref s.heap.objs.size, _, I.laid (t' := s.toks) (fun b u e => Heap.get?_push_of_some _ e) (Nat.le_refl _) (itTO_ok hI ⟨_, Heap.get?_push_size _ rfl⟩), rfl, q _ (I.hok.fresh (Nat.le_refl _))⟩
end
/-- what the class must have -/
structure ItL (K : PySem.W.Frag) (C fi fl : Addr) : Prop where
  it : PySem.W.findIn K (.ref C) "__iter__" = some (some (.ref fi))
  itF : PySem.W.isFn K (.ref fi) = true
  ln : PySem.W.findIn K (.ref C) "__len__" = some (some (.ref fl))
  lnF : PySem.W.isFn K (.ref fl) = true
/-- the heap behind the walk: the list is filled, the iterator is done -/
def behind (H : Hp) (q it : Addr) (xs : List V) : Hp := upd (upd H q (.lst xs)) it (AnyO it)
def rListO (K : PySem.W.Frag) (C : Addr) (spI spL : Sp) : List V → Hp → VK → Prop := fun vs H Q => ∃ (a dx : Addr) (fs : List (Str × V)), vs = [.ref a] ∧ H a = some (.ins C dx fs) ∧
  ∀ q, H q = none → spI [.ref a] (upd H q (.lst [])) (fun v H1 => ∃ (it t : Addr) (xs : List V), v = .ref it ∧ H1 it = some (ItTO t it) ∧ it ≠ t ∧ H1 q = some (.lst []) ∧ H1 a = some (.ins C dx fs) ∧
    spL [.ref a] H1 (fun v H2 => ∃ k : Nat, v = .int k ∧ k < 1000000 ∧ H2 it = some (ItTO t it) ∧ SqT K H2 t xs ∧ xs.length ≤ 1000 ∧ H2 q = some (.lst []) ∧ Q (.ref q) (behind H2 q it xs)) (fun _ _ _ => False)) (fun _ _ _ => False)
section
variable {X : Cx} {C fi fl : Addr} {spI spL : Sp} {n : Nat} {pins : List (Addr × Obj)} {σ : L2.St} {H : Hp} {s : Shared} {a q dx : Addr} {fs : List (Str × V)}
/-- the heap in which one object is given -/
theorem put_mid {h h' : Heap} {q it : Addr} {o : Obj} {o1 : Obj} (hq : h.get? q = some o1) (hne : q ≠ it) (hq' : h'.get? q = some o) (hk : ∀ b u, b ≠ q → b ≠ it → h.get? b = some u → h'.get? b = some u) :
    ∃ m : Heap, m.get? q = some o ∧ Heap.SameBut q h m ∧ ∀ b u, b ≠ it → m.get? b = some u → h'.get? b = some u := by
  have hf : o.isFreed = false := (Heap.get?_some_iff.mp hq').2
  refine ⟨h.update q (fun _ => o), Heap.get?_update_self (fun _ => o) hq hf, Heap.SameBut.update .., fun b u hb e => ?_⟩
  by_cases c : b = q
  · subst c
    have e2 : (h.update b (fun _ => o)).get? b = some o := Heap.get?_update_self (fun _ => o) hq hf
    rw [e2] at e
    cases e
    exact hq'
  · exact hk b u c hb ((Heap.get?_update_other _ _ (Ne.symm c)).symm.trans e)
theorem tup_done {it t : Addr} {i : Nat} {its : Array Value} {A : Around} {prog : Program} {w : World} {E : Value → Shared → Prop} {Qn : Option Value → Shared → Prop} (hA : A.handled = none)
    (hI : s.heap.IsTupleIter it t i) (hT : s.heap.IsTuple t its) (hn : its[i]? = none)
    (hq : ∀ h', (∀ b o, b ≠ it → s.heap.get? b = some o → h'.get? b = some o) → (∃ o, h'.get? it = some o) → Qn none { s with heap := h' }) : wpAny (model prog w) A (pyNext (.ref it)) Qn E s := by
  have hI2 := hI
  obtain ⟨⟨oc, od, odat, osl⟩, a1, a2, a3⟩ := hI2
  have a2' : oc = .type "tuple_iterator" := a2
  have a3' : odat = .fields #[.ref t, .int i 0] := a3
  subst a2' a3'
  obtain ⟨ot, b1, b2, nt, b3⟩ := hT
  have up := Heap.get?_update_self (Obj.mapFields (·.setIfInBounds 0 Value.none)) a1 (by first | rfl | simp [Obj.isFreed, Obj.mapFields])
  unfold pyNext; refine wpAny_bind (wpAny_attempt (wpAny_callSpecial?_slot (name := Str.ofString "__next__") hI.typeIs PySem.F.slot_tuple_iterator_next (wpAny_call_entry PySem.F.slot_tuple_iterator_next hI.typeIs PySem.F.entry_tuple_iterator_next ?_ (PySem.F.args_tuple_iterator_next_1 _))))
  show wpAny _ _ (field (.ref it) 0 >>= _) _ _ _; refine wpAny_bind (wpAny_field a1 a3 (x := .ref t) rfl ?_)
  show wpAny _ _ (if (Value.ref t == Value.none) = true then _ else _) _ _ _; refine PySem.W.KFB.if_not rfl ?_
  show wpAny _ _ (field (.ref it) 1 >>= _) _ _ _; refine wpAny_bind (wpAny_field a1 a3 (x := .int i 0) rfl ?_)
  show wpAny _ _ (seqItems? (.ref t) >>= _) _ _ _; refine wpAny_bind (wpAny_seqItems b1 b3 ?_); simp only [Int.toNat_natCast, hn]
  refine wpAny_bind (wpAny_rule (wpAny_bind (wpAny_setField a1 a3 (by simp) ?_)))
  show wpAny _ _ (newExc (.type "StopIteration") [] >>= _) _ _ _; refine wpAny_bind ?_; simp only [newExc, newTuple]
  refine wpAny_bind (wpAny_newObj_type ?_ (by size_fits)); refine wpAny_bind (m := firstArgMember _ _) (wpAny_of_eq (a := Value.none) (by first | rfl | (simp only [firstArgMember]; rfl)) ?_)
  refine wpAny_newObj_type ?_ (by size_fits); simp only [raiseNew]; refine wpAny_bind (wpAny_handled ?_); rw [show A.in1.handled = none from hA]
  refine wpAny_bind (wpAny_pure (wpAny_throw ?_)); refine wpAny_bind (wpAny_isInstance (T := "StopIteration") (b := true) ⟨_, Heap.get?_push_size _ rfl, rfl⟩ isSubtype_stop ?_)
  exact wpAny_pure (hq _ (fun b o hb e => Heap.get?_push_of_some _ (Heap.get?_push_of_some _ ((Heap.get?_update_other _ _ (Ne.symm hb)).trans e))) ⟨_, Heap.get?_push_of_some _ (Heap.get?_push_of_some _ up)⟩)
/-- the rest of the tuple is put behind the list at q -/
theorem tup_rest {it t q : Addr} {its : List Value} {A : Around} {prog : Program} {w : World} {Rs : Result → Shared → Prop} {h0 : Heap} (hA : A.handled = none) (hqi : q ≠ it) (hti : t ≠ it) (htq : t ≠ q) (hz : its.length ≤ 1000) (res : Value)
    (hq : ∀ h' c, (∀ b o, b ≠ q → b ≠ it → h0.get? b = some o → h'.get? b = some o) → (∃ o, h'.get? it = some o) → h'.get? q = some { cls := .type "list", dict := none, data := .seq its.toArray c, slots := #[] } → ∀ tk, Rs (.ok (.ret res)) { s with heap := h', toks := tk }) :
    ∀ (k i : Nat) (h : Heap) (tk c : Nat), its.length - i = k → i ≤ its.length → h.IsTupleIter it t i → h.IsTuple t its.toArray → (∀ b o, b ≠ q → b ≠ it → h0.get? b = some o → h.get? b = some o) →
      h.get? q = some { cls := .type "list", dict := none, data := .seq (its.take i).toArray c, slots := #[] } → codeAny (model prog w) A (.builtin "list.extend.loop" ⟨[.ref q, .ref it, res], []⟩) Rs { s with heap := h, toks := tk } := by
  intro k
  induction k with
  | zero =>
    intro i h tk c hk hi hI hT kp hS
    obtain rfl : i = its.length := by omega
    refine codeAny_builtin PySem.F.entry_extend_loop ?_; rw [Around.under_plainId PySem.F.plain_extend_loop _]; show wpAny _ A.in1 (pyNext (.ref it) >>= _) _ _ _
    refine wpAny_bind (tup_done (s := { s with heap := h, toks := tk }) (A := A.in1) hA hI hT (by simp) fun h' kp2 ex => ?_)
    rw [List.take_length] at hS
    exact wpAny_pure (hq h' c (fun b o h1 h2 e => kp2 b o h2 (kp b o h1 h2 e)) ex (kp2 q _ hqi hS) tk)
  | succ k ih =>
    intro i h tk c hk hi hI hT kp hS
    have lt : i < its.length := by omega
    have gx : its[i]? = some its[i] := List.getElem?_eq_getElem lt
    refine codeAny_builtin PySem.F.entry_extend_loop ?_; rw [Around.under_plainId PySem.F.plain_extend_loop _]; show wpAny _ A.in1 (pyNext (.ref it) >>= _) _ _ _
    refine wpAny_bind (wpAny_pyNext_tuple_item (s := { s with heap := h, toks := tk }) hI hT (x := its[i]) (by simpa using gx) fun h' hI' sb => ?_)
    have hS' : h'.get? q = _ := (sb.2 q hqi).trans hS
    show wpAny _ A.in1 (updateSeq q (·.push its[i]) >>= _) _ _ _
    have et : ((its.take i).toArray.push its[i]) = (its.take (i + 1)).toArray := by
      rw [List.take_add_one, gx]
      simp
    obtain ⟨c', z⟩ : ∃ c', (h'.update q (Obj.mapSeq (·.push its[i]))).get? q = some { cls := .type "list", dict := none, data := .seq (its.take (i + 1)).toArray c', slots := #[] } := ⟨_, by rw [← et]; exact Heap.get?_update_self (Obj.mapSeq (·.push its[i])) hS' rfl⟩
    refine wpAny_bind (wpAny_updateSeq hS' rfl (wpAny_pure ⟨plainId_quiet PySem.F.plain_extend_loop _, ih (i + 1) _ tk c' (by omega) lt ?_ ?_ (fun b o h1 h2 e => ?_) z⟩) (by rw [List.size_toArray, List.length_take, sizeLine_eq]; omega) (by show ((its.take i).toArray.push its[i]).size ≤ sizeLine + 1; rw [et, List.size_toArray, List.length_take, sizeLine_eq]; omega))
    · exact hI'.at fun o e => (Heap.get?_update_other _ _ hqi).trans e
    · obtain ⟨o, e, r⟩ := hT
      exact ⟨o, (Heap.get?_update_other _ _ (Ne.symm htq)).trans ((sb.2 t hti).trans e), r⟩
    · exact (Heap.get?_update_other _ _ (Ne.symm h1)).trans ((sb.2 b h2).trans (kp b o h1 h2 e))
theorem ext_listO {Qh : Hp → Prop} {Rs : Result → Shared → Prop} (hc : X.calm = true) (c : ItL X.K C fi fl) (FI : FnR X.prog X.w X.K X.mg X.base CX0 n fi spI) (FL : FnR X.prog X.w X.K X.mg X.base CX0 n fl spL) (hr : Room (n + 4) X.A)
    (I : Inv X pins σ H s) (ha : H a = some (.ins C dx fs)) (hq : H q = some (.lst []))
    (hsp : spI [.ref a] H (fun v H1 => ∃ (it t : Addr) (xs : List V), v = .ref it ∧ H1 it = some (ItTO t it) ∧ it ≠ t ∧ H1 q = some (.lst []) ∧ H1 a = some (.ins C dx fs) ∧
      spL [.ref a] H1 (fun v H2 => ∃ k : Nat, v = .int k ∧ k < 1000000 ∧ H2 it = some (ItTO t it) ∧ SqT X.K H2 t xs ∧ xs.length ≤ 1000 ∧ H2 q = some (.lst []) ∧ Qh (behind H2 q it xs)) (fun _ _ _ => False)) (fun _ _ _ => False))
    (hR : ∀ s' H', Inv X pins σ H' s' → Qh H' → Rs (.ok (.ret .none)) s') :
    wpAny (model X.prog X.w) X.A.in1.in1 (Builtin.List.listExtendWith (.ref q) (.ref a) .none)
      (fun fin s' => match fin with | .done f => Rs (.ok f) s' | .again c' => c'.quiet = true ∧ codeAny (model X.prog X.w) X.A.in1 c' Rs s') (fun e s' => Rs (.error e) s') s := by
  have hne : q ≠ a := ne_of hq ha (fun z => nomatch z)
  obtain ⟨mA, J, _⟩ := ins_get I.hok ha
  obtain ⟨od, J, _⟩ := J.look
  obtain ⟨m0, hF⟩ := I.fr
  unfold Builtin.List.listExtendWith
  refine wpAny_bind (J.type.here ?_)
  have h1 : Builtin.List.listSameRef (.ref q) (.ref a) = false := by simp [Builtin.List.listSameRef, hne]
  have h2 : (Value.ref C == Value.type "list") = false := rfl
  have h3 : (Value.ref C == Value.type "tuple") = false := rfl
  simp only [h1, h2, h3, Bool.or_false, Bool.false_eq_true, if_false]
  refine wpAny_bind (PySem.W.owit_iter hF I.ok.mod.kin J c.it c.itF ?_)
  have r4 : Room n X.A.in1.in1 := ((hr.mono (Nat.le_refl _)).in1.in1).mono (by omega)
  refine wpAny_call (codeAny_mono (FI X.A.in1.in1 X.stack s H [.ref a] [.ref a] _ _ r4 I.env0.in1.in1 (.cons rfl .nil) hsp) fun r s' hq' => ?_)
  cases r with
  | error e => exact False.elim hq'
  | ok f =>
    cases f with
    | next => exact False.elim hq'
    | brk => exact False.elim hq'
    | cont => exact False.elim hq'
    | ret u =>
      obtain ⟨v, H1, I1, rv, it, t, xs, ev, hit, hnt, hq1, ha1, hl⟩ := I.after hq'
      subst ev
      cases rv
      have hI : s'.heap.IsTupleIter it t 0 := (I1.hok it _ hit).1
      show PySem.W.OwitIt _ _ _ _ _ _
      unfold PySem.W.OwitIt
      refine wpAny_specialOf hI.typeIs PySem.F.slot_tuple_iterator_next.lookup ?_
      obtain ⟨mA1, J1, _⟩ := ins_get I1.hok ha1
      obtain ⟨od1, J1, _⟩ := J1.look
      obtain ⟨m1, hF1⟩ := I1.fr
      refine wpAny_bind (wpAny_holding ?_)
      unfold Builtin.List.listLengthHint
      refine wpAny_bind (wpAny_bind (J1.type.here ((PySem.W.looks_findIn I1.kIn c.ln).here ?_)))
      refine PySem.W.KFB.if_not rfl ?_
      refine PySem.W.KFB.if_so rfl ?_
      refine wpAny_bind (wpAny_rule ?_)
      have r5 : Room n X.A.in1.in1.in1 := ((hr.mono (Nat.le_refl _)).in1.in1.in1).mono (by omega)
      refine wpAny_bind (wpAny_attempt (PySem.W.len_K hF1 I1.ok.mod.kin J1 c.ln c.lnF ?_))
      refine wpAny_call (codeAny_mono (FL X.A.in1.in1.in1 X.stack s' H1 [.ref a] [.ref a] _ _ r5 I1.env0.in1.in1.in1 (.cons rfl .nil) hl) fun r s2 hq2 => ?_)
      cases r with
      | error e => exact False.elim hq2
      | ok f =>
        cases f with
        | next => exact False.elim hq2
        | brk => exact False.elim hq2
        | cont => exact False.elim hq2
        | ret u2 =>
          obtain ⟨v2, H2, I2, rv2, k, ev2, hk, hit2, ht2, hl2, hq2', hQ⟩ := I1.after hq2
          subst ev2
          obtain ⟨tk, rfl⟩ := rv2
          refine ⟨⟨by omega, by omega⟩, ?_⟩
          refine wpAny_bind (wpAny_pure ?_)
          refine PySem.W.KFB.if_not (decide_eq_false (by rw [sizeLine_eq]; omega)) (wpAny_pure ?_)
          have I3 := I2.tok (s2.toks + 1)
          have hqi : q ≠ it := ne_of hq2' hit2 (fun z => nomatch z)
          have key : ∀ (s4 : Shared), Inv X pins σ H2 s4 → codeAny (model X.prog X.w) X.A.in1 (.builtin "list.extend.loop" ⟨[.ref q, .ref it, .none], []⟩) Rs s4 := by
            intro s4 I4
            obtain ⟨z, its0, c0, r3, hl3, e3⟩ := I4.lstM hq2'
            cases r3
            have hI4 : s4.heap.IsTupleIter it t 0 := (I4.hok it _ hit2).1
            obtain ⟨its, rvt, plt, hzt⟩ := I4.tuple ht2
            have lz := rvt.length
            have htq : t ≠ q := by
              rintro rfl
              obtain ⟨o, e, f, _⟩ := plt
              rw [e3] at e
              cases e
              exact nomatch (show Value.type "list" = Value.type "tuple" from f)
            refine tup_rest (A := X.A.in1) (s := s4) (h0 := s4.heap) (its := its) (I4.ok.hd hc) hqi (Ne.symm hnt) htq (by omega) .none (fun h' c kp ex hS tk => ?_) its.length 0 s4.heap s4.toks c0 (by omega) (Nat.zero_le _) hI4 plt (fun b o _ _ e => e) (by simpa using e3)
            obtain ⟨m, e1, sb, kp2⟩ := put_mid e3 hqi hS kp
            have I5 : Inv X pins σ (upd H2 q (.lst xs)) { s4 with heap := m, toks := s4.toks } := I4.write (x := q) (e := q) (by rw [hq2']; exact True.intro) (.inl rfl) (fun b u hb e => (sb.2 b hb).trans e) ⟨_, e1⟩ ⟨hzt, its, c, rvt, e1⟩
            have g : upd H2 q (.lst xs) it = some (ItTO t it) := by rw [upd_ne (Ne.symm hqi)]; exact hit2
            have I6 : Inv X pins σ (behind H2 q it xs) { s4 with heap := h', toks := tk } := I5.write (x := it) (e := it) (by rw [g]; exact True.intro) (.inl rfl) kp2 ex (anyO_ok ex)
            exact hR _ _ I6 hQ
          refine wpAny_ite_split (fun _ => ?_) (fun _ => wpAny_pure ⟨plainId_quiet PySem.F.plain_extend_loop _, key _ I3⟩)
          obtain ⟨z, its0, c0, r3, hl3, e3⟩ := I3.lstM hq2'
          cases r3
          refine wpAny_bind (wpAny_rule (wpAny_bind ?_)); show wpAny _ _ (updateSeq q (·.push .none) >>= fun _ => updateSeq q (·.pop)) _ _ _
          have J2 := I3.lset (f := (·.push Value.none)) (its' := [Value.none]) (ys := [.non]) (t' := s2.toks + 1) hq2' e3 (by simp) (.cons rfl .nil) (by show 1 ≤ sizeLine; rw [sizeLine_eq]; decide)
          obtain ⟨z4, its4, k4, r4', hl4, e4⟩ := J2.lstM upd_same
          obtain ⟨u4, rfl, ru4⟩ := r4'.one
          refine wpAny_bind (wpAny_updateSeq e3 rfl (wpAny_updateSeq e4 rfl (wpAny_pure ⟨plainId_quiet PySem.F.plain_extend_loop _, key _ ?_⟩) (by show 1 ≤ sizeLine; rw [sizeLine_eq]; decide) (by show 0 ≤ sizeLine + 1; exact Nat.zero_le _)))
          have J3 := J2.lset (f := (·.pop)) (its := [u4]) (its' := []) (ys := []) (t' := s2.toks + 1) upd_same e4 (by rfl) .nil (Nat.zero_le _)
          have eH : upd (upd H2 q (.lst [.non])) q (.lst []) = H2 := by
            funext b
            by_cases hb : b = q
            · rw [hb, upd_same, hq2']
            · rw [upd_ne hb, upd_ne hb]
          rw [eH] at J3
          exact J3
/-- list(o) -/
theorem call_listO (hc : X.calm = true) (c : ItL X.K C fi fl) (FI : FnR X.prog X.w X.K X.mg X.base CX0 n fi spI) (FL : FnR X.prog X.w X.K X.mg X.base CX0 n fl spL) (hr : Room (n + 4) X.A) : CallR X (.type "list") (rListO X.K C spI spL) := by
  intro pins s σ H vs us Q I r h
  obtain ⟨a, dx, fs, rfl, ha, hq⟩ := h
  obtain ⟨u, rfl, ru⟩ := vals1 r
  cases ru
  have fr : H s.heap.objs.size = none := I.hok.fresh (Nat.le_refl _)
  have hp := hq _ fr
  have I1 : Inv X pins σ (upd H s.heap.objs.size (.lst [])) { s with heap := s.heap.push { cls := .type "list", data := .seq #[] } } := I.lnew (its := []) (t' := s.toks) .nil (Nat.zero_le _)
  have ha1 : upd H s.heap.objs.size (.lst []) a = some (.ins C dx fs) := by rw [upd_ne (ne_of_none ha fr)]; exact ha
  have hS : (s.heap.push { cls := .type "list", data := .seq #[] }).get? s.heap.objs.size = some { cls := .type "list", data := .seq #[] } := Heap.get?_push_size _ rfl
  refine callType_codes (Q₁ := fun obj s₁ => obj = .ref s.heap.objs.size ∧ s₁ = { s with heap := s.heap.push { cls := .type "list", data := .seq #[] } }) PySem.F.called_list (PySem.F.typeCall_list_1 _) PySem.F.entry_list_init (code_list_new _ ⟨rfl, rfl⟩) fun obj s₁ h₁ => ?_
  obtain ⟨rfl, rfl⟩ := h₁
  refine ⟨⟨_, hS, rfl⟩, PySem.F.args_list_init_2 _ _, ?_⟩
  show wpAny _ _ (do let old ← Builtin.List.listItems (.ref s.heap.objs.size); Builtin.List.listUpdate (.ref s.heap.objs.size) (fun _ => #[]); letGo old.toList.reverse; Builtin.List.listExtendWith (.ref s.heap.objs.size) (.ref a) .none) _ _ _
  refine wpAny_bind ?_; unfold Builtin.List.listItems; refine wpAny_bind (wpAny_seqItems hS rfl (wpAny_pure ?_))
  show wpAny _ _ (updateSeq s.heap.objs.size (fun _ => #[]) >>= fun _ => letGo (#[] : Array Value).toList.reverse >>= fun _ => Builtin.List.listExtendWith (.ref s.heap.objs.size) (.ref a) .none) _ _ _
  have J1 := I1.lset (f := fun _ => #[]) (its := []) (its' := []) (ys := []) (t' := s.toks) upd_same hS rfl .nil (Nat.zero_le _)
  rw [upd_upd] at J1
  refine wpAny_bind (wpAny_updateSeq hS rfl (wpAny_bind (wpAny_letGo ?_)))
  exact ext_listO (Qh := fun H' => Q (.ref s.heap.objs.size) H') (Rs := wants (fun r s₂ => r = .none ∧ EP X pins σ Q (.ref s.heap.objs.size) s₂) X.xe) hc c FI FL hr J1 ha1 upd_same hp fun s' H' I' hR => ⟨rfl, .ref s.heap.objs.size, H', I', rfl, hR⟩
end
end RI

/-! dicts whose keys are nested tuples: what stands in the heap -/
namespace RN
open PySem PySem.Spec PyProof.Rows L2
/-! ### data as keys -/
mutual
def nk : PyData → NestedKey
  | .none => .none
  | .bool b => .num (if b = true then 1 else 0)
  | .int i => .num i
  | .str x => .text x
  | .tuple ds => .tup (nks ds)
  | .list _ => .none
  | .dict _ => .none
def nks : List PyData → List NestedKey
  | [] => []
  | d :: ds => nk d :: nks ds
end
mutual
def kb : PyData → Bool
  | .tuple ds => kbs ds
  | .list _ => false
  | .dict _ => false
  | _ => true
def kbs : List PyData → Bool
  | [] => true
  | d :: ds => kb d && kbs ds
end
section
variable {X : Cx} {pins : List (Addr × Obj)} {σ : L2.St} {H : Hp} {s : Shared}
mutual
theorem nested_of (I : Inv X pins σ H s) : ∀ (d : PyData) (v : V) (u : Value), Dp X.K H v d → RelV v u → kb d = true → NestedIs s.heap (nk d) u
  | .none, _, _, h, r, _ => by cases h; cases r; exact .none
  | .bool b, _, _, h, r, _ => by cases h; cases r; exact .bool rfl
  | .int i, _, _, h, r, _ => by cases h; obtain ⟨t, rfl⟩ := r; exact .int i t
  | .str x, _, _, h, r, _ => by cases h; obtain ⟨t, rfl⟩ := r; exact .text x t
  | .tuple ds, _, _, h, r, k => by
    cases h with
    | tup hs ha =>
      cases r
      obtain ⟨its, rv, ⟨o, ho, hc, n, hd⟩, _⟩ := I.tuple hs
      exact .tup ho hc hd (by simpa using nesteds_of I ds _ its ha rv k)
  | .list _, _, _, _, _, k => by cases k
  | .dict _, _, _, _, _, k => by cases k
theorem nesteds_of (I : Inv X pins σ H s) : ∀ (ds : List PyData) (vs : List V) (us : List Value), DpAll X.K H vs ds → Vals vs us → kbs ds = true → NestedAll s.heap (nks ds) us
  | [], _, _, h, r, _ => by cases h; cases r; exact .nil
  | d :: ds, _, _, h, r, k => by
    cases h with
    | cons h1 h2 =>
      cases r with
      | cons r1 r2 =>
        have k' : (kb d && kbs ds) = true := k
        rw [Bool.and_eq_true] at k'
        exact .cons (nested_of I d _ _ h1 r1 k'.1) (nesteds_of I ds _ _ h2 r2 k'.2)
end
end
/-- the key k is at b -/
def KeyAt (K : PySem.W.Frag) (H : Hp) (k : NestedKey) (b : Addr) : Prop := ∃ d, Dp K H (.ref b) d ∧ kb d = true ∧ nk d = k ∧ k.depth ≤ 8
theorem key_is {X : Cx} {pins : List (Addr × Obj)} {σ : L2.St} {H : Hp} {s : Shared} {k : NestedKey} {b : Addr} (I : Inv X pins σ H s) (h : KeyAt X.K H k b) : (nestedKind X.prog X.w).is s.heap k b := by
  obtain ⟨d, h1, h2, rfl, h4⟩ := h
  exact ⟨nested_of I d _ _ h1 rfl h2, h4⟩
/-! ### entries: key, where it stands, value -/
abbrev Ent := NestedKey × Addr × V
def getN (es : List Ent) (k : NestedKey) : Option V := (es.find? fun p => decide (p.1 = k)).map fun p => p.2.2
def putN (es : List Ent) (k : NestedKey) (b : Addr) (v : V) : List Ent :=
  if (getN es k).isSome = true then es.map fun p => if p.1 = k then (p.1, p.2.1, v) else p else es ++ [(k, b, v)]
theorem putN_len (es : List Ent) (k : NestedKey) (b : Addr) (v : V) : (putN es k b v).length ≤ es.length + 1 := by
  unfold putN
  split
  · rw [List.length_map]; omega
  · rw [List.length_append]; exact Nat.le_refl _
abbrev RE : List Ent → List (NestedKey × Addr × Value) → Prop := Paired fun p q => p.1 = q.1 ∧ p.2.1 = q.2.1 ∧ RelV p.2.2 q.2.2
theorem re_get {es : List Ent} {xs : List (NestedKey × Addr × Value)} (r : RE es xs) (k : NestedKey) : RelO (getN es k) ((atKey xs k).map (·.2)) := by
  induction r with
  | nil => exact True.intro
  | @cons p q ps qs h t ih =>
    by_cases e : p.1 = k
    · have e2 : q.1 = k := h.1.symm.trans e
      have a1 : getN (p :: ps) k = some p.2.2 := by simp [getN, List.find?_cons, e]
      have a2 : atKey (q :: qs) k = some q.2 := by simp [atKey, List.find?_cons, e2]
      rw [a1, a2]
      exact h.2.2
    · have e2 : ¬ q.1 = k := fun z => e (h.1.trans z)
      have a1 : getN (p :: ps) k = getN ps k := by simp [getN, List.find?_cons, e]
      have a2 : atKey (q :: qs) k = atKey qs k := by simp [atKey, List.find?_cons, e2]
      rw [a1, a2]
      exact ih
theorem re_some {es : List Ent} {xs : List (NestedKey × Addr × Value)} (r : RE es xs) (k : NestedKey) : (getN es k).isSome = (atKey xs k).isSome := by
  rw [(re_get r k).isSome_eq, Option.isSome_map]
theorem re_map {es : List Ent} {xs : List (NestedKey × Addr × Value)} (r : RE es xs) (k : NestedKey) {v : V} {u : Value} (rv : RelV v u) :
    RE (es.map fun p => if p.1 = k then (p.1, p.2.1, v) else p) (xs.map (putAt k u)) := by
  induction r with
  | nil => exact .nil
  | @cons p q ps qs h t ih =>
    refine .cons ?_ ih
    unfold putAt
    dsimp only
    by_cases e : p.1 = k
    · rw [if_pos e, if_pos (h.1.symm.trans e)]
      exact ⟨h.1, h.2.1, rv⟩
    · rw [if_neg e, if_neg fun z => e (h.1.trans z)]
      exact h
theorem re_put {es : List Ent} {xs : List (NestedKey × Addr × Value)} (r : RE es xs) (k : NestedKey) (b : Addr) {v : V} {u : Value} (rv : RelV v u) : RE (putN es k b v) (storedH xs k b u) := by
  unfold putN storedH
  rw [re_some r k]
  by_cases q : (atKey xs k).isSome = true
  · rw [if_pos q, if_pos q]
    exact re_map r k rv
  · rw [if_neg q, if_neg q]
    exact Paired.snoc r ⟨rfl, rfl, rv⟩
theorem re_keys {es : List Ent} {xs : List (NestedKey × Addr × Value)} (r : RE es xs) {P : NestedKey → Addr → Prop} (h : ∀ p ∈ es, P p.1 p.2.1) : ∀ x ∈ xs, P x.1 x.2.1 := by
  induction r with
  | nil => intro x hx; cases hx
  | @cons p q ps qs e t ih =>
    intro x hx
    rcases List.mem_cons.mp hx with rfl | hx
    · have := h p List.mem_cons_self
      rw [e.1, e.2.1] at this
      exact this
    · exact ih (fun p hp => h p (List.mem_cons_of_mem _ hp)) x hx
theorem putN_keys {P : NestedKey → Addr → Prop} {es : List Ent} {k : NestedKey} {b : Addr} {v : V} (h : ∀ p ∈ es, P p.1 p.2.1) (hb : P k b) : ∀ p ∈ putN es k b v, P p.1 p.2.1 := by
  intro p hp
  unfold putN at hp
  split at hp
  · obtain ⟨q, hq, rfl⟩ := List.mem_map.mp hp
    split
    · exact h q hq
    · exact h q hq
  · rcases List.mem_append.mp hp with hp | hp
    · exact h p hp
    · rw [List.mem_singleton.mp hp]
      exact hb
/-! ### the object -/
def phiN (w : World) (d : Addr) (es : List Ent) (h : Heap) : Prop := es.length ≤ sizeLine ∧ (d == sysModules) = false ∧ ∃ xs : List (NestedKey × Addr × Value), RE es xs ∧ (xs.map (·.1)).Nodup ∧
  ∃ (o : Obj) (arr : Array DictEntry) (ep : Nat), h.get? d = some o ∧ o.ExactDict ∧ o.data = .dict arr ep ∧ arr.toList = xs.map fun x => (⟨x.1.hash w, .ref x.2.1, x.2.2⟩ : DictEntry)
def dN (w : World) (d : Addr) (es : List Ent) : HO := .ext (phiN w d es)
def KeysAt (K : PySem.W.Frag) (H : Hp) (es : List Ent) : Prop := ∀ p ∈ es, KeyAt K H p.1 p.2.1
theorem dN_ok {P : Program} {w : World} {H : Hp} {h : Heap} {d : Addr} {es : List Ent} (x : phiN w d es h) : ObjOk P w H h d (dN w d es) := by
  obtain ⟨_, _, _, _, _, o, _, _, ho, _⟩ := id x
  refine ⟨x, ⟨o, ho⟩, fun h1 h2 y k => ?_⟩
  obtain ⟨a1, a2, xs, a3, a4, o, arr, ep, b1, b2, b3, b4⟩ := y
  exact ⟨a1, a2, xs, a3, a4, o, arr, ep, k o b1, b2, b3, b4⟩
theorem dN_empty {P : Program} {w : World} {H : Hp} (h : Heap) (hb : sysModules < h.objs.size) : ObjOk P w H (h.push { cls := .type "dict", data := .dict #[] }) h.objs.size (dN w h.objs.size []) :=
  dN_ok ⟨Nat.zero_le _, beq_eq_false_iff_ne.mpr (Ne.symm (Nat.ne_of_lt hb)), [], .nil, List.nodup_nil, _, #[], 0, Heap.get?_push_size _ rfl, ⟨rfl, rfl, rfl⟩, rfl, rfl⟩
section
variable {X : Cx} {pins : List (Addr × Obj)} {σ : L2.St} {H : Hp} {s : Shared} {d b : Addr} {es : List Ent} {k : NestedKey} {A : Around} {E : Value → Shared → Prop}
theorem dN_of (I : Inv X pins σ H s) (hd : H d = some (dN X.w d es)) (hk : KeysAt X.K H es) :
    es.length ≤ sizeLine ∧ (d == sysModules) = false ∧ ∃ xs, RE es xs ∧ s.heap.DictOfH (nestedKind X.prog X.w) d xs := by
  obtain ⟨⟨a1, a2, xs, a3, a4, o, arr, ep, b1, b2, b3, b4⟩, _, _⟩ := (show ObjOk X.prog X.w H s.heap d (dN X.w d es) from I.hok d _ hd)
  exact ⟨a1, a2, xs, a3, o, arr, ep, b1, b2, b3, b4, re_keys a3 (P := fun k b => (nestedKind X.prog X.w).is s.heap k b) fun p hp => key_is I (hk p hp), a4⟩
end
/-! ### tuples stay -/
def Tk (H H' : Hp) : Prop := ∀ a xs, Rd H a (.tup xs) → Rd H' a (.tup xs)
theorem Tk.rfl' {H : Hp} : Tk H H := fun _ _ h => h
theorem Tk.trans {H H1 H2 : Hp} (h : Tk H H1) (g : Tk H1 H2) : Tk H H2 := fun a xs z => g a xs (h a xs z)
theorem tk_all {H H' : Hp} (h : ∀ a o, H a = some o → H' a = some o) : Tk H H' := fun a xs z => by
  rcases z with z | ⟨o, z⟩
  · exact .inl (h _ _ z)
  · exact .inr ⟨o, h _ _ z⟩
/-- not a tuple -/
def NoTup : HO → Prop
  | .tup _ => False
  | .frz _ (.tup _) => False
  | _ => True
theorem tk_but {H H' : Hp} {d : Addr} {o : HO} (hd : H d = some o) (ho : NoTup o) (h : ∀ a o, a ≠ d → H a = some o → H' a = some o) : Tk H H' := fun a xs z => by
  have ne : a ≠ d := by
    rintro rfl
    rcases z with z | ⟨o', z⟩
    · rw [hd] at z; cases z; exact ho
    · rw [hd] at z; cases z; exact ho
  rcases z with z | ⟨o', z⟩
  · exact .inl (h _ _ ne z)
  · exact .inr ⟨o', h _ _ ne z⟩
theorem tk_upd {H : Hp} {d : Addr} {o o' : HO} (hd : H d = some o) (ho : NoTup o) : Tk H (upd H d o') := tk_but hd ho fun a u ne z => by rw [upd_ne ne]; exact z
theorem tk_new {H : Hp} {d : Addr} {o' : HO} (hd : H d = none) : Tk H (upd H d o') := tk_all fun a o z => by rw [upd_ne (ne_of_none z hd)]; exact z
theorem sqT_tk {K : PySem.W.Frag} {H H' : Hp} {a : Addr} {xs : List V} (t : Tk H H') (h : SqT K H a xs) : SqT K H' a xs := by
  rcases h with h | h
  · exact .inl (t _ _ h)
  · exact .inr h
section
variable {K : PySem.W.Frag} {H H' : Hp}
mutual
theorem dp_tk (t : Tk H H') : ∀ (d : PyData) (v : V), Dp K H v d → kb d = true → Dp K H' v d
  | .none, _, h, _ => by cases h; exact .non
  | .bool _, _, h, _ => by cases h; exact .bl _
  | .int _, _, h, _ => by cases h; exact .int _
  | .str _, _, h, _ => by cases h; exact .str _
  | .tuple ds, _, h, k => by
    cases h with
    | tup hs ha => exact .tup (sqT_tk t hs) (dps_tk t ds _ ha k)
  | .list _, _, _, k => by cases k
  | .dict _, _, _, k => by cases k
theorem dps_tk (t : Tk H H') : ∀ (ds : List PyData) (vs : List V), DpAll K H vs ds → kbs ds = true → DpAll K H' vs ds
  | [], _, h, _ => by cases h; exact .nil
  | d :: ds, _, h, k => by
    cases h with
    | cons h1 h2 =>
      have k' : (kb d && kbs ds) = true := k
      rw [Bool.and_eq_true] at k'
      exact .cons (dp_tk t d _ h1 k'.1) (dps_tk t ds _ h2 k'.2)
end
theorem KeyAt.tk {k : NestedKey} {b : Addr} (t : Tk H H') (h : KeyAt K H k b) : KeyAt K H' k b := by
  obtain ⟨d, h1, h2, h3⟩ := h
  exact ⟨d, dp_tk t d _ h1 h2, h2, h3⟩
theorem KeysAt.tk {es : List Ent} (t : Tk H H') (h : KeysAt K H es) : KeysAt K H' es := fun p hp => (h p hp).tk t
end
/-! ### one entry more, and the reads -/
section
variable {X : Cx} {pins : List (Addr × Obj)} {σ : L2.St} {H : Hp} {s : Shared} {d b : Addr} {es : List Ent} {k : NestedKey} {A : Around} {E : Value → Shared → Prop} {z : V} {r : Value}
theorem room_n {A : Around} {w : World} {P : Program} (hu : A.units + 16 < cLine) : (nestedKind P w).room A := by show A.units + 8 < cLine; omega
theorem room_n1 {A : Around} {w : World} {P : Program} (hu : A.units + 16 < cLine) : (nestedKind P w).room A.in1 := by
  show A.in1.units + 8 < cLine
  simp only [Around.in1_units]
  omega
/-- what is written back -/
theorem back_n {h' : Heap} {tk : Nat} {xs : List (NestedKey × Addr × Value)} (I : Inv X pins σ H s) (hd : H d = some (dN X.w d es)) (hz : es.length < sizeLine) (hm : (d == sysModules) = false) (re : RE es xs) (rz : RelV z r)
    (dd : h'.DictOfH (nestedKind X.prog X.w) d (storedH xs k b r)) (sb : Heap.SameBut d s.heap h') : Inv X pins σ (upd H d (dN X.w d (putN es k b z))) { s with heap := h', toks := tk } := by
  obtain ⟨o, arr, ep, b1, b2, b3, b4, _, b5⟩ := dd
  have := putN_len es k b z
  exact d_write (t' := tk) I (by rw [hd]; exact True.intro) sb ⟨o, b1⟩ (dN_ok ⟨by omega, hm, _, re_put re k b rz, b5, o, arr, ep, b1, b2, b3, b4⟩)
theorem set_n {Q : Unit → Shared → Prop} (hu : X.A.units + 16 < cLine) (I : Inv X pins σ H s) (hd : H d = some (dN X.w d es)) (hk : KeysAt X.K H es) (hb : KeyAt X.K H k b) (hz : es.length < sizeLine) (rz : RelV z r)
    (h : ∀ s', Inv X pins σ (upd H d (dN X.w d (putN es k b z))) s' → Q () s') : wpAny (model X.prog X.w) X.A (dictSet d (.ref b) r) Q E s := by
  obtain ⟨z1, z2, xs, re, dd⟩ := dN_of I hd hk
  have hl : xs.length ≤ sizeLine := by rw [← Paired.length re]; exact z1
  exact wpAny_dictSet_heap (hsz := hl) (room_n hu) (key_is I hb) dd fun h' d' sb => h _ (back_n I hd hz z2 re rz d' sb)
theorem setItem_n {Q : Unit → Shared → Prop} (hu : X.A.units + 16 < cLine) (I : Inv X pins σ H s) (hd : H d = some (dN X.w d es)) (hk : KeysAt X.K H es) (hb : KeyAt X.K H k b) (hz : es.length < sizeLine) (rz : RelV z r)
    (h : ∀ s', Inv X pins σ (upd H d (dN X.w d (putN es k b z))) s' → Q () s') : wpAny (model X.prog X.w) X.A (setItem (.ref d) (.ref b) r) Q E s := by
  obtain ⟨z1, z2, xs, re, dd⟩ := dN_of I hd hk
  have hl : xs.length ≤ sizeLine := by rw [← Paired.length re]; exact z1
  exact wpAny_setItem_heap (hsz := hl) (room_n1 hu) (key_is I hb) dd fun h' d' sb => h _ (back_n I hd hz z2 re rz d' sb)
/-- x in d, x not in d -/
def rInN (K : PySem.W.Frag) (w : World) (neg : Bool) : R2 := fun x y H Q => ∃ (b d : Addr) (es : List Ent) (k : NestedKey), x = .ref b ∧ y = .ref d ∧ H d = some (dN w d es) ∧ KeysAt K H es ∧ KeyAt K H k b ∧ Q (.bl (if neg then !(getN es k).isSome else (getN es k).isSome)) H
theorem op_inN {K : PySem.W.Frag} {w : World} (hu : X.A.units + 16 < cLine) (hK : X.K = K) (hW : X.w = w) : OpR X (compareOp .In) (rInN K w false) := by
  subst hK hW
  intro pins s σ H x y v u Q I rx ry h
  obtain ⟨b, d, es, k, rfl, rfl, hd, hk, hb, q⟩ := h
  cases rx
  cases ry
  obtain ⟨z1, z2, xs, re, dd⟩ := dN_of I hd hk
  refine wpAny_in_heap (room_n1 hu) (key_is I hb) z2 dd ?_
  rw [← re_some re]
  exact ⟨.bl (getN es k).isSome, H, I.tok _, rfl, q⟩
theorem op_notInN {K : PySem.W.Frag} {w : World} (hu : X.A.units + 16 < cLine) (hK : X.K = K) (hW : X.w = w) : OpR X (compareOp .NotIn) (rInN K w true) := by
  subst hK hW
  intro pins s σ H x y v u Q I rx ry h
  obtain ⟨b, d, es, k, rfl, rfl, hd, hk, hb, q⟩ := h
  cases rx
  cases ry
  obtain ⟨z1, z2, xs, re, dd⟩ := dN_of I hd hk
  refine wpAny_notIn_heap (room_n1 hu) (key_is I hb) z2 dd ?_
  rw [← re_some re]
  exact ⟨.bl (!(getN es k).isSome), H, I.tok _, rfl, q⟩
/-- d[x], there -/
def tIxN (K : PySem.W.Frag) (w : World) (td ty : TE) : TE := fun σ H Q => td σ H fun y H1 => ty σ H1 fun x H2 => ∃ (b d : Addr) (es : List Ent) (k : NestedKey) (v : V), x = .ref b ∧ y = .ref d ∧ H2 d = some (dN w d es) ∧ KeysAt K H2 es ∧ KeyAt K H2 k b ∧ getN es k = some v ∧ Q v H2
theorem pe_ixN {o i : Expr} {td ty : TE} {pos : Pos} {K : PySem.W.Frag} {w : World} (hu : X.A.units + 16 < cLine) (hK : X.K = K) (hW : X.w = w) (ho : PE X o td) (hi : PE X i ty) (hs : NoSl i) : PE X (.Subscript o i pos) (tIxN K w td ty) := by
  subst hK hW
  refine ⟨fun pins s σ H Q I h => ?_⟩
  refine subD_of PySem.F.slot_dict_getitem.lookup hs (thn (ho.run pins s σ H _ I h) fun u s1 ⟨y, H1, I1, ry, q1⟩ => thn (hi.run pins s1 σ H1 _ I1 q1) fun iv s2 ⟨x, H2, I2, rx, b, d, es, k, v, ex, ey, hd, hk, hb, hv, q⟩ => ?_)
  subst ex ey
  cases rx
  cases ry
  obtain ⟨z1, z2, xs, re, dd⟩ := dN_of I2 hd hk
  have g := re_get re k
  rw [hv] at g
  obtain ⟨w', hw, rw'⟩ := RelO.some_of g
  obtain ⟨p, hp, hp2⟩ := Option.map_eq_some_iff.mp hw
  refine ⟨dd.typeIs, wpAny_getItem_heap (room_n1 hu) (key_is I2 hb) dd hp ?_⟩
  rw [hp2]
  exact ⟨v, H2, I2.tok _, rw', q⟩
/-- d[x] = v -/
def rSetN (K : PySem.W.Frag) (w : World) : TSet := fun o i v H Q => ∃ (b d : Addr) (es : List Ent) (k : NestedKey), i = .ref b ∧ o = .ref d ∧ H d = some (dN w d es) ∧ KeysAt K H es ∧ KeyAt K H k b ∧ es.length < sizeLine ∧ Q (upd H d (dN w d (putN es k b v)))
theorem set_dictN (hu : X.A.units + 16 < cLine) : PSet X (rSetN X.K X.w) := by
  intro pins s σ H o i v ov iv u Q I ro ri rv h
  obtain ⟨b, d, es, k, rfl, rfl, hd, hk, hb, hz, q⟩ := h
  cases ro
  cases ri
  exact setItem_n hu I hd hk hb hz rv fun s' I' => ⟨_, I', q⟩
end
end RN

/-! a dict comprehension whose keys are nested tuples -/
namespace RN
open PySem PySem.Spec PyProof.Rows L2
/-- the reading of {k: v for target in iter if ..} with such keys -/
def tDcN (K : PySem.W.Frag) (w : World) (src : TI) (g : TG) (tt : TT) (tk tv : TE) (own : List Nat) : TE := fun σ H Q => src σ H fun J G => ∀ D, G D = none → ∃ W : Nat → Nat → Hp → Prop, (∃ m, W 0 m (upd G D (dN w D []))) ∧ ∀ i m F, W i m F →
  (J.stop i F ∧ Q (.ref D) F) ∨ (J.go i F ∧ ∃ Nx : Hp → Prop, (∀ F', Nx F' → ∃ m', m' < m ∧ W (i + 1) m' F') ∧ ∀ x F', J.yld i F x F' → g x (wipe σ own) F' fun τ F2 => wipe τ own = wipe σ own ∧ tt τ F2 fun c F3 =>
    if c = true then tk τ F3 fun y F4 => tv τ F4 fun z F5 => ∃ es k b, y = .ref b ∧ KeyAt K F5 k b ∧ F5 D = some (dN w D es) ∧ KeysAt K F5 es ∧ es.length < sizeLine ∧ Nx (upd F5 D (dN w D (putN es k b z))) else Nx F3)
section
variable {X : Cx} {kx vx tg iter : Expr} {ifs : List Expr} {scope : Scope} {own : List (Str × Nat)} {pos : Pos} {src : TI} {g : TG} {tt : TT} {tk tv : TE}
theorem dcN_core {pins : List (Addr × Obj)} {s : Shared} {σ : L2.St} {H : Hp} {Q : VK} {pos' : Pos} {use : Option (Value → Sem Unit)} {Qf : Value → Shared → Prop} (I : Inv X pins σ H s)
    (hu : X.A.units + 64 < cLine) (hc : X.calm = true) (hN : X.N.Nodup) (hi : PI X tg iter src) (ok : BlkOk X.N X.env.scope scope own)
    (hg : ∀ (s : Shared) (G : Hp) (C : Addr) (cl : List (Str × Addr)) (fp : List Addr), PG (X.blk s G scope (compEnvC scope cl C X.env) fp) tg g)
    (ht : ∀ (s : Shared) (G : Hp) (C : Addr) (cl : List (Str × Addr)) (fp : List Addr), PTs (X.blk s G scope (compEnvC scope cl C X.env) fp) ifs tt)
    (hk : ∀ (s : Shared) (G : Hp) (C : Addr) (cl : List (Str × Addr)) (fp : List Addr), PE (X.blk s G scope (compEnvC scope cl C X.env) fp) kx tk)
    (hv : ∀ (s : Shared) (G : Hp) (C : Addr) (cl : List (Str × Addr)) (fp : List Addr), PE (X.blk s G scope (compEnvC scope cl C X.env) fp) vx tv)
    (hs : ∀ x, foldedSetIterable iter X.env x = pure x) (h : tDcN X.K X.w src g tt tk tv (own.map (·.2)) σ H Q)
    (hR : ∀ D C s' m F, Inv X pins σ F s' → Q (.ref D) F → s'.heap.Ns C m → FpOk X pins F C → compPost (model X.prog X.w) X.A X.xe use Qf (.ref D) C (.ok .next) s') :
    wpAny (model X.prog X.w) X.A (comprehension (.DictComp kx vx [⟨tg, iter, ifs, 0⟩] scope pos) scope X.env pos' newDict false (eval iter X.env) use) Qf X.xe s := by
  have fr : ∀ y ∈ scope.names, y.2 = .free → ∃ c, X.env.cells.lookup y.1 = some c := fun y hy e => (ok.free y hy e).elim (fun z => I.ok.has _ (.inl z)) fun z => I.ok.has _ (.inr z)
  refine wpAny_comprehension_free (use := use) rfl hs (closure_ok fr) ok.kind (fun y hy e => by rw [ok.uniq y hy, e]) (thn (hi.run pins s σ H _ I h) fun xv s1 hx => thn hx fun iv s2 a2 => ?_)
  obtain ⟨it, fp, tn, J, G, rfl, K2, T, t2, p2, q⟩ := a2
  refine wpAny_newObj_type (newEnv_comp ?_)
  obtain ⟨W, ⟨m0, w0⟩, turn⟩ := q s2.heap.objs.size (K2.hok.fresh (Nat.le_refl _))
  generalize eD : s2.heap.objs.size = D at w0 turn
  have nD : G D = none := K2.hok.fresh (Nat.le_of_eq eD)
  -- the new dict
  generalize e3 : ({ s2 with heap := s2.heap.push { cls := .type "dict", data := .dict #[] } } : Shared) = s3
  have K3 : Inv X pins σ (upd G D (dN X.w D [])) s3 := by
    subst e3
    refine K2.laid (t' := s2.toks) (fun b o z => Heap.get?_push_of_some _ z) (Nat.le_of_eq eD) ?_
    subst eD
    exact dN_empty s2.heap K2.big
  have z3 : s3.heap = s2.heap.push { cls := .type "dict", data := .dict #[] } := by subst e3; rfl
  have p3 : ∀ b ∈ fp, FpOk X pins (upd G D (dN X.w D [])) b ∧ b < s3.heap.objs.size := fun b hb => by
    obtain ⟨o, y, _⟩ := T.obj _ _ t2 b hb
    have lt : b < s2.heap.objs.size := Heap.lt_size y
    refine ⟨⟨?_, (p2 b hb).2⟩, by rw [z3, Heap.size_push]; exact Nat.lt_succ_of_lt lt⟩
    rw [upd_ne (by rw [← eD]; exact Nat.ne_of_lt lt)]
    exact (p2 b hb).1
  have t3 : tn 0 s3.heap := T.keep _ _ _ t2 fun b _ o y => by rw [z3]; exact Heap.get?_push_of_some _ y
  have K4 := block_start K3 ok hN p3
  have qg := hg s3 (upd G D (dN X.w D [])) s3.heap.objs.size (cellsFrom (s3.heap.objs.size + 1) scope.names (cloFrom X.env.cells scope.names [])) fp
  have qt := ht s3 (upd G D (dN X.w D [])) s3.heap.objs.size (cellsFrom (s3.heap.objs.size + 1) scope.names (cloFrom X.env.cells scope.names [])) fp
  have qk := hk s3 (upd G D (dN X.w D [])) s3.heap.objs.size (cellsFrom (s3.heap.objs.size + 1) scope.names (cloFrom X.env.cells scope.names [])) fp
  have qv := hv s3 (upd G D (dN X.w D [])) s3.heap.objs.size (cellsFrom (s3.heap.objs.size + 1) scope.names (cloFrom X.env.cells scope.names [])) fp
  have np : ∀ b ∈ fp, (upd G D (dN X.w D [])) b = none := fun b hb => (p3 b hb).1.1
  show codeAny _ _ (.compStart (.DictComp kx vx [⟨tg, iter, ifs, 0⟩] scope pos) 0 (.ref it) (.ref D) (compEnvC scope (cellsFrom (s3.heap.objs.size + 1) scope.names (cloFrom X.env.cells scope.names [])) s3.heap.objs.size X.env)) (compPost (model X.prog X.w) X.A X.xe use _ (.ref D) s3.heap.objs.size) { s3 with heap := pushCells (s3.heap.push { cls := .type "dict", data := .dict #[] }) scope.names }
  generalize ec : compEnvC scope (cellsFrom (s3.heap.objs.size + 1) scope.names (cloFrom X.env.cells scope.names [])) s3.heap.objs.size X.env = ce at K4 qg qt qk qv ⊢
  have eL : ce.locals = s3.heap.objs.size := by subst ec; rfl
  generalize eG : upd G D (dN X.w D []) = G3 at K3 K4 qg qt qk qv w0 np p3
  generalize e4 : ({ s3 with heap := pushCells (s3.heap.push { cls := .type "dict", data := .dict #[] }) scope.names } : Shared) = s4 at K4 ⊢
  have t4 : tn 0 s4.heap := T.keep _ _ _ t3 fun b _ o y => by subst e4; exact pushCells_keeps _ _ _ _ (Heap.get?_push_of_some _ y)
  have still : ∀ {τ : L2.St} {F : Hp} {s' : Shared}, Inv (X.blk s3 G3 scope ce fp) [] τ F s' → (∀ b ∈ fp, F b = none) → ∀ b ∈ fp, FpOk (X.blk s3 G3 scope ce fp) [] F b := fun {τ F s'} L n b hb =>
    ⟨n b hb, (L.ok.exf b hb).1, L.ok.exfs b hb, .inl hb, fun x c y => (L.ok.exf b hb).2 x c y, fun p hp => absurd (show p ∈ ([] : List (Addr × Obj)) ++ [] from hp) (by simp)⟩
  have go : codeAny (model X.prog X.w) X.A (.compLoop (.DictComp kx vx [⟨tg, iter, ifs, 0⟩] scope pos) 0 (.ref it) (.ref D) ce) (compPost (model X.prog X.w) X.A X.xe use Qf (.ref D) s3.heap.objs.size) s4 := by
    refine compLoop_anyD (fun n s' => ∃ i F, Inv (X.blk s3 G3 scope ce fp) [] (wipe σ (own.map (·.2))) F s' ∧ tn i s'.heap ∧ (∀ b ∈ fp, F b = none) ∧ W i n F) ?_ m0 ⟨0, G3, K4, t4, np, w0⟩
    rintro n s5 ⟨i, F, L, t5, n5, w5⟩
    rcases turn i n F w5 with ⟨stop, qq⟩ | ⟨hgo, Nx, hNx, step⟩
    · refine thnF (T.done (X.blk s3 G3 scope ce fp) rfl rfl rfl hc i [] s5 _ F (fun _ _ => False) L (still L n5) t5 stop) fun r s6 ⟨hr, L6⟩ => ?_
      subst hr
      have M : Inv X pins σ F s6 := K3.call' (ch := fp) L6.os L6.base L6.hok L6.bare fun b hb => ⟨(p3 b hb).1.2.2.2.1, (p3 b hb).1.2.1, (p3 b hb).1.2.2.2.2.1, (p3 b hb).1.2.2.2.2.2⟩
      have nC : F s3.heap.objs.size = none := eL ▸ L6.free
      obtain ⟨m, hn, _⟩ := L6.loc
      have hn' : s6.heap.Ns ce.locals m := hn
      rw [eL] at hn'
      exact hR D s3.heap.objs.size s6 m F M qq hn' (K3.fpOk (Nat.le_refl _) nC)
    · refine thnF (T.item (X.blk s3 G3 scope ce fp) rfl rfl rfl hc i [] s5 _ F (fun _ _ => False) L (still L n5) t5 hgo) fun r s6 ⟨u, hr, h6⟩ => ?_
      subst hr
      refine thnF h6 fun _ s7 ⟨x, F7, L7, r7, y7, t7, n7⟩ => ?_
      have L7' := L7.pinned (still L7 n7) (T.obj _ _ t7)
      refine thnF (qg.run _ s7 _ F7 x u _ L7' r7 (step x F7 y7)) fun _ s8 ⟨τ, F8, L8, hw, q8⟩ => ?_
      refine thnF (qt.run _ s8 τ F8 _ L8 q8) fun c s9 ⟨F9, L9, q9⟩ => ?_
      have fin : ∀ {s' : Shared} {F' : Hp}, Inv (X.blk s3 G3 scope ce fp) ([] ++ pinsAt fp s7.heap) τ F' s' → Nx F' → ∃ m, m < n ∧ ∃ i F', Inv (X.blk s3 G3 scope ce fp) [] (wipe σ (own.map (·.2))) F' s' ∧ tn i s'.heap ∧ (∀ b ∈ fp, F' b = none) ∧ W i m F' := fun {s' F'} L' nx => by
        obtain ⟨m', hm, w'⟩ := hNx F' nx
        have pin : ∀ b ∈ fp, ∀ o, s7.heap.get? b = some o → s'.heap.get? b = some o ∧ F' b = none := fun b hb o y =>
          have z := L'.pin (b, o) (List.mem_append_right _ (List.mem_append_right _ (mem_pinsAt hb y)))
          ⟨z.1, z.2.1⟩
        refine ⟨m', hm, i + 1, F', (L'.unpinned (pins := [])).weak (by rw [← hw, wipe_length]) (fun j v y => ?_), T.keep _ _ _ t7 fun b hb o y => (pin b hb o y).1, fun b hb => ?_, w'⟩
        · rw [← hw] at y
          exact (wipe_some y).1
        · obtain ⟨o, y, _⟩ := T.obj _ _ t7 b hb
          exact (pin b hb o y).2
      cases c with
      | false =>
        simp only [Bool.false_eq_true, if_false] at q9 ⊢
        exact fin L9 q9
      | true =>
        simp only [if_true] at q9 ⊢
        refine thnF (qk.run _ s9 τ F9 _ L9 q9) fun a1 s10 ⟨yk, F10, L10, r10, q10⟩ => ?_
        refine thnF (qv.run _ s10 τ F10 _ L10 q10) fun a2 s11 ⟨yv, F11, L11, r11, es, k, b, ek, hb, hD, hk, hz, nx⟩ => ?_
        subst ek
        cases (show a1 = Value.ref b from r10)
        exact set_n (X := X.blk s3 G3 scope ce fp) (by show X.A.units + 16 < cLine; omega) L11 hD hk hb hz r11 fun s12 L12 => fin L12 nx
  exact codeAny_compStart_dict go (T.self X.A 0 _ _ _ t4 go)
theorem pe_dcN (hu : X.A.units + 64 < cLine) (hc : X.calm = true) (hN : X.N.Nodup) (hi : PI X tg iter src) (ok : BlkOk X.N X.env.scope scope own)
    (hg : ∀ (s : Shared) (G : Hp) (C : Addr) (cl : List (Str × Addr)) (fp : List Addr), PG (X.blk s G scope (compEnvC scope cl C X.env) fp) tg g)
    (ht : ∀ (s : Shared) (G : Hp) (C : Addr) (cl : List (Str × Addr)) (fp : List Addr), PTs (X.blk s G scope (compEnvC scope cl C X.env) fp) ifs tt)
    (hk : ∀ (s : Shared) (G : Hp) (C : Addr) (cl : List (Str × Addr)) (fp : List Addr), PE (X.blk s G scope (compEnvC scope cl C X.env) fp) kx tk)
    (hv : ∀ (s : Shared) (G : Hp) (C : Addr) (cl : List (Str × Addr)) (fp : List Addr), PE (X.blk s G scope (compEnvC scope cl C X.env) fp) vx tv)
    (hs : ∀ x, foldedSetIterable iter X.env x = pure x := by intro _; rfl) : PE X (.DictComp kx vx [⟨tg, iter, ifs, 0⟩] scope pos) (tDcN X.K X.w src g tt tk tv (own.map (·.2))) := by
  refine ⟨fun pins s σ H Q I h => ?_⟩
  rw [arm_eval_DictComp]
  refine dcN_core I hu hc hN hi ok hg ht hk hv hs h fun D C s' m F J q hn f => ⟨m, hn, fun h'' sb => ?_⟩
  obtain ⟨y0, y1, y2, y3, y4, y5⟩ := f
  exact ⟨.ref D, F, J.turned (t' := s'.toks) (fun b o hb z => (sb.2 b hb).trans z) y0 y1 y3 y4 y5, rfl, q⟩
theorem ps_setDcN {i : Nat} {y : Str} {py spos : Pos} (hy : X.N[i]? = some y) (hl : X.env.scope.names.lookup y = some .local) (hsw : swapsWith (.DictComp kx vx [⟨tg, iter, ifs, 0⟩] scope pos) (some (.Name y py)) spos.line X.env = pure true)
    (hu : X.A.units + 64 < cLine) (hc : X.calm = true) (hN : X.N.Nodup) (hi : PI X tg iter src) (ok : BlkOk X.N X.env.scope scope own)
    (hg : ∀ (s : Shared) (G : Hp) (C : Addr) (cl : List (Str × Addr)) (fp : List Addr), PG (X.blk s G scope (compEnvC scope cl C X.env) fp) tg g)
    (ht : ∀ (s : Shared) (G : Hp) (C : Addr) (cl : List (Str × Addr)) (fp : List Addr), PTs (X.blk s G scope (compEnvC scope cl C X.env) fp) ifs tt)
    (hk : ∀ (s : Shared) (G : Hp) (C : Addr) (cl : List (Str × Addr)) (fp : List Addr), PE (X.blk s G scope (compEnvC scope cl C X.env) fp) kx tk)
    (hv : ∀ (s : Shared) (G : Hp) (C : Addr) (cl : List (Str × Addr)) (fp : List Addr), PE (X.blk s G scope (compEnvC scope cl C X.env) fp) vx tv)
    (hs : ∀ x, foldedSetIterable iter X.env x = pure x := by intro _; rfl) : PS X (.Assign [.Name y py] (.DictComp kx vx [⟨tg, iter, ifs, 0⟩] scope pos) spos) (tAsg (tDcN X.K X.w src g tt tk tv (own.map (·.2))) (gName i)) := by
  refine ⟨fun pins s σ H Ds I h => ?_⟩
  rw [exec_Assign_Name_used _ _ _ _ hsw]
  refine wpAny_bind (wpAny_standAt (wpAny_bind ?_))
  show wpAny _ X.A (do let _ ← comprehension (.DictComp kx vx [⟨tg, iter, ifs, 0⟩] scope pos) scope X.env (firstIterPos [⟨tg, iter, ifs, 0⟩] pos) newDict false (eval iter X.env) (some (assign (.Name y py) X.env))) _ _ s
  have h' : tDcN X.K X.w src g tt tk tv (own.map (·.2)) σ H (fun x G => gName i x σ G Ds.nx) := h
  exact wpAny_bind (thn (dcN_core (Qf := fun _ s' => SP X pins Ds .next s') I hu hc hN hi ok hg ht hk hv hs h' fun D C s' m F J q hn f => R1.dc_store hN hy hl J q hn f) fun _ s' hq => wpAny_pure (wpAny_pure hq))
end
section
variable {J : It} {n : Nat} {G : Hp → Prop} {Y : Nat → Hp → V → Hp → Prop} {g : TG} {tt : TT} {tk tv : TE} {vs : List Nat} {σ : L2.St} {H1 : Hp} {D : Addr} {Qd : Hp → Prop} {K : PySem.W.Frag} {w : World}
theorem dN_it (wk : Walk J n G Y) (Pv : Nat → Hp → Prop) (h0 : Pv 0 (upd H1 D (dN w D []))) (hG : ∀ i H, i ≤ n → Pv i H → G H)
    (hs : ∀ i x H H', i < n → Pv i H → Y i H x H' → g x (wipe σ vs) H' fun τ F2 => wipe τ vs = wipe σ vs ∧ tt τ F2 fun c F3 =>
      if c = true then tk τ F3 fun y F4 => tv τ F4 fun z F5 => ∃ es k b, y = .ref b ∧ KeyAt K F5 k b ∧ F5 D = some (dN w D es) ∧ KeysAt K F5 es ∧ es.length < sizeLine ∧ Pv (i + 1) (upd F5 D (dN w D (putN es k b z))) else Pv (i + 1) F3) (hd : ∀ H, Pv n H → Qd H) :
    ∃ W : Nat → Nat → Hp → Prop, (∃ m, W 0 m (upd H1 D (dN w D []))) ∧ ∀ i m F, W i m F → (J.stop i F ∧ Qd F) ∨ (J.go i F ∧ ∃ Nx : Hp → Prop, (∀ F', Nx F' → ∃ m', m' < m ∧ W (i + 1) m' F') ∧ ∀ x F', J.yld i F x F' → g x (wipe σ vs) F' fun τ F2 => wipe τ vs = wipe σ vs ∧ tt τ F2 fun c F3 =>
      if c = true then tk τ F3 fun y F4 => tv τ F4 fun z F5 => ∃ es k b, y = .ref b ∧ KeyAt K F5 k b ∧ F5 D = some (dN w D es) ∧ KeysAt K F5 es ∧ es.length < sizeLine ∧ Nx (upd F5 D (dN w D (putN es k b z))) else Nx F3) := by
  refine ⟨fun i m F => i + m = n ∧ Pv i F, ⟨n, by omega, h0⟩, fun i m F hW => ?_⟩
  obtain ⟨hm, p⟩ := hW
  have q := hG i F (by omega) p
  by_cases lt : i < n
  · exact .inr ⟨wk.goes i F lt q, Pv (i + 1), fun F' p' => ⟨m - 1, by omega, by omega, p'⟩, fun x F' y => hs i x F F' lt p (wk.yields i F x F' lt q y)⟩
  · obtain rfl : i = n := by omega
    exact .inl ⟨wk.stops F q, hd F p⟩
end
end RN

/-! d.items(), list of it, dict(pairs), of dicts with nested keys -/
namespace RN
open PySem PySem.Spec PyProof.Rows L2
section
variable {X : Cx}
theorem re_at : ∀ {es : List Ent} {xs : List (NestedKey × Addr × Value)}, RE es xs → ∀ (j : Nat) (p : Ent), es[j]? = some p → ∃ q, xs[j]? = some q ∧ p.1 = q.1 ∧ p.2.1 = q.2.1 ∧ RelV p.2.2 q.2.2
  | _, _, .nil, j, p, h => by simp at h
  | _, _, .cons e t, 0, p, h => by cases h; exact ⟨_, rfl, e⟩
  | _, _, .cons e t, j + 1, p, h => by simpa using re_at t j p (by simpa using h)
theorem re_vals : ∀ {es : List Ent} {xs : List (NestedKey × Addr × Value)}, RE es xs → Vals (es.map fun p => p.2.2) (xs.map fun q => q.2.2) ∧ Vals (es.map fun p => V.ref p.2.1) (xs.map fun q => Value.ref q.2.1)
  | _, _, .nil => ⟨.nil, .nil⟩
  | _, _, .cons e t => ⟨.cons e.2.2 (re_vals t).1, .cons (show Value.ref _ = Value.ref _ from congrArg Value.ref e.2.1.symm) (re_vals t).2⟩
theorem raw_n {pins : List (Addr × Obj)} {σ : L2.St} {H : Hp} {s : Shared} {d : Addr} {es : List Ent} (I : Inv X pins σ H s) (hd : H d = some (dN X.w d es)) :
    es.length ≤ sizeLine ∧ (d == sysModules) = false ∧ ∃ xs arr ep, RE es xs ∧ s.heap.DictRaw d arr ep ∧ arr.toList = xs.map fun x => (⟨x.1.hash X.w, .ref x.2.1, x.2.2⟩ : DictEntry) := by
  obtain ⟨⟨a1, a2, xs, a3, a4, o, arr, ep, b1, b2, b3, b4⟩, _, _⟩ := (show ObjOk X.prog X.w H s.heap d (dN X.w d es) from I.hok d _ hd)
  exact ⟨a1, a2, xs, arr, ep, a3, ⟨o, b1, b2, b3⟩, b4⟩
/-- d.items() -/
def rItemsN (w : World) : V → List V → Hp → VK → Prop := fun x vs H Q => ∃ (d : Addr) (es : List Ent), x = .ref d ∧ vs = [] ∧ H d = some (dN w d es) ∧ ∀ p, H p = none → Q (.ref p) (upd H p (L2.DX.itemsO p d))
theorem mt_itemsN {w : World} (hW : X.w = w) : MtR X "dict.items" (rItemsN w) := by
  subst hW
  intro pins s σ H x vs v us Q I rx rxs h
  obtain ⟨d, es, rfl, rfl, hd, q⟩ := h
  cases rx
  cases rxs
  obtain ⟨_, lo, xs, arr, ep, _, ⟨o, b1, b2, b3⟩, _⟩ := raw_n I hd
  refine DT.callItems (es := arr) (ep := ep) lo ⟨o, b1, b2, b3⟩ ?_
  have hf : H s.heap.objs.size = none := I.hok.fresh (Nat.le_refl _)
  exact ⟨.ref s.heap.objs.size, upd H s.heap.objs.size (L2.DX.itemsO s.heap.objs.size d), I.laid (t' := s.toks) (fun b u e => Heap.get?_push_of_some _ e) (Nat.le_refl _) (L2.DX.itemsO_ok (Heap.get?_push_size _ rfl)), rfl, q _ hf⟩
/-- list(d.items()) -/
def rListItN (w : World) : List V → Hp → VK → Prop := fun vs H Q => ∃ (p d : Addr) (es : List Ent), vs = [.ref p] ∧ H p = some (L2.DX.itemsO p d) ∧ H d = some (dN w d es) ∧ es.length ≤ 1000 ∧
  ∀ (H2 : Hp) (l : Addr) (as : List Addr), Same H H2 → H l = none → as.length = es.length → H2 l = some (.lst (as.map V.ref)) → (∀ (j : Nat) (c : Addr) (e : Ent), as[j]? = some c → es[j]? = some e → H2 c = some (.tup [.ref e.2.1, e.2.2])) → Q (.ref l) H2
theorem call_listItN {w : World} (hc : X.calm = true) (hW : X.w = w) : CallR X (.type "list") (rListItN w) := by
  subst hW
  intro pins s σ H vs us Q I r h
  obtain ⟨p, d, es, rfl, hp, hd, hl, q⟩ := h
  obtain ⟨u, rfl, rx⟩ := vals1 r
  cases rx
  obtain ⟨_, lo, xs, arr, ep, re, raw, ha⟩ := raw_n I hd
  have hv : s.heap.IsItemsView p d := (show ObjOk X.prog X.w H s.heap p (L2.DX.itemsO p d) from I.hok p _ hp).1
  have l1 : xs.length = es.length := (Paired.length re).symm
  have l2 : arr.size = es.length := by
    rw [← Array.length_toList, ha, List.length_map, l1]
  obtain ⟨rv, rk⟩ := re_vals re
  refine PySem.W.dil_call (I.ok.hd hc) hv raw (by rw [l2, sizeLine_eq]; omega) fun h' tk acc c as hk hS hal G hacc => ?_
  have G2 : R1.Prs h' (s.heap.objs.size + 1) (xs.map fun q => Value.ref q.2.1).toArray (xs.map fun q => q.2.2).toArray as := by
    refine ⟨G.rise, fun c hc => G.above c hc, fun j c hj => ?_⟩
    obtain ⟨hj2, e⟩ := G.pairs j c hj
    have hx : j < xs.length := by rw [l1, ← l2]; exact hj2
    have e1 : arr[j] = (⟨xs[j].1.hash X.w, .ref xs[j].2.1, xs[j].2.2⟩ : DictEntry) := by
      have z : arr.toList[j]? = some arr[j] := by rw [Array.getElem?_toList]; exact Array.getElem?_eq_getElem hj2
      rw [ha, List.getElem?_map, List.getElem?_eq_getElem hx] at z
      exact (Option.some.inj z).symm
    rw [e1] at e
    exact ⟨_, _, by simp [hx], by simp [hx], e⟩
  obtain ⟨H2, sm, n0, at0, att, J⟩ := R1.zip_laid (tk := tk) I rk rv (by omega) hk (Nat.le_refl _) (Nat.lt_succ_self _) hS G2 hacc
  refine ⟨.ref s.heap.objs.size, H2, J, rfl, q H2 _ as sm n0 (by omega) at0 fun j c e hj he => att j c _ _ hj (by rw [List.getElem?_map, he]; rfl) (by rw [List.getElem?_map, he]; rfl)⟩
/-- tuple(xs) of a list, the very object known -/
def FrzT (H : Hp) (a : Addr) (xs : List V) : Prop := ∃ o : Obj, o.dict = none ∧ H a = some (.frz o (.tup xs))
theorem call_tupleF : CallR X (.type "tuple") (fun vs H Q => ∃ p ys, vs = [V.ref p] ∧ H p = some (.lst ys) ∧ ∀ l H', H l = none → Same H H' → FrzT H' l ys → Q (.ref l) H') := by
  intro pins s σ H vs us Q I r h
  obtain ⟨p, ys, rfl, hp, q⟩ := h
  obtain ⟨u, rfl, rx⟩ := vals1 r
  cases rx
  obtain ⟨its, r', pl, hz⟩ := I.list (show SqL X.K H p ys from .of hp)
  have hlen := r'.length
  refine call_tuple_list pl.isList (fun h' kp => ?_) (by simp only [List.size_toArray] <;> omega)
  have I1 : Inv X pins σ H { s with heap := h' } := I.kept (t' := s.toks) kp
  have nl : H h'.objs.size = none := I1.hok.fresh (Nat.le_refl _)
  have I2 : Inv X pins σ (upd H h'.objs.size (.frz { cls := .type "tuple", data := .seq its.toArray } (.tup ys))) { s with heap := h'.push { cls := .type "tuple", data := .seq its.toArray } } :=
    I1.laid (t' := s.toks) (fun b o e => Heap.get?_push_of_some _ e) (Nat.le_refl _) ⟨Heap.get?_push_size _ rfl, hz, its, r', IsTup.new _ _⟩
  refine ⟨.ref h'.objs.size, _, I2, rfl, q _ _ nl (fun a o e => by rw [upd_ne (ne_of_none e nl)]; exact e) ⟨_, rfl, upd_same⟩⟩
/-- dict(t), t a tuple of pairs with different keys -/
def rDictPN (K : PySem.W.Frag) (w : World) : List V → Hp → VK → Prop := fun vs H Q => ∃ (t : Addr) (cs : List Addr) (es : List Ent), vs = [.ref t] ∧ FrzT H t (cs.map V.ref) ∧ cs.length = es.length ∧ es.length ≤ 1000 ∧
  (∀ (j : Nat) (c : Addr) (e : Ent), cs[j]? = some c → es[j]? = some e → SqT K H c [.ref e.2.1, e.2.2]) ∧ KeysAt K H es ∧ (es.map (·.1)).Nodup ∧ ∀ d, H d = none → Q (.ref d) (upd H d (dN w d es))
theorem re_nodup : ∀ {es : List Ent} {xs : List (NestedKey × Addr × Value)}, RE es xs → es.map (·.1) = xs.map (·.1)
  | _, _, .nil => rfl
  | _, _, .cons e t => by rw [List.map_cons, List.map_cons, re_nodup t, e.1]
theorem pairs_n {pins : List (Addr × Obj)} {σ : L2.St} {H : Hp} {s : Shared} (I : Inv X pins σ H s) : ∀ (es : List Ent) (cs : List Addr), cs.length = es.length → (∀ (j : Nat) (c : Addr) (e : Ent), cs[j]? = some c → es[j]? = some e → SqT X.K H c [.ref e.2.1, e.2.2]) →
    ∃ xs, RE es xs ∧ ∀ (j : Nat) (c : Addr) (x : NestedKey × Addr × Value), cs[j]? = some c → xs[j]? = some x → s.heap.IsTuple c #[.ref x.2.1, x.2.2]
  | [], [], _, _ => ⟨[], .nil, fun j c x h => by simp at h⟩
  | e :: es, c :: cs, hl, f => by
    obtain ⟨xs, re, g⟩ := pairs_n I es cs (Nat.succ.inj hl) fun j b p h1 h2 => f (j + 1) b p (by simpa using h1) (by simpa using h2)
    obtain ⟨its, rv, ht, _⟩ := I.tuple (f 0 c e rfl rfl)
    obtain ⟨u1, u2, rfl, e1, e2⟩ := vals2 rv
    cases e1
    refine ⟨(e.1, e.2.1, u2) :: xs, .cons ⟨rfl, rfl, e2⟩ re, fun j b x h1 h2 => ?_⟩
    cases j with
    | zero => cases h1; cases h2; exact ht
    | succ j => exact g j b x (by simpa using h1) (by simpa using h2)
theorem refs_of : ∀ {cs : List Addr} {us : List Value}, Vals (cs.map V.ref) us → us = cs.map Value.ref
  | [], _, r => by cases r; rfl
  | c :: cs, _, r => by
    rw [List.map_cons] at r
    cases r with
    | cons h t => cases h; rw [List.map_cons, ← refs_of t]
theorem call_dictPN {K : PySem.W.Frag} {w : World} (hc : X.calm = true) (hu : X.A.units + 16 < cLine) (hK : X.K = K) (hW : X.w = w) : CallR X (.type "dict") (rDictPN K w) := by
  subst hK hW
  intro pins s σ H vs us Q I r h
  obtain ⟨t, cs, es, rfl, ⟨o, hod, ht⟩, hl, hl2, hp, hk, hn, q⟩ := h
  obtain ⟨u, rfl, rx⟩ := vals1 r
  cases rx
  obtain ⟨ho, hz, its, rv, o2, ho2, hcl, n, hdat⟩ := (show ObjOk X.prog X.w H s.heap t (.frz o (.tup (cs.map V.ref))) from I.hok t _ ht)
  rw [ho] at ho2
  obtain rfl : o = o2 := Option.some.inj ho2
  have ei := refs_of rv
  subst ei
  obtain ⟨xs, re, g⟩ := pairs_n I es cs hl hp
  have lx : xs.length = es.length := (Paired.length re).symm
  have nd : (xs.map (·.1)).Nodup := by rw [← re_nodup re]; exact hn
  have hi : ∀ x ∈ xs, (nestedKind X.prog X.w).is s.heap x.1 x.2.1 := re_keys re (P := fun k b => (nestedKind X.prog X.w).is s.heap k b) fun p hp => key_is I (hk p hp)
  have lps : (xs.map fun x => (Value.ref x.2.1, x.2.2)).length = xs.length := by rw [List.length_map]
  have c1 : X.A.units + 16 < cLine := hu
  refine call_dict_pairsH (knd := nestedKind X.prog X.w) (ps := xs) (PairArg.tuple t (cs.map Value.ref).toArray (fun j => cs.getD j 0) (xs.map fun x => (Value.ref x.2.1, x.2.2))) (I.ok.hd hc) (by show X.A.in1.in1.units + 8 < cLine; simp only [Around.in1_units]; omega)
    ⟨⟨o, n, ho, hcl, hod, hdat⟩, ⟨by simp; omega, fun j k v hj => ?_⟩⟩ ⟨lps.symm, fun i key v hi => ?_⟩ (fun h' kp x hx => ?_) (by rw [lps, lx, sizeLine_eq]; omega) fun h' tk dd kp => ?_
  · rw [List.getElem?_map] at hj
    cases e : xs[j]? with
    | none => rw [e] at hj; cases hj
    | some x =>
      rw [e] at hj
      cases hj
      have hj2 : j < cs.length := by
        have := (List.getElem?_eq_some_iff.mp e).1
        omega
      have gc : cs[j]? = some cs[j] := List.getElem?_eq_getElem hj2
      have gd : cs.getD j 0 = cs[j] := by rw [List.getD_eq_getElem?_getD, gc]; rfl
      refine ⟨by simp [hj2], .inl ?_⟩
      show s.heap.IsTuple (cs.getD j 0) _
      rw [gd]
      exact g j _ x gc e
  · have hi' : (xs.map fun x => (Value.ref x.2.1, x.2.2))[i]? = some (key, v) := hi
    rw [List.getElem?_map] at hi'
    cases e : xs[i]? with
    | none => rw [e] at hi'; cases hi'
    | some x =>
      rw [e] at hi'
      cases hi'
      exact ⟨x.1, x.2.1, rfl, rfl⟩
  · exact ⟨NestedIs.at (fun a ob vs m hb _ => kp a ob (Nat.ne_of_lt (Heap.lt_size hb)) (by simp) hb) _ _ (hi x hx).1, (hi x hx).2⟩
  · have k2 : ∀ b ob, s.heap.get? b = some ob → h'.get? b = some ob := fun b ob e => kp b ob (by simp) e
    rw [storedAllH_nil_of_nodup xs nd] at dd
    obtain ⟨od, arr, ep, b1, b2, b3, b4, _, b5⟩ := dd
    have hm : (s.heap.objs.size == sysModules) = false := beq_eq_false_iff_ne.mpr (Nat.ne_of_gt I.big)
    exact ⟨.ref s.heap.objs.size, _, I.laid (t' := tk) k2 (Nat.le_refl _) (dN_ok ⟨by rw [sizeLine_eq]; omega, hm, xs, re, nd, od, arr, ep, b1, b2, b3, b4⟩), rfl, q _ (I.hok.fresh (Nat.le_refl _))⟩
end
end RN

/-! [d, l] != [d2, l2], a dict and a list within -/
namespace RN
open PySem PySem.Spec PyProof.Rows L2 SeqAt
theorem kv_same {kvs : List (Key × V)} : ∀ {xs ys : List (Key × Value)}, (∀ p ∈ kvs, ∃ a, p.2 = V.ref a) → KV kvs xs → KV kvs ys → xs = ys := by
  intro xs ys h r t
  induction r generalizing ys with
  | nil => cases t; rfl
  | @cons p q ps qs e r ih =>
    cases t with
    | @cons _ q2 _ qs2 e2 t =>
      obtain ⟨a, ha⟩ := h p List.mem_cons_self
      have z1 := e.2
      have z2 := e2.2
      rw [ha] at z1 z2
      have : q = q2 := Prod.ext (e.1.symm.trans e2.1) ((show q.2 = Value.ref a from z1).trans (show q2.2 = Value.ref a from z2).symm)
      rw [this, ih (fun p hp => h p (List.mem_cons_of_mem _ hp)) t]
theorem hits_self {A : Around} {s : Shared} {kb : List (Key × Value)} : ∀ (l : List (Key × Value)), (∀ p ∈ l, valueAt kb p.1 = some p.2) → PySem.W.KeqHits A s kb l true
  | [], _ => .nil
  | (k, v) :: r, h => by
    have := PySem.W.KeqHits.hit (A := A) (s := s) (h (k, v) List.mem_cons_self) (EqAt.same v) (hits_self r fun p hp => h p (List.mem_cons_of_mem _ hp))
    exact this
theorem pairs_to {P P' : Program} {w w' : World} : ∀ {es : List DictEntry} {xs : List (Key × Value)}, Pairs (mixKind P w) es xs → Pairs (mixKind P' w') es xs
  | _, _, .nil => .nil
  | _, _, .cons h e t => .cons h e (pairs_to t)
theorem pairs_mem {P : Program} {w : World} : ∀ {es : List DictEntry} {xs : List (Key × Value)}, Pairs (mixKind P w) es xs → ∀ e ∈ es, ∃ p ∈ xs, (mixKind P w).is p.1 e.key = true
  | _, _, .nil, _, h => nomatch h
  | _, _, .cons (kv := kv) h e t, x, hx => by
    rcases List.mem_cons.mp hx with rfl | hx
    · exact ⟨kv, List.mem_cons_self, h⟩
    · obtain ⟨p, hp, q⟩ := pairs_mem t x hx
      exact ⟨p, List.mem_cons_of_mem _ hp, q⟩
/-- a dict with int keys alone is one whatever the world -/
theorem dict_any {P P' : Program} {w w' : World} {h : Heap} {d : Addr} {xs : List (Key × Value)} (hi : ∀ p ∈ xs, ∃ n, p.1 = Sum.inl n) (x : h.DictOf (mixKind P w) d xs) : h.DictOf (mixKind P' w') d xs := by
  obtain ⟨o, es, ep, a1, a2, a3, a4, a5, a6⟩ := x
  refine ⟨o, es, ep, a1, a2, a3, fun e he => ?_, pairs_to a5, a6⟩
  obtain ⟨k, k1, k2⟩ := a4 e he
  obtain ⟨p, hp, p1⟩ := pairs_mem a5 e (by simpa using he)
  obtain ⟨n, hn⟩ := hi p hp
  have := (mixKind P w).inj _ _ _ k1 p1
  rw [hn] at this
  subst this
  exact ⟨.inl n, k1, k2⟩
section
variable {X : Cx}
def rNeDL (K : PySem.W.Frag) : R2 := fun x y H Q => ∃ (l m d e a b : Addr) (kvs : List (Key × V)) (u : PyData), x = .ref l ∧ y = .ref m ∧ SqL K H l [.ref d, .ref a] ∧ SqL K H m [.ref e, .ref b] ∧ H d = some (.dK kvs) ∧ H e = some (.dK kvs) ∧ (∀ p ∈ kvs, (∃ n, p.1 = Sum.inl n) ∧ ∃ c, p.2 = .ref c) ∧
  Dp K H (.ref a) u ∧ Dp K H (.ref b) u ∧ SeqAt.shaped u = true ∧ PyData.eqv u u = true ∧ Q (.bl false) H
theorem op_neDL (hu : X.A.units + 80 < cLine) : OpR X (compareOp .NotEq) (rNeDL X.K) := by
  intro pins s σ H x y v w Q I rx ry h
  obtain ⟨l, m, d, e, a, b, kvs, u, rfl, rfl, hl, hm, hd, he, hr, ha, hb, hs, huu, q⟩ := h
  cases rx
  cases ry
  obtain ⟨i1, r1, p1, _⟩ := I.list hl
  obtain ⟨i2, r2, p2, _⟩ := I.list hm
  obtain ⟨u1, u2, rfl, e1, e2⟩ := vals2 r1
  obtain ⟨u3, u4, rfl, e3, e4⟩ := vals2 r2
  cases e1; cases e2; cases e3; cases e4
  obtain ⟨zd, lod, xs, kx, dx⟩ := dk_of I.hok hd
  obtain ⟨ze, loe, ys, ky, dy⟩ := dk_of I.hok he
  obtain rfl := kv_same (fun p hp => (hr p hp).2) kx ky
  have nd : (xs.map (·.1)).Nodup := let ⟨_, _, _, _, _, _, _, _, z⟩ := dx; z
  have hi : ∀ p ∈ xs, ∃ n, p.1 = Sum.inl n := fun p hp => by
    obtain ⟨j, hj⟩ := List.mem_iff_getElem?.mp hp
    have e1 : (kvs.map (·.1))[j]? = some p.1 := by rw [KV.keys kx, List.getElem?_map, hj]; rfl
    rw [List.getElem?_map] at e1
    cases e2 : kvs[j]? with
    | none => rw [e2] at e1; cases e1
    | some z =>
      rw [e2] at e1
      obtain ⟨n, hn⟩ := (hr z (List.mem_of_getElem? e2)).1
      exact ⟨n, (Option.some.inj e1).symm.trans hn⟩
  have c1 : X.A.units + 80 < cLine := hu
  have eqD : EqAt X.A.in1 s (.ref d) (.ref e) true := by
    by_cases c : d = e
    · subst c
      exact EqAt.same _
    · refine EqAt.of_refs c fun P' w' E' Q' h' => ?_
      refine PySem.W.keq_eq (knd := mixKind P' w') (r := true) lod loe (dict_any hi dx) (dict_any hi dy) (by simp only [Around.in1_units]; omega) (fun _ => hits_self xs fun p hp => valueAt_of_mem nd hp) ?_
      simpa using h'
  obtain ⟨as, ra⟩ := Dp.reads I u _ (.ref a) ha rfl
  obtain ⟨bs, rb⟩ := Dp.reads I u _ (.ref b) hb rfl
  have eqL : EqAt X.A.in1 s (.ref a) (.ref b) true := by
    have := PySem.W.keq_at (A := X.A) ra rb hs hs (by simp only [Around.in1_units]; omega)
    rw [huu] at this
    exact this
  have key := RcNeAt.lists (A := X.A) (e := fun _ => true) p1.isList p2.isList rfl (by omega) (fun j h1 h2 => by
    match j, h1, h2 with
    | 0, _, _ => exact eqD
    | 1, _, _ => exact eqL
    | j + 2, h1, _ => exact absurd (show j + 2 < 2 from h1) (by omega))
  exact key X.prog X.w _ _ ⟨.bl false, H, I, rfl, q⟩
end
end RN

/-! o[k] by the class's own __getitem__, as an expression -/
namespace R1
open PySem PySem.Spec PyProof.Rows L2
section
variable {X : Cx} {CX : CXT} {n : Nat} {C g : Addr} {sp : Sp} {E : XK} {o i : Expr} {to ti : TE} {pos : Pos}
def tIxO (C : Addr) (sp : Sp) (E : XK) (to ti : TE) : TE := fun σ H Q => to σ H fun x H1 => ti σ H1 fun y H2 => rIxO C sp E x y H2 Q
theorem pe_ixO (ho : PE X o to) (hi : PE X i ti) (hs : PySem.W.findIn X.K (.ref C) "__getitem__" = some (some (.ref g))) (hf : PySem.W.fnIn X.K g = true) (hfn : PySem.W.isFn X.K (.ref g) = true) (F : FnR X.prog X.w X.K X.mg X.base CX n g sp) (hr : Room (n + 1) X.A) (hx : Passes CX X E)
    (hsl : ∀ (x : Addr) (v : Value), subscripted i true (.ref x) v = runValue (.builtin "lifetime.subscript" ⟨[.ref x, v], []⟩)) : PE X (.Subscript o i pos) (tIxO C sp E to ti) := by
  refine ⟨fun pins s σ H Q I h => Subscript_ (thn (ho.run pins s σ H _ I h) fun u s1 ⟨x, H1, I1, rx, q1⟩ => thn (hi.run pins s1 σ H1 _ I1 q1) fun iv s2 ⟨y, H2, I2, ry, a, dx, fs, ex, ha, q⟩ => ?_)⟩
  subst ex
  cases rx
  obtain ⟨mA, J, _⟩ := ins_get I2.hok ha
  obtain ⟨od, J, _⟩ := J.look
  obtain ⟨m, hF⟩ := I2.fr
  exact PySem.W.sub_K hF I2.ok.mod.kin J hs hf hfn (wpAny_call (run_fnR1 (us := [.ref a, iv]) (vs := [.ref a, y]) F hr hx I2 (.cons rfl (.cons ry .nil)) q)) (hsl a iv)
end
end R1

/-! d.items() of a dict with nested keys, as an expression -/
namespace RN
open PySem PySem.Spec PyProof.Rows L2
section
variable {X : Cx} {o : Expr} {to : TE} {apos cpos : Pos}
def tItN (w : World) (to : TE) : TE := fun σ H Q => to σ H fun x H1 => rItemsN w x [] H1 Q
theorem pe_itemsN {w : World} (hW : X.w = w) (ho : PE X o to) (hb : attributeBase o "items" X.env (eval o X.env) = eval o X.env := by rfl) (hl : (apos.endLine == cpos.line) = true := by rfl) : PE X (.Call (.Attribute o "items" apos) [] [] cpos) (tItN w to) := by
  refine ⟨fun pins s σ H Q I h => wpAny_Call_method0_late hb hl (thn (ho.run pins s σ H _ I h) fun v s1 ⟨x, H1, I1, r1, q1⟩ => ?_)⟩
  have q2 := q1
  obtain ⟨d, es, rfl, _, hd, _⟩ := q2
  cases r1
  subst hW
  obtain ⟨_, _, _, _, _, _, ⟨ob, b1, b2, _⟩, _⟩ := raw_n I1 hd
  have there : ∀ c, Value.ref d = .ref c → ∃ u, s1.heap.get? c = some u ∧ u.dict = none := fun c e => by
    cases e
    exact ⟨ob, b1, b2.2.1⟩
  exact ⟨"dict", "dict.items", PySem.F.plainAttrs_dict, PySem.F.slot_dict_items, PySem.F.type_dict_items, ⟨ob, b1, b2.1⟩, there, Calls.callWith_builtin rfl (PySem.evalArgs_none (mt_itemsN rfl pins s1 σ H1 (.ref d) [] (.ref d) [] Q I1 rfl .nil q1))⟩
end
end RN

/-! within a try: o[k] by the class's own __getitem__; a call with keywords -/
namespace R1
open PySem PySem.Spec PyProof.Rows L2
section
variable {X : Cx} {CX : CXT} {n : Nat} {C g : Addr} {sp : Sp} {E : L2.St → XK} {o i : Expr} {to ti : TE} {pos : Pos}
def tIxOS (C : Addr) (sp : Sp) (E : L2.St → XK) (to ti : TE) : TE := fun σ H Q => to σ H fun x H1 => ti σ H1 fun y H2 => rIxO C sp (E σ) x y H2 Q
theorem run_fnR1S {pins : List (Addr × Obj)} {σ : L2.St} {H : Hp} {s : Shared} {Q : VK} {us : List Value} {vs : List V} (F : FnR X.prog X.w X.K X.mg X.base CX n g sp) (hr : Room (n + 1) X.A) (hx : PassesAt CX X σ (E σ)) (I : Inv X pins σ H s) (r : Vals vs us) (h : sp vs H Q (E σ)) :
    codeAny (model X.prog X.w) X.A.in1 (.call (.ref g) ⟨us, []⟩) (fun r s' => match r with | .ok (.ret v) => EP X pins σ Q v s' | .ok _ => False | .error e => X.xe e s') s := by
  refine codeAny_mono (F X.A.in1 X.stack s H us vs Q (E σ) hr.in1 I.env0.in1 r h) fun r s' hq => ?_
  cases r with
  | error e => exact hx pins H s e s' I hq
  | ok fl =>
    cases fl with
    | ret u => exact I.after hq
    | next => exact False.elim hq
    | brk => exact False.elim hq
    | cont => exact False.elim hq
theorem pe_ixOS (ho : PE X o to) (hi : PE X i ti) (hs : PySem.W.findIn X.K (.ref C) "__getitem__" = some (some (.ref g))) (hf : PySem.W.fnIn X.K g = true) (hfn : PySem.W.isFn X.K (.ref g) = true) (F : FnR X.prog X.w X.K X.mg X.base CX n g sp) (hr : Room (n + 1) X.A) (hx : ∀ σ, PassesAt CX X σ (E σ))
    (hsl : ∀ (x : Addr) (v : Value), subscripted i true (.ref x) v = runValue (.builtin "lifetime.subscript" ⟨[.ref x, v], []⟩)) : PE X (.Subscript o i pos) (tIxOS C sp E to ti) := by
  refine ⟨fun pins s σ H Q I h => Subscript_ (thn (ho.run pins s σ H _ I h) fun u s1 ⟨x, H1, I1, rx, q1⟩ => thn (hi.run pins s1 σ H1 _ I1 q1) fun iv s2 ⟨y, H2, I2, ry, a, dx, fs, ex, ha, q⟩ => ?_)⟩
  subst ex
  cases rx
  obtain ⟨mA, J, _⟩ := ins_get I2.hok ha
  obtain ⟨od, J, _⟩ := J.look
  obtain ⟨m, hF⟩ := I2.fr
  exact PySem.W.sub_K hF I2.ok.mod.kin J hs hf hfn (wpAny_call (run_fnR1S (us := [.ref a, iv]) (vs := [.ref a, y]) F hr (hx σ) I2 (.cons rfl (.cons ry .nil)) q)) (hsl a iv)
end
def tCallNS (n m : Nat) (sp : Sp) (gV : List V → List V → List V) (E : L2.St → XK) (t tk : TA) : TE := fun σ H Q => t σ H fun vs H1 => tk σ H1 fun zs H2 => vs.length = n ∧ zs.length = m ∧ sp (gV vs zs) H2 Q (E σ)
section
variable {X : Cx} {CX : CXT} {k n : Nat} {f : Addr} {fd : FuncData} {ps ks : List Str} {sp : Sp} {E : L2.St → XK} {x : Str} {p pos : Pos} {e : Expr} {es : List Expr} {kws : List Keyword} {t tk : TA} {g : List Value → List Value → List Value} {gV : List V → List V → List V}
theorem pe_callNS (F : FnOk X.prog X.w X.K X.mg X.base CX k f fd ps sp) (hr : Room k X.A) (hg : Gl X x) (hm : X.mg x = some (.ref f)) (hk : PySem.W.keepIn X.K (.ref f) = true) (hb : KBn X.K fd ps n ks g gV) (hx : ∀ σ, PassesAt CX X σ (E σ))
    (ha : PA X (e :: es) t) (hkw : PK X kws tk) (hall : (backToKw pos (keywordEach kws X.env)).all (·.1.isSome) = true := by rfl) (hks : (backToKw pos (keywordEach kws X.env)).filterMap (·.1) = ks := by rfl)
    (hdb : (x == ("__debug__" : Str)) = false := by decide) (he : starEach (e :: es) X.env = (false, eval e X.env) :: starEach es X.env := by rfl)
    (hpl : ((backTo pos (starEach (e :: es) X.env)).any (·.1) || (backToKw pos (keywordEach kws X.env)).any (·.1.isNone)) = false := by rfl) :
    PE X (.Call (.Name x p) (e :: es) kws pos) (tCallNS n ks.length sp gV E t tk) := by
  refine ⟨fun pins s σ H Q I h => wpAny_Call_Name_kw (ld_glob I hg hm ?_ hdb)⟩
  refine PySem.W.callWith_KW (h₀ := X.base) I.ok.mod.kin hk hall (thn (ha.run pos pins s σ H _ I h) fun us s1 ⟨vs, H1, I1, r, q⟩ => ?_) hpl he
  refine thn (hkw.run pos pins s1 σ H1 _ I1 q) fun ws s2 ⟨zs, H2, I2, rz, l1, l2, q2⟩ => ⟨I2.kIn, ?_⟩
  rw [hks]
  have rr := hb.rel r rz
  refine wpAny_call (codeAny_mono (F.run X.A X.stack s2 H2 ⟨us, ks.zip ws⟩ (g us ws) (gV vs zs) Q (E σ) hr I2.env0 (hb.to s2 us ws I2.kIn (r.length.symm.trans l1) (rz.length.symm.trans l2)) rr q2) fun rs s' hq => ?_)
  cases rs with
  | error er => exact hx σ pins H2 s2 er s' I2 hq
  | ok fl =>
    cases fl with
    | ret u => exact I2.after hq
    | next => exact False.elim hq
    | brk => exact False.elim hq
    | cont => exact False.elim hq
end
end R1

/-! for x in d.values(), d with nested keys, locked -/
namespace RN
open PySem PySem.Spec PyProof.Rows L2
section
variable {X : Cx} {pins : List (Addr × Obj)} {σ : L2.St} {H : Hp} {s : Shared} {d : Addr} {o : Obj} {es : List Ent} {P : Program} {w : World} {K : PySem.W.Frag} {tg e : Expr} {td : TE} {apos cpos : Pos}
def ItdN (w : World) (d : Addr) (o : Obj) (es : List Ent) : It :=
  ⟨fun i H => H d = some (.frz o (dN w d es)) ∧ i < es.length, fun i H x H' => H' = H ∧ ∃ p, es[i]? = some p ∧ x = p.2.2, fun i H => H d = some (.frz o (dN w d es)) ∧ es.length ≤ i⟩
theorem frz_n (I : Inv X pins σ H s) (h : H d = some (.frz o (dN X.w d es))) : (d == sysModules) = false ∧ s.heap.get? d = some o ∧ o.ExactDict ∧ ∃ xs arr ep, RE es xs ∧ o.data = .dict arr ep ∧ s.heap.DictRaw d arr ep ∧ arr.toList = xs.map fun x => (⟨x.1.hash X.w, .ref x.2.1, x.2.2⟩ : DictEntry) := by
  obtain ⟨hd, ⟨⟨a1, a2, xs, a3, a4, o', arr, ep, b1, b2, b3, b4⟩, _, _⟩⟩ := I.hok d _ h
  rw [hd] at b1
  cases b1
  exact ⟨a2, hd, b2, xs, arr, ep, a3, b3, ⟨o, hd, b2, b3⟩, b4⟩
theorem arr_at {es : List Ent} {xs : List (NestedKey × Addr × Value)} {arr : Array DictEntry} (re : RE es xs) (ha : arr.toList = xs.map fun x => (⟨x.1.hash w, .ref x.2.1, x.2.2⟩ : DictEntry)) : arr.size = es.length ∧ ∀ (i : Nat) (p : Ent) (hi : i < arr.size), es[i]? = some p → RelV p.2.2 arr[i].val := by
  have l1 : xs.length = es.length := (Paired.length re).symm
  have l2 : arr.size = es.length := by rw [← Array.length_toList, ha, List.length_map, l1]
  refine ⟨l2, fun i p hi hp => ?_⟩
  obtain ⟨q, hq, _, _, r⟩ := re_at re i p hp
  have z : arr.toList[i]? = some arr[i] := by rw [Array.getElem?_toList]; exact Array.getElem?_eq_getElem hi
  rw [ha, List.getElem?_map, hq] at z
  have := Option.some.inj z
  rw [← this]
  exact r
theorem turn_valsN {arr : Array DictEntry} {ep : Nat} (it : Addr) (hod : o.data = .dict arr ep) : Turn P w K tg (ItdN w d o es) [it] it (fun i h => h.IsValIter it d i es.length ep) where
  mem := by simp
  obj := fun i h st b hb => by
    have e : b = it := by simpa using hb
    subst e
    obtain ⟨oi, e, c, dd⟩ := st
    exact ⟨oi, e, fun v z => by rw [dd] at z; cases z⟩
  keep := fun i h h' st k => st.at fun oi e => k it (by simp) oi e
  item := by
    intro X hP hw hK hc i pins s σ H E I hf st hg
    subst hP hw hK
    obtain ⟨hd, hi⟩ := hg
    obtain ⟨f0, f1, f2, f3, f4, f5⟩ := hf it (by simp)
    obtain ⟨_, _, _, xs, arr', ep', re, hdt, raw, ha⟩ := frz_n I hd
    rw [hod] at hdt
    cases hdt
    obtain ⟨l2, av⟩ := arr_at re ha
    have gp : es[i]? = some es[i] := List.getElem?_eq_getElem hi
    have hi2 : i < arr.size := by omega
    rw [← l2] at st
    refine PySem.wpAny_pyNext_values_item_raw st raw hi2 fun h' st' sb => ?_
    have I1 : Inv X pins σ H { s with heap := h' } := I.turned (t' := s.toks) (fun b ob hb e => (sb.2 b hb).trans e) f0 f1 f3 f4 f5
    obtain ⟨oi, e, c, dd⟩ := id st'
    refine ⟨arr[i].val, rfl, go_of (s := { s with heap := h' }) e c dd (by decide) ⟨es[i].2.2, H, I1, av i _ hi2 gp, ⟨rfl, es[i], gp, rfl⟩, ?_, fun b hb => (hf b hb).1⟩⟩
    show h'.IsValIter it d (i + 1) es.length _
    rw [← l2]
    exact st'
  done := by
    intro X hP hw hK hc i pins s σ H E I hf st hg
    subst hP hw hK
    obtain ⟨hd, hi⟩ := hg
    obtain ⟨f0, f1, f2, f3, f4, f5⟩ := hf it (by simp)
    obtain ⟨_, _, _, xs, arr', ep', re, hdt, raw, ha⟩ := frz_n I hd
    rw [hod] at hdt
    cases hdt
    obtain ⟨l2, _⟩ := arr_at re ha
    rw [← l2] at st
    exact PySem.wpAny_pyNext_values_end_raw (I.ok.hd hc) st raw (by omega) fun h' eb => ⟨rfl, I.turned (t' := s.toks) (fun b ob hb e => eb b ob hb e) f0 f1 f3 f4 f5⟩
  self := fun A i s Q E st h => wpAny_pyIter_valiter st h
/-- the dict is locked (tLock, or by the caller) -/
def iValsN (w : World) (td : TE) : TI := fun σ H R => td σ H fun x H1 => ∃ d o es, x = .ref d ∧ H1 d = some (.frz o (dN w d es)) ∧ R (ItdN w d o es) H1
theorem pi_valuesN (hW : X.w = w) (he : PE X e td) (hbase : attributeBase e "values" X.env (eval e X.env) = eval e X.env := by rfl) (hline : (apos.endLine == cpos.line) = true := by rfl) : PI X tg (.Call (.Attribute e "values" apos) [] [] cpos) (iValsN w td) := by
  subst hW
  refine ⟨fun pins s σ H R I h => ?_⟩
  refine wpAny_Call_method (T := "dict") (id := "dict.values") hbase rfl hline PySem.F.plainAttrs_dict PySem.F.slot_dict_values PySem.F.type_dict_values (thn (he.run pins s σ H _ I h) fun u s1 ⟨x, H1, I1, rx, d, o, es, ex, hd, q⟩ => ?_)
  subst ex
  obtain rfl : u = Value.ref d := rx
  obtain ⟨hs, hgd, hx, xs, arr, ep, re, hdt, raw, ha⟩ := frz_n I1 hd
  obtain ⟨l2, _⟩ := arr_at re ha
  have ty : s1.TypeIs (.ref d) "dict" := ⟨o, hgd, hx.1⟩
  refine ⟨ty, fun c e => ?_, ?_⟩
  · cases e
    exact ⟨o, hgd, hx.2.1⟩
  have I2 : Inv X pins σ H1 { s1 with heap := s1.heap.push { cls := .type "dict_values", data := .fields #[.ref d] } } := I1.kept (t' := s1.toks) fun b ob q => Heap.get?_push_of_some _ q
  have raw2 : (s1.heap.push { cls := .type "dict_values", data := .fields #[.ref d] }).DictRaw d arr ep := by
    obtain ⟨o1, h1, h2, h3⟩ := raw
    exact ⟨o1, Heap.get?_push_of_some _ h1, h2, h3⟩
  have fin : wpAny (model X.prog X.w) X.A (pyIter (.ref s1.heap.objs.size)) (PIE X pins σ tg R) X.xe { s1 with heap := s1.heap.push { cls := .type "dict_values", data := .fields #[.ref d] } } := by
    refine PySem.wpAny_pyIter_values_raw (d := d) ⟨_, Heap.get?_push_size _ rfl, rfl, rfl⟩ raw2 (pi_one (tk := s1.toks) I2 _ (turn_valsN _ hdt) ⟨_, Heap.get?_push_size _ rfl, rfl, ?_⟩ q)
    rw [l2] <;> rfl
  show wpAny _ _ (callWith cpos (.builtin "dict.values") [.ref d] [] []) _ X.xe s1
  exact method_meetsIn PySem.F.slot_dict_values PySem.F.entry_dict_values rfl (PySem.evalArgs_none ⟨rfl, ty, PySem.F.args_dict_values_1 _, _, PySem.meets_dict_values_raw d hs, ⟨⟨arr, ep, raw⟩, fin⟩⟩)
end
end RN

/-! min with default -/
namespace R0
open PySem PySem.Spec PyProof.Rows L2
section
variable {X : Cx}
/-! ### min(t, default=d), t a tuple or a list of ints -/
def minL (d : Int) : List Int → Int
  | [] => d
  | x :: r => r.foldl (fun a y => if y < a then y else a) x
theorem minOf_int (x : Int) (r : List Int) : PySem.W.minOf x r = minL 0 (x :: r) := by
  unfold PySem.W.minOf minL
  congr 1
  funext a y
  by_cases h : y < a
  · rw [if_pos h, if_pos (show PySem.W.DatumOrd.lt y a = true from decide_eq_true h)]
  · rw [if_neg h, if_neg (fun z : PySem.W.DatumOrd.lt y a = true => h (of_decide_eq_true z))]
def rMinD (K : PySem.W.Frag) : List V → List V → Hp → VK → Prop := fun vs zs H Q => ∃ (a : Addr) (ns : List Int) (d : Int), vs = [.ref a] ∧ zs = [.int d] ∧ (SqT K H a (ns.map V.int) ∨ SqL K H a (ns.map V.int)) ∧ Q (.int (minL d ns)) H
theorem ck_minD (hc : X.calm = true) (hu : X.A.units + 64 < cLine) : CallRK X (.builtin "min") ["default"] (rMinD X.K) := by
  intro pins s σ H xs zs us ws Q I r rz h
  obtain ⟨a, ns, d, rfl, rfl, hs, q⟩ := h
  obtain ⟨u, rfl, ru⟩ := vals1 r
  obtain rfl : u = Value.ref a := ru
  obtain ⟨w1, rfl, rw1⟩ := vals1 rz
  have fin : ∀ (i : Nat) (v : Value) (h' : Heap) (tk : Nat) (y : Int) (ys : List Int), ns = y :: ys → PySem.W.Holds h' v (PySem.W.minOf y ys) → (∀ b o, s.heap.get? b = some o → h'.get? b = some o) → EP X pins σ Q v { s with heap := h', toks := tk } := fun i v h' tk y ys e hv k => by
    obtain ⟨as, hv⟩ := hv
    subst e
    have hv' : Reads h' v (.int (PySem.W.minOf y ys)) as := hv
    cases hv'
    refine ⟨.int (PySem.W.minOf y ys), H, I.kept k, ⟨_, rfl⟩, ?_⟩
    rw [minOf_int]
    exact q
  have fin0 : ns = [] → ∀ (h' : Heap) (tk : Nat), (∀ b o, s.heap.get? b = some o → h'.get? b = some o) → EP X pins σ Q w1 { s with heap := h', toks := tk } := fun e h' tk k => by
    subst e
    exact ⟨.int d, H, I.kept k, rw1, q⟩
  rcases hs with hs | hs
  · obtain ⟨its, rv, ht, hz⟩ := I.tuple hs
    refine PySem.W.min_tuple_datum_default (xs := ns) (vs := its.toArray) (I.ok.hd hc) ht ?_ ?_ fin0 fun y ys i v h' tk e _ hv k => fin i v h' tk y ys e hv k
    · simpa using hold_ints (h := s.heap) rv
    · show X.A.units + 1 + 0 < cLine
      omega
  · obtain ⟨its, rv, pl, hz⟩ := I.list hs
    refine PySem.W.min_list_datum_default (xs := ns) (vs := its.toArray) (I.ok.hd hc) pl.isList ?_ ?_ fin0 fun y ys i v h' tk e _ hv k => fin i v h' tk y ys e hv k
    · simpa using hold_ints (h := s.heap) rv
    · show X.A.units + 1 + 0 < cLine
      omega
end
end R0

/-! {} that is to have nested keys -/
namespace RN
open PySem PySem.Spec PyProof.Rows L2
section
variable {X : Cx} {pos : Pos}
def tDNewN (w : World) : TE := fun _ H Q => ∀ p, H p = none → Q (.ref p) (upd H p (dN w p []))
theorem pe_dnewN {w : World} (hW : X.w = w) : PE X (.Dict [] [] pos) (tDNewN w) := by
  subst hW
  exact ⟨fun pins s σ H Q I h => wpAny_Dict_empty ⟨.ref s.heap.objs.size, _, I.laid (a := s.heap.objs.size) (o := dN X.w s.heap.objs.size []) (t' := s.toks) (fun _ _ q => Heap.get?_push_of_some _ q) (Nat.le_refl _) (dN_empty s.heap I.big), rfl, h _ (I.hok.fresh (Nat.le_refl _))⟩⟩
end
end RN

/-! x in t, x not in t, t a tuple of data of any depth -/
namespace R1
open PySem PySem.Spec PyProof.Rows L2
section
variable {X : Cx}
def rInDT (K : PySem.W.Frag) (neg : Bool) : R2 := fun x y H Q => ∃ d ds, Dp K H x d ∧ Dp K H y (.tuple ds) ∧ SeqAt.shaped d = true ∧ SeqAt.shaped (.tuple ds) = true ∧ Q (.bl (if neg then !ds.any fun z => PyData.eqv z d else ds.any fun z => PyData.eqv z d)) H
theorem op_inDT {K : PySem.W.Frag} (hu : X.A.units + 65 < cLine) (hK : X.K = K) : OpR X (compareOp .In) (rInDT K false) := by
  subst hK
  intro pins s σ H x y v u Q I rx ry h
  obtain ⟨d, ds, hd, he, sd, se, q⟩ := h
  obtain ⟨as, r1⟩ := Dp.reads I d x v hd rx
  obtain ⟨bs, r2⟩ := Dp.reads I (.tuple ds) y u he ry
  exact SeqAt.in_tuple_reads r2 r1 (SeqAt.canLay_of_shaped se) (SeqAt.canLay_of_shaped sd) (room_in_shaped sd hu) ⟨.bl _, H, I, rfl, q⟩
theorem op_notInDT {K : PySem.W.Frag} (hu : X.A.units + 65 < cLine) (hK : X.K = K) : OpR X (compareOp .NotIn) (rInDT K true) := by
  subst hK
  intro pins s σ H x y v u Q I rx ry h
  obtain ⟨d, ds, hd, he, sd, se, q⟩ := h
  obtain ⟨as, r1⟩ := Dp.reads I d x v hd rx
  obtain ⟨bs, r2⟩ := Dp.reads I (.tuple ds) y u he ry
  exact SeqAt.notIn_tuple_reads r2 r1 (SeqAt.canLay_of_shaped se) (SeqAt.canLay_of_shaped sd) (room_in_shaped sd hu) ⟨.bl _, H, I, rfl, q⟩
end
end R1

/-! C.m(..), m a staticmethod, within a try -/
namespace R1
open PySem PySem.Spec PyProof.Rows L2 ClX
section
variable {X : Cx} {CX : CXT} {k : Nat} {C p g : Addr} {mc : Value} {sp : Sp} {E : L2.St → XK} {o e : Expr} {es : List Expr} {m : Str} {pos apos : Pos} {ta : TE} {t : TA} {pl : Sem Bool}
def tSMethS (C : Addr) (sp : Sp) (E : L2.St → XK) (ta : TE) (t : TA) : TE := fun σ H Q => ta σ H fun x H1 => x = .ref C ∧ t σ H1 fun vs H2 => sp vs H2 Q (E σ)
theorem run_fnRS {pins : List (Addr × Obj)} {σ : L2.St} {H : Hp} {s : Shared} {Q : VK} {us : List Value} {vs : List V} (F : FnR X.prog X.w X.K X.mg X.base CX k g sp) (hr : Room k X.A) (hx : PassesAt CX X σ (E σ)) (I : Inv X pins σ H s) (r : Vals vs us) (h : sp vs H Q (E σ)) :
    codeAny (model X.prog X.w) X.A (.call (.ref g) ⟨us, []⟩) (fun r s' => match r with | .ok (.ret v) => EP X pins σ Q v s' | .ok _ => False | .error e => X.xe e s') s := by
  refine codeAny_mono (F X.A X.stack s H us vs Q (E σ) hr I.env0 r h) fun r s' hq => ?_
  cases r with
  | error e => exact hx pins H s e s' I hq
  | ok fl =>
    cases fl with
    | ret u => exact I.after hq
    | next => exact False.elim hq
    | brk => exact False.elim hq
    | cont => exact False.elim hq
theorem pe_smethS (he : PE X o ta) (r : CRead X.K C mc) (c : SMet X.K C mc m p g) (F : FnR X.prog X.w X.K X.mg X.base CX k g sp) (hr : Room k X.A) (hx : ∀ σ, PassesAt CX X σ (E σ)) (ha : PA X (e :: es) t)
    (hst : starEach (e :: es) X.env = (false, eval e X.env) :: starEach es X.env := by rfl) (hpl : (backTo pos (starEach es X.env)).any (·.1) = false := by rfl)
    (ht : eval (.Call (.Attribute o m apos) (e :: es) [] pos) X.env = (do
      let ov ← eval o X.env
      standAt apos.atName
      let (f, first) ← holding [ov] (getMethod ov m pl)
      callWith pos f first (backTo pos (starEach (e :: es) X.env)) (backToKw pos (keywordEach [] X.env))) := by rfl) :
    PE X (.Call (.Attribute o m apos) (e :: es) [] pos) (tSMethS C sp E ta t) := by
  refine ⟨fun pins s σ H Q I h => ?_⟩
  refine PySem.W.methodCall_KW (pl := pl) (thn (he.run pins s σ H _ I h) fun u s1 ⟨x, H1, I1, rx, ex, q⟩ => ?_) ht
  subst ex
  obtain rfl : u = Value.ref C := rx
  refine getmethsm_ok I1 r c fun s2 I2 => ?_
  refine PySem.W.callWith_K (first := []) (h₀ := X.base) I.ok.mod.kin c.kp (thn (ha.run pos pins s2 σ H1 _ I2 q) fun us s3 ⟨vs, H2, I3, rv, q2⟩ => ⟨I3.kIn, ?_⟩) hst hpl
  exact wpAny_call (run_fnRS F hr (hx σ) I3 rv q2)
end
end R1

/-! a + b by the class's own __add__, a != b by its own __eq__ -/
namespace R1
open PySem PySem.Spec PyProof.Rows L2
section
variable {prog : Program} {w : World} {A : Around} {E : Value → Shared → Prop} {s : Shared} {K : PySem.W.Frag} {x y C f : Addr} {ox : Obj} {od : Option Obj}
theorem ne_entry (X : K.In s.heap) (I : PySem.W.InstAt s.heap x ox C od) (hs : PySem.W.findIn K (.ref C) "__eq__" = some (some (.ref f))) (hf : PySem.W.isFn K (.ref f) = true) (hu : A.units < cLine) {Q : Fin → Shared → Prop}
    (hcall : wpAny (model prog w) A (call (.ref f) [.ref x, .ref y]) (fun v s' => ∃ b, v = .bool b ∧ Q (.done (.ret (.bool (!b)))) s') E s) :
    wpAny (model prog w) A (Builtin.«object.__ne__» ⟨[.ref x, .ref y], []⟩) Q E s := by
  unfold Builtin.«object.__ne__»
  repeat (first
    | with_reducible refine wpAny_cRoomFor hu ?_
    | (refine wpAny_bind (m := callSpecialIfBound? (.ref x) (Str.ofString "__eq__") [.ref y])
        (PySem.W.ifBound_K X I hs hf (wpAny_mono hcall (fun r s' hr => by
          obtain ⟨b, rfl, hq⟩ := hr
          repeat (first | exact hq | exact wpAny_pure hq | exact wpAny_truthy_bool hq | (refine wpAny_bind (m := truthy (.bool _)) (wpAny_truthy_bool ?_)) | wp_step)) fun _ _ e => e)))
    | wp_step)
theorem ifBound_objNe {M : Model} {args : List Value} {Q : Option Value → Shared → Prop} (X : K.In s.heap) (I : PySem.W.InstAt s.heap x ox C od) (hs : PySem.W.findIn K (.ref C) "__ne__" = some (some (.builtin "object.__ne__")))
    (h : wpAny M A (call (.builtin "object.__ne__") (.ref x :: args)) (fun v => Q (some v)) E s) : wpAny M A (callSpecialIfBound? (.ref x) "__ne__" args) Q E s := by
  simp only [callSpecialIfBound?, bindSpecialIfBound?]
  refine wpAny_holding (wpAny_bind (wpAny_bind (wpAny_bind (I.type.here ((PySem.W.looks_findIn X hs).here ?_)))))
  refine wpAny_bind (wpAny_askSetting (wpAny_ite ?_))
  have fin : wpAny M A (call (.builtin "object.__ne__") ([.ref x] ++ args) >>= fun v => pure (some v)) Q E s := wpAny_bind (wpAny_mono h (fun v s' h' => wpAny_pure h') fun _ _ h' => h')
  split
  · exact wpAny_bind (wpAny_of_eq (F.cmp_object.ne.bind _) (wpAny_pure (by exact fin)))
  · exact wpAny_tryCatch (wpAny_bind (wpAny_of_eq (F.cmp_object.ne.bind _) (wpAny_pure (by exact fin))))
theorem ne_K {Q : Value → Shared → Prop} (hu : A.units + 1 < cLine) (X : K.In s.heap) (I : PySem.W.InstAt s.heap x ox C od) (hb : PySem.W.Looks (model prog w) s.heap (typeOf (.ref y)) (.ref C)) (hm : PySem.W.mroIn K C (.type "object") = some true)
    (hn : PySem.W.findIn K (.ref C) "__ne__" = some (some (.builtin "object.__ne__"))) (hs : PySem.W.findIn K (.ref C) "__eq__" = some (some (.ref f))) (hf : PySem.W.isFn K (.ref f) = true)
    (h : wpAny (model prog w) A.in1 (call (.ref f) [.ref x, .ref y]) (fun v s' => ∃ b, v = .bool b ∧ Q (.bool (!b)) s') E s) : wpAny (model prog w) A (richCompare .NotEq (.ref x) (.ref y)) Q E s := by
  have one : wpAny (model prog w) A (tryCompare (.ref x) "__ne__" (.ref y)) (fun r s' => ∃ b, r = some (.bool b) ∧ Q (.bool b) s') E s := by
    unfold tryCompare
    refine wpAny_bind (ifBound_objNe X I hn (wpAny_call (codeAny_call_builtin F.cmp_object.ne.plain F.cmpEntry_ne (PySem.W.check_slot F.cmpKind_ne F.cmpSplit_ne (I.type.andThen (PySem.W.looks_mroIn X hm)) (F.cmpArgs_ne _ _)
      (ne_entry (A := A.in1) X I hs hf hu (wpAny_mono h (fun v s' hv => ?_) fun _ _ e => e))))))
    obtain ⟨b, rfl, hq⟩ := hv
    first | exact ⟨b, rfl, wpAny_pure ⟨_, rfl, hq⟩⟩ | exact ⟨b, rfl, wpAny_pure (wpAny_pure ⟨_, rfl, hq⟩)⟩ | exact ⟨b, rfl, ⟨_, rfl, hq⟩⟩
  unfold richCompare
  simp only [oneThing_ref]
  refine wpAny_holding (wpAny_bind (wpAny_cRoomFor (Nat.lt_of_succ_lt hu) ?_))
  refine wpAny_bind (I.type.here (wpAny_bind (hb.here ?_)))
  split
  · rename_i q
    simp at q
  · refine wpAny_bind (wpAny_pure ?_)
    simp only [Bool.false_eq_true, if_false]
    refine wpAny_bind (wpAny_mono one (fun r s' z => ?_) fun _ _ e => e)
    obtain ⟨b, rfl, hq⟩ := z
    exact wpAny_pure hq
end
section
variable {X : Cx} {CX : CXT} {n : Nat} {C g : Addr} {sp : Sp} {E : XK}
/-- x op y of two instances of the class at C, by its own def -/
def rBinO (C : Addr) (sp : Sp) (E : XK) : R2 := fun x y H Q => ∃ a dx fs b dy gs, x = .ref a ∧ y = .ref b ∧ H a = some (.ins C dx fs) ∧ H b = some (.ins C dy gs) ∧ sp [x, y] H Q E
theorem op_binO {op : Operator} (hc : PySem.W.selfFirst X.K C = true) (hs : PySem.W.findIn X.K (.ref C) (PySem.dunder op.info.2) = some (some (.ref g))) (hf : PySem.W.isFn X.K (.ref g) = true) (F : FnR X.prog X.w X.K X.mg X.base CX n g sp) (hr : Room n X.A) (hx : Passes CX X E) : OpR X (binaryOp op) (rBinO C sp E) := by
  intro pins s σ H x y v u Q I rx ry h
  obtain ⟨a, dx, fs, b, dy, gs, rfl, rfl, ha, hb, q⟩ := h
  cases (show v = Value.ref a from rx)
  cases (show u = Value.ref b from ry)
  obtain ⟨mA, J, _⟩ := ins_get I.hok ha
  obtain ⟨mB, J', _⟩ := ins_get I.hok hb
  obtain ⟨od, J, _⟩ := J.look
  obtain ⟨od', J', _⟩ := J'.look
  obtain ⟨m, hF⟩ := I.fr
  refine PySem.W.binop_K (op := op) hF I.ok.mod.kin J J'.type hc hs hf ?_
  refine wpAny_mono (wpAny_call (run_fnR (us := [.ref a, .ref b]) (vs := [.ref a, .ref b]) F hr hx I (.cons rfl (.cons rfl .nil)) q)) (fun w s' z => ?_) fun _ _ x => x
  obtain ⟨z', H', I', rz, qz⟩ := z
  exact SlX.cmpback rz ⟨z', H', I', rz, qz⟩
/-- x != y of two instances of the class at C, by its own == -/
theorem op_neO (hm : PySem.W.mroIn X.K C (.type "object") = some true) (hn : PySem.W.findIn X.K (.ref C) "__ne__" = some (some (.builtin "object.__ne__"))) (hs : PySem.W.findIn X.K (.ref C) "__eq__" = some (some (.ref g))) (hf : PySem.W.isFn X.K (.ref g) = true) (F : FnR X.prog X.w X.K X.mg X.base CX n g sp) (hr : Room (n + 1) X.A) (hu : X.A.units + 64 < cLine) (hx : Passes CX X E) :
    OpR X (compareOp .NotEq) (fun x y H Q => ∃ a dx fs b dy gs, x = .ref a ∧ y = .ref b ∧ H a = some (.ins C dx fs) ∧ H b = some (.ins C dy gs) ∧ sp [x, y] H (fun v H' => ∃ b, v = .bl b ∧ Q (.bl (!b)) H') E) := by
  intro pins s σ H x y v u Q I rx ry h
  obtain ⟨a, dx, fs, b, dy, gs, rfl, rfl, ha, hb, q⟩ := h
  cases (show v = Value.ref a from rx)
  cases (show u = Value.ref b from ry)
  obtain ⟨mA, J, _⟩ := ins_get I.hok ha
  obtain ⟨mB, J', _⟩ := ins_get I.hok hb
  obtain ⟨od, J, _⟩ := J.look
  obtain ⟨od', J', _⟩ := J'.look
  refine PySem.W.cmp_ofNotEq (ne_K (by omega) I.kIn J J'.type hm hn hs hf (wpAny_mono (wpAny_call (run_fnR1 (us := [.ref a, .ref b]) (vs := [.ref a, .ref b]) F hr hx I (.cons rfl (.cons rfl .nil)) q)) (fun w s' z => ?_) fun _ _ x => x))
  obtain ⟨z', H', I', rz, k, rfl, q'⟩ := z
  exact ⟨k, rz, .bl (!k), H', I', rfl, q'⟩
end
end R1

namespace K28
open PySem PySem.Spec PyProof.Rows L2
def topS (i : Nat) : Stmt := PySem.Challenge.pw_onelooker_k28_sums_of_certificates.main.body.getD i (.Pass ⟨0, 0, 0, 0⟩)
abbrev s_is_int : Stmt := topS 5
theorem sc_is_int : FnScope ["value"] ["value"] (defScope s_is_int) := ⟨rfl, rfl, rfl, by decide +kernel, rfl, by decide +kernel, by decide +kernel⟩
abbrev s_is_whole : Stmt := topS 7
theorem sc_is_whole : FnScope ["value", "least", "most"] ["value", "least", "most"] (defScope s_is_whole) := ⟨rfl, rfl, rfl, by decide +kernel, rfl, by decide +kernel, by decide +kernel⟩
abbrev s_moved : Stmt := topS 9
theorem sc_moved : FnScope ["row", "by", "word", "first", "second", "atom"] ["row", "by"] (defScope s_moved) := ⟨rfl, rfl, rfl, by decide +kernel, rfl, by decide +kernel, by decide +kernel⟩
abbrev s_l_state : Stmt := topS 12
theorem sc_l_state : FnScope ["_law_script"] ["_law_script"] (defScope s_l_state) := ⟨rfl, rfl, rfl, by decide +kernel, rfl, by decide +kernel, by decide +kernel⟩
abbrev s_l_draw : Stmt := topS 13
theorem sc_l_draw : FnScope ["_law_state_here", "_law_many", "_law_cell", "_law_found", "_law_mixed"] ["_law_state_here", "_law_many"] (defScope s_l_draw) := ⟨rfl, rfl, rfl, by decide +kernel, rfl, by decide +kernel, by decide +kernel⟩
abbrev s_l_alike : Stmt := topS 14
theorem sc_l_alike : FnScope ["_law_actual", "_law_due", "_law_k"] ["_law_actual", "_law_due"] (defScope s_l_alike) := ⟨rfl, rfl, rfl, by decide +kernel, rfl, by decide +kernel, by decide +kernel⟩
abbrev s_l_value : Stmt := topS 15
theorem sc_l_value : FnScope ["_law_state_here", "_law_atom", "_law_i", "_law_j", "_law_menu"] ["_law_state_here"] (defScope s_l_value) := ⟨rfl, rfl, rfl, by decide +kernel, rfl, by decide +kernel, by decide +kernel⟩
abbrev s_l_is_whole : Stmt := topS 16
theorem sc_l_is_whole : FnScope ["_law_value_here"] ["_law_value_here"] (defScope s_l_is_whole) := ⟨rfl, rfl, rfl, by decide +kernel, rfl, by decide +kernel, by decide +kernel⟩
abbrev s_l_moved : Stmt := topS 17
theorem sc_l_moved : FnScope ["_law_rows", "_law_steps", "_law_found", "_law_row", "_law_resolve"] ["_law_rows", "_law_steps"] (defScope s_l_moved) := ⟨rfl, rfl, rfl, by decide +kernel, rfl, by decide +kernel, by decide +kernel⟩
abbrev s_l_item : Stmt := topS 18
theorem sc_l_item : FnScope ["_law_certificate", "_law_at", "error"] ["_law_certificate", "_law_at"] (defScope s_l_item) := ⟨rfl, rfl, rfl, by decide +kernel, rfl, by decide +kernel, by decide +kernel⟩
abbrev s_l_is : Stmt := topS 19
theorem sc_l_is : FnScope ["_law_certificate", "_law_rows", "_law_at"] ["_law_certificate", "_law_rows"] (defScope s_l_is) := ⟨rfl, rfl, rfl, by decide +kernel, rfl, by decide +kernel, by decide +kernel⟩
abbrev s_law : Stmt := topS 20
theorem sc_law : FnScope ["_law_script", "_law_state_here", "_law_rows", "_law_handed", "_law_first", "_law_second", "_law_third", "_law_both", "_law_due", "_law_whole", "_law_label", "_law_clause", "_law_i", "_law_j", "_law_row", "_law_k"] ["_law_script"] (defScope s_law) := ⟨rfl, rfl, rfl, by decide +kernel, rfl, by decide +kernel, by decide +kernel⟩
structure Ad where
  f_is_int : Addr
  d_is_int : FuncData
  f_is_whole : Addr
  d_is_whole : FuncData
  f_moved : Addr
  d_moved : FuncData
  f_l_state : Addr
  d_l_state : FuncData
  f_l_draw : Addr
  d_l_draw : FuncData
  f_l_alike : Addr
  d_l_alike : FuncData
  f_l_value : Addr
  d_l_value : FuncData
  f_l_is_whole : Addr
  d_l_is_whole : FuncData
  f_l_moved : Addr
  d_l_moved : FuncData
  f_l_item : Addr
  d_l_item : FuncData
  f_l_is : Addr
  d_l_is : FuncData
  f_law : Addr
  d_law : FuncData
  c_LookerError : Addr
  c_BadRow : Addr
  c_BadStep : Addr
  c_Certificate : Addr
structure Top (K : PySem.W.Frag) (mg : Str → Option Value) (a : Ad) : Prop where
  F_is_int : Fun K "is_int" "is_int" s_is_int a.f_is_int a.d_is_int
  m_is_int : mg "is_int" = some (.ref a.f_is_int)
  b_is_int : Binds K a.d_is_int ["value"] []
  F_is_whole : Fun K "is_whole" "is_whole" s_is_whole a.f_is_whole a.d_is_whole
  m_is_whole : mg "is_whole" = some (.ref a.f_is_whole)
  b_is_whole : Binds K a.d_is_whole ["value", "least", "most"] []
  F_moved : Fun K "_moved" "_moved" s_moved a.f_moved a.d_moved
  m_moved : mg "_moved" = some (.ref a.f_moved)
  b_moved : Binds K a.d_moved ["row", "by"] []
  F_l_state : Fun K "_law_state" "_law_state" s_l_state a.f_l_state a.d_l_state
  m_l_state : mg "_law_state" = some (.ref a.f_l_state)
  b_l_state : Binds K a.d_l_state ["_law_script"] []
  F_l_draw : Fun K "_law_draw" "_law_draw" s_l_draw a.f_l_draw a.d_l_draw
  m_l_draw : mg "_law_draw" = some (.ref a.f_l_draw)
  b_l_draw : Binds K a.d_l_draw ["_law_state_here", "_law_many"] []
  F_l_alike : Fun K "_law_alike" "_law_alike" s_l_alike a.f_l_alike a.d_l_alike
  m_l_alike : mg "_law_alike" = some (.ref a.f_l_alike)
  b_l_alike : Binds K a.d_l_alike ["_law_actual", "_law_due"] []
  F_l_value : Fun K "_law_value" "_law_value" s_l_value a.f_l_value a.d_l_value
  m_l_value : mg "_law_value" = some (.ref a.f_l_value)
  b_l_value : Binds K a.d_l_value ["_law_state_here"] []
  F_l_is_whole : Fun K "_law_is_whole" "_law_is_whole" s_l_is_whole a.f_l_is_whole a.d_l_is_whole
  m_l_is_whole : mg "_law_is_whole" = some (.ref a.f_l_is_whole)
  b_l_is_whole : Binds K a.d_l_is_whole ["_law_value_here"] []
  F_l_moved : Fun K "_law_moved" "_law_moved" s_l_moved a.f_l_moved a.d_l_moved
  m_l_moved : mg "_law_moved" = some (.ref a.f_l_moved)
  b_l_moved : Binds K a.d_l_moved ["_law_rows", "_law_steps"] []
  F_l_item : Fun K "_law_item" "_law_item" s_l_item a.f_l_item a.d_l_item
  m_l_item : mg "_law_item" = some (.ref a.f_l_item)
  b_l_item : Binds K a.d_l_item ["_law_certificate", "_law_at"] []
  F_l_is : Fun K "_law_is" "_law_is" s_l_is a.f_l_is a.d_l_is
  m_l_is : mg "_law_is" = some (.ref a.f_l_is)
  b_l_is : Binds K a.d_l_is ["_law_certificate", "_law_rows"] []
  F_law : Fun K "law" "law" s_law a.f_law a.d_law
  m_law : mg "law" = some (.ref a.f_law)
  b_law : Binds K a.d_law ["_law_script"] []
  m_LookerError : mg "LookerError" = some (.ref a.c_LookerError)
  m_BadRow : mg "BadRow" = some (.ref a.c_BadRow)
  m_BadStep : mg "BadStep" = some (.ref a.c_BadStep)
  m_Certificate : mg "Certificate" = some (.ref a.c_Certificate)
  z_ValueError : mg "ValueError" = none
  z_bool : mg "bool" = none
  z_int : mg "int" = none
  z_isinstance : mg "isinstance" = none
  z_iter : mg "iter" = none
  z_len : mg "len" = none
  z_list : mg "list" = none
  z_range : mg "range" = none
  z_str : mg "str" = none
  z_tuple : mg "tuple" = none
end K28

namespace K28
open PySem PySem.Spec PyProof.Rows L2
section
variable {P : Program} {w : World} {K : PySem.W.Frag} {mg : Str → Option Value} {base : Heap} {a : Ad}
/-- no list, tuple or dict is an int or a truth value: what x is, by its type t -/
def spIsInt (K : PySem.W.Frag) : Sp := fun vs H Q _ => ∃ (x : V) (t : String) (b c : Bool), vs = [x] ∧ TyX K H x (.type t) ∧ kitB t "int" = some b ∧ kitB t "bool" = some c ∧ Q (.bl (b && !c)) H
theorem ok_is_int (T : Top K mg a) : FnOk P w K mg base CX0 1 a.f_is_int a.d_is_int ["value"] (spIsInt K) := by
  refine T.F_is_int.ok sc_is_int (fun vs H Q E h => ?_) (fun cdv A outer s H vs Q E hr h => ?_)
  · obtain ⟨x, t, b, c, rfl, _⟩ := h
    rfl
  · obtain ⟨x, t, b, c, rfl, ht, hb, hc, q⟩ := h
    refine ⟨_, (pss_one (ps_ret (pe_and (pe_callB call_isi (by rfl) T.z_isinstance (by decide +kernel) (pa_cons (pv 0) (pa_cons (pe_bltn (v := .ty "int") (by rfl) T.z_int (by decide +kernel) rfl) pa_nil))) (pe_one (pe_not (pe_callB call_isi (by rfl) T.z_isinstance (by decide +kernel) (pa_cons (pv 0) (pa_cons (pe_bltn (v := .ty "bool") (by rfl) T.z_bool (by decide +kernel) rfl) pa_nil)))))))), ?_⟩
    refine ⟨x, rfl, x, .ty "int", .type t, .type "int", b, rfl, .ty _, ht, kit_ty hb, b, rfl, ?_⟩
    cases b with
    | false => exact q
    | true =>
      refine iteT ⟨x, rfl, x, .ty "bool", .type t, .type "bool", c, rfl, .ty _, ht, kit_ty hc, c, rfl, ?_⟩
      simpa using q
end
end K28

namespace K28
open PySem PySem.Spec PyProof.Rows L2
section
variable {P : Program} {w : World} {K : PySem.W.Frag} {mg : Str → Option Value} {base : Heap} {a : Ad}
/-- the drawing state at st -/
structure Sta (sc : Addr) (H : Hp) (st : Addr) : Prop where
  ex : ∃ (ns : List Int) (i b s l : Int), sc ≠ st ∧ H st = some (.lst [.ref sc, .int i, .int b, .int s, .int l]) ∧ H sc = some (.lst (ns.map V.int)) ∧ 0 ≤ i ∧ 0 ≤ b ∧ 0 ≤ s ∧ s < 10 ^ 18 ∧ 0 ≤ l ∧ l ≤ 6
/-- all else stays -/
def Kp (st : Addr) (H H' : Hp) : Prop := ∀ b o, b ≠ st → H b = some o → H' b = some o
theorem Kp.refl (st : Addr) (H : Hp) : Kp st H H := fun _ _ _ h => h
theorem Kp.trans {st : Addr} {H H1 H2 : Hp} (x : Kp st H H1) (y : Kp st H1 H2) : Kp st H H2 := fun b o n h => y b o n (x b o n h)
theorem Kp.put {st : Addr} {H H1 : Hp} {o : HO} (x : Kp st H H1) : Kp st H (upd H1 st o) := fun b u n h => by
  rw [upd_ne n]
  exact x b u n h
theorem Same.kp {st : Addr} {H H' : Hp} (h : Same H H') : Kp st H H' := fun b o _ e => h b o e
def spDraw : Sp := fun vs H Q _ => ∃ (sc st : Addr) (m : Int), vs = [.ref st, .int m] ∧ Sta sc H st ∧ 1 ≤ m ∧ m < 2 ^ 60 ∧ ∀ H' v, Kp st H H' → Sta sc H' st → 0 ≤ v → v < m → Q (.int v) H'
theorem ixv {K : PySem.W.Frag} {i : Nat} {p : Addr} {xs : List V} {v : V} {σ : L2.St} {H : Hp} {Q : VK} (j : Nat) (h0 : σ[i]? = some (some (.ref p))) (h : SqL K H p xs) (e : xs[j]? = some v) (q : Q v H) : tOp (rIx K) (tVar i) (tC (.int (j : Int))) σ H Q :=
  ⟨.ref p, h0, .inl ⟨p, xs, j, v, rfl, rfl, h, atI_nat e, q⟩⟩
theorem eqi {K : PySem.W.Frag} {x y : Int} {H : Hp} {Q : Bool → Hp → Prop} (q : Q (decide (x = y)) H) : (fun x y H Q => rEq x y H Q ∨ rEqD K x y H Q) (.int x) (.int y) H (fun z H' => ∃ k, z = .bl k ∧ Q k H') := .inl ⟨rfl, _, rfl, by
  have e : decide (V.int x = V.int y) = decide (x = y) := by
    by_cases h : x = y
    · rw [decide_eq_true h, decide_eq_true (by rw [h])]
    · rw [decide_eq_false h, decide_eq_false (fun z => h (V.int.inj z))]
  rw [e]; exact q⟩
theorem setv {p : Addr} {xs : List V} {v : V} {H : Hp} {Q : Hp → Prop} (j : Nat) (h : H p = some (.lst xs)) (hj : j < xs.length) (q : Q (upd H p (.lst (xs.set j v)))) : rSetL (.ref p) (.int (j : Int)) v H Q := ⟨p, xs, j, j, rfl, rfl, h, by
  unfold ixN
  rw [if_pos (by omega), if_pos (by omega)]
  simp, q⟩
theorem sta_cell {H : Hp} {st : Addr} {xs : List V} {j : Nat} {v : V} (h : H st = some (.lst xs)) (e : xs[j]? = some v) : (∃ (p : Addr) (ys : List V) (i : Int) (u : V), V.ref st = .ref p ∧ V.int (j : Int) = .int i ∧ SqL K H p ys ∧ atI ys i = some u ∧ u = v) := ⟨st, xs, j, v, rfl, rfl, SqL.of h, atI_nat e, rfl⟩
theorem ok_draw (T : Top K mg a) : FnOk P w K mg base CX0 1 a.f_l_draw a.d_l_draw ["_law_state_here", "_law_many"] spDraw := by
  refine T.F_l_draw.ok sc_l_draw (fun vs H Q E h => ?_) (fun cdv A outer s H vs Q E hr h => ?_)
  · obtain ⟨_, st, m, rfl, _⟩ := h
    rfl
  · obtain ⟨sc, st, m, rfl, ⟨ns, i, b, s, l, hne, hst, hsc, hi, hb, hs0, hs1, hl0, hl1⟩, hm0, hm1, q⟩ := h
    refine ⟨_, (pss_cons (ps_if (pt_cmpR (OpR.or op_lt op_lt_str) (pv 1) pe_int (nomark _))
      (pss_one (ps_ret pe_int))
      pss_nil)
    (C8.pss_cut (ps_if (PW.pt (pw_and (pt_cmpR (OpR.or op_eq (op_eqD hr.units)) (pe_ix ix_seq (pv 0) pe_int (fun _ _ => rfl)) pe_int (nomark _)) (pw_and (pt_cmpR (OpR.or op_eq (op_eqD hr.units)) (pe_ix ix_seq (pv 0) pe_int (fun _ _ => rfl)) pe_int (nomark _)) (pw_and1 (pt_cmpR (OpR.or op_lt op_lt_str) (pe_ix ix_seq (pv 0) pe_int (fun _ _ => rfl)) (pe_callB (CallR.or call_len_str call_len_seq) (by rfl) T.z_len (by decide +kernel) (pa_cons (pe_ix ix_seq (pv 0) pe_int (fun _ _ => rfl)) pa_nil)) (nomark _))))))
      (pss_cons (ps_set (i := 2) sc_l_draw.nd rfl (.inl rfl) (pe_ix ix_seq (pe_ix ix_seq (pv 0) pe_int (fun _ _ => rfl)) (pe_ix ix_seq (pv 0) pe_int (fun _ _ => rfl)) (fun _ _ => rfl)))
      (pss_cons (ps_asg (pe_op (OpR.or op_add (OpR.or op_add_str (OpR.or op_cat op_catT))) (pe_ix ix_seq (pv 0) pe_int (fun _ _ => rfl)) pe_int) (pg_sub (pv 0) pe_int set_list))
      (pss_cons (ps_if (pt_cmpR (OpR.or op_lt op_lt_str) (pv 2) pe_int (nomark _))
        (pss_one (ps_set (i := 2) sc_l_draw.nd rfl (.inl rfl) (pe_op op_sub pe_int (pe_op (OpR.or op_mul op_mulW) pe_int (pv 2)))))
        pss_nil)
      (pss_one (ps_if (pt_cmpR (OpR.or op_ge op_ge_str) (pv 2) (pe_op op_pow pe_int pe_int) (nomark _))
        (pss_one (ps_asg (pv 2) (pg_sub (pv 0) pe_int set_list)))
        (pss_cons (ps_asg (pv 2) (pg_sub (pv 0) pe_int set_list))
        (pss_one (ps_asg pe_int (pg_sub (pv 0) pe_int set_list)))))))))
      pss_nil)
    (pss_cons (ps_if (pt_cmpR (OpR.or op_gt op_gt_str) (pe_ix ix_seq (pv 0) pe_int (fun _ _ => rfl)) pe_int (nomark _))
      (pss_cons (ps_set (i := 3) sc_l_draw.nd rfl (.inl rfl) (pe_op op_mod (pe_callTy (CallR.or call_int1 call_int_str) (by rfl) T.z_int (by decide +kernel) (pa_cons (pe_ix ix_seq (pv 0) pe_int (fun _ _ => rfl)) pa_nil)) (pv 1)))
      (pss_cons (ps_asg (pe_op op_fdivW (pe_ix ix_seq (pv 0) pe_int (fun _ _ => rfl)) (pv 1)) (pg_sub (pv 0) pe_int set_list))
      (pss_one (ps_ret (pv 3)))))
      pss_nil)
    (pss_cons (ps_if (pt_cmpR (OpR.or op_gt op_gt_str) (pe_ix ix_seq (pv 0) pe_int (fun _ _ => rfl)) pe_int (nomark _))
      (pss_cons (ps_asg (pe_op op_sub (pe_ix ix_seq (pv 0) pe_int (fun _ _ => rfl)) pe_int) (pg_sub (pv 0) pe_int set_list))
      (pss_cons (ps_set (i := 4) sc_l_draw.nd rfl (.inl rfl) (pe_op op_mod (pe_callTy (CallR.or call_int1 call_int_str) (by rfl) T.z_int (by decide +kernel) (pa_cons (pe_op (OpR.or op_mul op_mulW) (pe_ix ix_seq (pv 0) pe_int (fun _ _ => rfl)) (pe_op (OpR.or op_add (OpR.or op_add_str (OpR.or op_cat op_catT))) pe_int (pe_op (OpR.or op_mul op_mulW) pe_int (pe_ix ix_seq (pv 0) pe_int (fun _ _ => rfl))))) pa_nil)) pe_int))
      (pss_cons (ps_set (i := 4) sc_l_draw.nd rfl (.inl rfl) (pe_op op_mod (pe_callTy (CallR.or call_int1 call_int_str) (by rfl) T.z_int (by decide +kernel) (pa_cons (pe_op (OpR.or op_mul op_mulW) (pv 4) (pe_op (OpR.or op_add (OpR.or op_add_str (OpR.or op_cat op_catT))) pe_int (pe_ix ix_seq (pv 0) pe_int (fun _ _ => rfl)))) pa_nil)) pe_int))
      (pss_one (ps_ret (pe_op op_mod (pe_callTy (CallR.or call_int1 call_int_str) (by rfl) T.z_int (by decide +kernel) (pa_cons (pv 4) pa_nil)) (pv 1)))))))
      pss_nil)
    (pss_one (ps_ret pe_int)))))), ?_⟩
    refine ⟨.int m, rfl, .inl ⟨m, 2, rfl, rfl, _, rfl, ite2 (fun e => ?_) (fun e => ?_)⟩⟩
    · exact q H 0 (Kp.refl _ _) ⟨ns, i, b, s, l, hne, hst, hsc, hi, hb, hs0, hs1, hl0, hl1⟩ (by omega) (by omega)
    · have hm2 : 2 ≤ m := by
        have := of_decide_eq_false (Bool.eq_false_iff.mpr e)
        omega
      refine ⟨fun σ' H' => ∃ y2 y3 y4, σ' = [some (.ref st), some (.int m), y2, y3, y4] ∧ Kp st H H' ∧ Sta sc H' st, ?_, ?_⟩
      · -- load
        have S0 : Sta sc H st := ⟨ns, i, b, s, l, hne, hst, hsc, hi, hb, hs0, hs1, hl0, hl1⟩
        refine ixv 2 rfl (SqL.of hst) rfl (eqi (ite2 (fun e1 => ?_) (fun e1 => ?_)))
        rotate_left
        · exact iteF ⟨_, _, _, rfl, Kp.refl _ _, S0⟩
        refine ixv 4 rfl (SqL.of hst) rfl (eqi (ite2 (fun e2 => ?_) (fun e2 => ?_)))
        rotate_left
        · exact iteF ⟨_, _, _, rfl, Kp.refl _ _, S0⟩
        refine ixv 1 rfl (SqL.of hst) rfl (ixv 0 rfl (SqL.of hst) rfl (.inr ⟨sc, _, rfl, .inl (SqL.of hsc), .inl ⟨i, _, rfl, rfl, _, rfl, ite2 (fun e3 => ?_) (fun e3 => ?_)⟩⟩))
        rotate_left
        · exact ⟨_, _, _, rfl, Kp.refl _ _, S0⟩
        have h3 : i < ns.length := by
          have := of_decide_eq_true e3
          simpa using this
        obtain ⟨j, rfl⟩ : ∃ j : Nat, i = j := ⟨i.toNat, by omega⟩
        have hj : j < ns.length := by omega
        refine ixv 0 rfl (SqL.of hst) rfl (ixv 1 rfl (SqL.of hst) rfl (.inl ⟨sc, _, _, .int ns[j], rfl, rfl, SqL.of hsc, atI_nat (by simp [hj]), ?_⟩))
        refine ixv 1 rfl (SqL.of hst) rfl (.inl ⟨_, 1, rfl, rfl, ?_⟩)
        refine ⟨.ref st, rfl, setv 1 hst (by simp) ?_⟩
        -- the cell, not below 0
        have tail : ∀ (c : Int) (y3 y4 : Option V), 0 ≤ c → tIfS (tTest (tOp (fun x y H Q => rI0 (fun i j => V.bl (decide (j ≤ i))) x y H Q ∨ ∃ i j, x = V.str i ∧ y = V.str j ∧ Q (V.bl (!decide (i.cps.toList < j.cps.toList))) H) (tVar 2) (tOp (rI CPow fun i j => V.int (i ^ j.toNat)) (tC (.int 10)) (tC (.int 18)))))
            (tAsg (tVar 2) (gSub (tVar 0) (tC (.int 2)) rSetL)) (tSeq (tAsg (tVar 2) (gSub (tVar 0) (tC (.int 3)) rSetL)) (tAsg (tC (.int 6)) (gSub (tVar 0) (tC (.int 4)) rSetL)))
            { nx := fun σ' H' => ∃ y2 y3 y4, σ' = [some (.ref st), some (.int m), y2, y3, y4] ∧ Kp st H H' ∧ Sta sc H' st, rt := Q } [some (.ref st), some (.int m), some (.int c), y3, y4] (upd H st (.lst [.ref sc, .int (j + 1), .int b, .int s, .int l])) := by
          intro c y3 y4 hc
          have hsc' : (upd H st (.lst [.ref sc, .int (j + 1), .int b, .int s, .int l])) sc = some (.lst (ns.map V.int)) := by
            rw [upd_ne hne]; exact hsc
          refine ⟨.int c, rfl, 10, 18, rfl, rfl, ⟨by decide, by decide⟩, .inl ⟨c, _, rfl, rfl, _, rfl, ite2 (fun e => ?_) (fun e => ?_)⟩⟩
          · refine ⟨.int c, rfl, .ref st, rfl, setv 2 upd_same (by simp) ?_⟩
            refine ⟨_, _, _, rfl, (Kp.refl _ _).put.put, ns, j + 1, c, s, l, hne, upd_same, ?_, by omega, hc, hs0, hs1, hl0, hl1⟩
            rw [upd_ne hne]; exact hsc'
          · have hlt : c < 10 ^ 18 := by
              have := of_decide_eq_false (Bool.eq_false_iff.mpr e)
              have e18 : (10 : Int) ^ (18 : Int).toNat = 10 ^ 18 := rfl
              rw [e18] at this
              omega
            refine ⟨.int c, rfl, .ref st, rfl, setv 3 upd_same (by simp) ?_⟩
            refine ⟨.ref st, rfl, setv 4 upd_same (by simp) ?_⟩
            refine ⟨_, _, _, rfl, (Kp.refl _ _).put.put.put, ns, j + 1, b, c, 6, hne, upd_same, ?_, by omega, hb, hc, hlt, by omega, by omega⟩
            rw [upd_ne hne, upd_ne hne]; exact hsc'
        refine ⟨.int ns[j], rfl, .inl ⟨_, 0, rfl, rfl, _, rfl, ite2 (fun e => ?_) (fun e => ?_)⟩⟩
        · have hneg : ns[j] < 0 := of_decide_eq_true e
          refine ⟨.int ns[j], rfl, .inl ⟨2, _, rfl, rfl, .inl ⟨by decide, by decide⟩, 1, _, rfl, rfl, ?_⟩⟩
          exact tail (1 - 2 * ns[j]) _ _ (by omega)
        · have hpos : ¬ ns[j] < 0 := of_decide_eq_false (Bool.eq_false_iff.mpr e)
          exact tail ns[j] _ _ (by omega)
      · rintro σ' H1 ⟨y2, y3, y4, rfl, hk, ns, i, b, s, l, hne, hst, hsc, hi, hb, hs0, hs1, hl0, hl1⟩
        have hsc2 : ∀ o, (upd H1 st o) sc = some (.lst (ns.map V.int)) := fun o => by
          rw [upd_ne hne]; exact hsc
        refine ixv 2 rfl (SqL.of hst) rfl (.inl ⟨b, 0, rfl, rfl, _, rfl, ite2 (fun e => ?_) (fun e => ?_)⟩)
        · have hb1 : 0 < b := of_decide_eq_true e
          refine ixv 2 rfl (SqL.of hst) rfl (.inl (.inl ⟨b, rfl, .int m, rfl, b, m, rfl, rfl, by omega, ?_⟩))
          refine ixv 2 rfl (SqL.of hst) rfl ⟨.int m, rfl, b, m, rfl, rfl, wide_div (b := 60) (by omega) (by omega) (by decide) (by decide), .ref st, rfl, setv 2 hst (by simp) ?_⟩
          refine ⟨.int (b % m), rfl, q _ _ hk.put ⟨ns, i, b / m, s, l, hne, upd_same, hsc2 _, hi, Int.ediv_nonneg hb (by omega), hs0, hs1, hl0, hl1⟩ (Int.emod_nonneg _ (by omega)) (Int.emod_lt_of_pos _ (by omega))⟩
        · refine ixv 4 rfl (SqL.of hst) rfl (.inl ⟨l, 0, rfl, rfl, _, rfl, ite2 (fun e2 => ?_) (fun e2 => ?_)⟩)
          · have hl2 : 0 < l := of_decide_eq_true e2
            refine ixv 4 rfl (SqL.of hst) rfl ⟨l, 1, rfl, rfl, .ref st, rfl, setv 4 hst (by simp) ?_⟩
            have hA : (upd H1 st (.lst [.ref sc, .int i, .int b, .int s, .int (l - 1)])) st = some (.lst [.ref sc, .int i, .int b, .int s, .int (l - 1)]) := upd_same
            refine ixv 3 rfl (SqL.of hA) rfl (ixv 4 rfl (SqL.of hA) rfl (.inl ⟨2, l - 1, rfl, rfl, .inl ⟨by decide, by decide⟩, ?_⟩))
            refine .inl ⟨48271, _, rfl, rfl, .inl ⟨s, _, rfl, rfl, .inl ⟨by omega, by omega⟩, ?_⟩⟩
            refine .inl (.inl ⟨_, rfl, _, 2147483647, rfl, rfl, by (show (0 : Int) < _; decide), ?_⟩)
            have h4 := Int.emod_nonneg (s * (48271 + 2 * (l - 1))) (show (2147483647 : Int) ≠ 0 by decide)
            have h5 := Int.emod_lt_of_pos (s * (48271 + 2 * (l - 1))) (show (0 : Int) < 2147483647 by decide)
            refine ⟨.int (s * (48271 + 2 * (l - 1)) % 2147483647), rfl, ixv 4 rfl (SqL.of hA) rfl (.inl ⟨16807, l - 1, rfl, rfl, .inl ⟨_, _, rfl, rfl, .inl ⟨by omega, by omega⟩, ?_⟩⟩)⟩
            refine .inl (.inl ⟨_, rfl, _, 1000003, rfl, rfl, by (show (0 : Int) < _; decide), ?_⟩)
            refine ⟨_, rfl, .inl (.inl ⟨_, rfl, .int m, rfl, _, m, rfl, rfl, by omega, ?_⟩)⟩
            exact q _ _ hk.put ⟨ns, i, b, s, l - 1, hne, upd_same, hsc2 _, hi, hb, hs0, hs1, by omega, by omega⟩ (Int.emod_nonneg _ (by omega)) (Int.emod_lt_of_pos _ (by omega))
          · exact q _ _ hk ⟨ns, i, b, s, l, hne, hst, hsc, hi, hb, hs0, hs1, hl0, hl1⟩ (by omega) (by omega)
end
end K28


namespace K28
open PySem PySem.Spec PyProof.Rows L2
section
variable {P : Program} {w : World} {K : PySem.W.Frag} {mg : Str → Option Value} {base : Heap} {a : Ad}
def spState (K : PySem.W.Frag) : Sp := fun vs H Q _ => ∃ (p : Addr) (ns : List Int), vs = [.ref p] ∧ SqL K H p (ns.map V.int) ∧ ∀ H' st sc, H st = none → Same H H' → Sta sc H' st → Q (.ref st) H'
theorem same_upd {H : Hp} {p : Addr} {o : HO} (h : H p = none) : Same H (upd H p o) := fun b x e => by
  rw [upd_ne (ne_of_none e h)]
  exact e
theorem ok_state (T : Top K mg a) : FnOk P w K mg base CX0 1 a.f_l_state a.d_l_state ["_law_script"] (spState K) := by
  refine T.F_l_state.ok sc_l_state (fun vs H Q E h => ?_) (fun cdv A outer s H vs Q E hr h => ?_)
  · obtain ⟨st, m, rfl, _⟩ := h
    rfl
  · obtain ⟨p, ns, rfl, hS, q⟩ := h
    refine ⟨_, (pss_one (ps_ret (pe_lst (pa_cons (pe_callTy call_list_of (by rfl) T.z_list (by decide +kernel) (pa_cons (pv 0) pa_nil)) (pa_cons pe_int (pa_cons pe_int (pa_cons pe_int (pa_cons pe_int pa_nil)))))))), ?_⟩
    refine ⟨.ref p, rfl, p, _, rfl, .inl hS, fun sc nsc => ?_⟩
    refine ⟨by show 5 ≤ sizeLine; decide, fun st nst => ?_⟩
    have hne : sc ≠ st := fun e => by
      rw [← e, upd_same] at nst
      cases nst
    have n0 : H st = none := by
      rw [upd_ne (Ne.symm hne)] at nst
      exact nst
    refine q _ st sc n0 ((same_upd nsc).trans (same_upd nst)) ⟨ns, 0, 0, 0, 0, hne, upd_same, ?_, by omega, by omega, by omega, by decide, by omega, by omega⟩
    rw [upd_ne hne, upd_same]
/-! ### alike -/
theorem tyx_l {H : Hp} {p : Addr} {xs : List V} (h : SqL K H p xs) : TyX K H (.ref p) (.type "list") := by
  rcases h with (h | ⟨o, h⟩) | ⟨o, its, n, h, hc, _⟩
  · exact .base (.lst h)
  · exact .base (.frz h)
  · exact .kList h hc
theorem tyx_t {H : Hp} {p : Addr} {xs : List V} (h : SqT K H p xs) : TyX K H (.ref p) (.type "tuple") := by
  rcases h with (h | ⟨o, h⟩) | ⟨o, its, n, h, hc, _⟩
  · exact .base (.tup h)
  · exact .fTuple h
  · exact .kTuple h hc
/-- alike by one more layer -/
inductive SmS (K : PySem.W.Frag) (R : Hp → V → V → Prop) (H : Hp) : V → V → Prop where
  | non : SmS K R H .non .non
  | bl (b : Bool) : SmS K R H (.bl b) (.bl b)
  | int (i : Int) : SmS K R H (.int i) (.int i)
  | str (x : Str) : SmS K R H (.str x) (.str x)
  | lst {p q : Addr} {xs ys : List V} (hx : SqL K H p xs) (hy : SqL K H q ys) (l : xs.length = ys.length) (lt : xs.length ≤ 1000000) (r : ∀ (i : Nat) x y, xs[i]? = some x → ys[i]? = some y → R H x y) : SmS K R H (.ref p) (.ref q)
  | tup {p q : Addr} {xs ys : List V} (hx : SqT K H p xs) (hy : SqT K H q ys) (l : xs.length = ys.length) (lt : xs.length ≤ 1000000) (r : ∀ (i : Nat) x y, xs[i]? = some x → ys[i]? = some y → R H x y) : SmS K R H (.ref p) (.ref q)
def Sm (K : PySem.W.Frag) : Nat → Hp → V → V → Prop
  | 0 => fun _ _ _ => False
  | n + 1 => SmS K (Sm K n)
def spAl (R : Hp → V → V → Prop) : Sp := fun vs H Q _ => ∃ x y, vs = [x, y] ∧ R H x y ∧ Q (.bl true) H
theorem isiv {K : PySem.W.Frag} {σ : L2.St} {H : Hp} {i : Nat} {x : V} {t c : String} {b : Bool} {Q : VK} (h0 : σ[i]? = some (some x)) (ht : TyX K H x (.type t)) (hb : kitB t c = some b) (q : Q (.bl b) H) : tCB (rIsi K) (tCons (tVar i) (tCons (tC (.ty c)) tNil)) σ H Q :=
  ⟨x, h0, x, .ty c, .type t, .type c, b, rfl, .ty _, ht, kit_ty hb, q⟩
theorem isit {K : PySem.W.Frag} {σ : L2.St} {H : Hp} {i : Nat} {x : V} {t c : String} {b : Bool} {Q : Bool → Hp → Prop} (h0 : σ[i]? = some (some x)) (ht : TyX K H x (.type t)) (hb : kitB t c = some b) (q : Q b H) : tB (tCB (rIsi K) (tCons (tVar i) (tCons (tC (.ty c)) tNil))) σ H Q :=
  isiv h0 ht hb ⟨b, rfl, q⟩
theorem al_step {k : Nat} {R : Hp → V → V → Prop} (T : Top K mg a) (G_l_alike : FnOk P w K mg base CX0 k a.f_l_alike a.d_l_alike ["_law_actual", "_law_due"] (spAl R)) : FnOk P w K mg base CX0 (k + 1) a.f_l_alike a.d_l_alike ["_law_actual", "_law_due"] (spAl (SmS K R)) := by
  refine T.F_l_alike.ok sc_l_alike (fun vs H Q E h => ?_) (fun cdv A outer s H vs Q E hr h => ?_)
  · obtain ⟨x, y, rfl, _⟩ := h
    rfl
  · obtain ⟨x, y, rfl, S, q⟩ := h
    refine ⟨_, (pss_cons (ps_if (pt_cmpR op_isN (pv 1) pe_non (nomark _))
      (pss_one (ps_ret (pe_cmpR op_isN (pv 0) pe_non (nomark _))))
      pss_nil)
    (pss_cons (ps_if (PW.pt (pw_or (pt_val (pe_callB call_isi (by rfl) T.z_isinstance (by decide +kernel) (pa_cons (pv 1) (pa_cons (pe_bltn (v := .ty "bool") (by rfl) T.z_bool (by decide +kernel) rfl) pa_nil)))) (pw_or1 (pt_val (pe_callB call_isi (by rfl) T.z_isinstance (by decide +kernel) (pa_cons (pv 0) (pa_cons (pe_bltn (v := .ty "bool") (by rfl) T.z_bool (by decide +kernel) rfl) pa_nil)))))))
      (pss_one (ps_ret (pe_and (pe_callB call_isi (by rfl) T.z_isinstance (by decide +kernel) (pa_cons (pv 1) (pa_cons (pe_bltn (v := .ty "bool") (by rfl) T.z_bool (by decide +kernel) rfl) pa_nil))) (pe_and (pe_callB call_isi (by rfl) T.z_isinstance (by decide +kernel) (pa_cons (pv 0) (pa_cons (pe_bltn (v := .ty "bool") (by rfl) T.z_bool (by decide +kernel) rfl) pa_nil))) (pe_one (pe_cmpR (OpR.or op_eq (op_eqD hr.units)) (pv 0) (pv 1) (nomark _)))))))
      pss_nil)
    (pss_cons (ps_if (pt_val (pe_callB call_isi (by rfl) T.z_isinstance (by decide +kernel) (pa_cons (pv 1) (pa_cons (pe_bltn (v := .ty "int") (by rfl) T.z_int (by decide +kernel) rfl) pa_nil))))
      (pss_one (ps_ret (pe_and (pe_callB call_isi (by rfl) T.z_isinstance (by decide +kernel) (pa_cons (pv 0) (pa_cons (pe_bltn (v := .ty "int") (by rfl) T.z_int (by decide +kernel) rfl) pa_nil))) (pe_one (pe_cmpR (OpR.or op_eq (op_eqD hr.units)) (pv 0) (pv 1) (nomark _))))))
      pss_nil)
    (pss_cons (ps_if (pt_val (pe_callB call_isi (by rfl) T.z_isinstance (by decide +kernel) (pa_cons (pv 1) (pa_cons (pe_bltn (v := .ty "str") (by rfl) T.z_str (by decide +kernel) rfl) pa_nil))))
      (pss_one (ps_ret (pe_and (pe_callB call_isi (by rfl) T.z_isinstance (by decide +kernel) (pa_cons (pv 0) (pa_cons (pe_bltn (v := .ty "str") (by rfl) T.z_str (by decide +kernel) rfl) pa_nil))) (pe_one (pe_cmpR (OpR.or op_eq (op_eqD hr.units)) (pv 0) (pv 1) (nomark _))))))
      pss_nil)
    (pss_cons (ps_if (pt_val (pe_callB call_isi (by rfl) T.z_isinstance (by decide +kernel) (pa_cons (pv 1) (pa_cons (pe_bltn (v := .ty "list") (by rfl) T.z_list (by decide +kernel) rfl) pa_nil))))
      (pss_one (ps_if (pt_not (pt_val (pe_callB call_isi (by rfl) T.z_isinstance (by decide +kernel) (pa_cons (pv 0) (pa_cons (pe_bltn (v := .ty "list") (by rfl) T.z_list (by decide +kernel) rfl) pa_nil)))))
        (pss_one (ps_ret pe_bl))
        pss_nil))
      (pss_one (ps_if (pt_not (pt_val (pe_callB call_isi (by rfl) T.z_isinstance (by decide +kernel) (pa_cons (pv 0) (pa_cons (pe_bltn (v := .ty "tuple") (by rfl) T.z_tuple (by decide +kernel) rfl) pa_nil)))))
        (pss_one (ps_ret pe_bl))
        pss_nil)))
    (pss_cons (ps_if (pt_cmpR (OpR.or op_ne (op_neD hr.units)) (pe_callB (CallR.or call_len_str call_len_seq) (by rfl) T.z_len (by decide +kernel) (pa_cons (pv 0) pa_nil)) (pe_callB (CallR.or call_len_str call_len_seq) (by rfl) T.z_len (by decide +kernel) (pa_cons (pv 1) pa_nil)) (nomark _))
      (pss_one (ps_ret pe_bl))
      pss_nil)
    (pss_cons (ps_for PassesOwn.never rfl (pi_range1 (by rfl) T.z_range (pa_cons (pe_callB (CallR.or call_len_str call_len_seq) (by rfl) T.z_len (by decide +kernel) (pa_cons (pv 1) pa_nil)) pa_nil)) (pg_name (i := 2) sc_l_alike.nd rfl (.inl rfl))
      (pss_one (ps_if (pt_not (pt_val (pe_call G_l_alike hr (by rfl) T.m_l_alike T.F_l_alike.kp T.b_l_alike .nil pass0 (pa_cons (pe_ix ix_seq (pv 0) (pv 2) (fun _ _ => rfl)) (pa_cons (pe_ix ix_seq (pv 1) (pv 2) (fun _ _ => rfl)) pa_nil)))))
        (pss_one (ps_ret pe_bl))
        pss_nil)))
    (pss_one (ps_ret pe_bl))))))))), ?_⟩
    cases S with
    | non => exact ⟨_, rfl, rfl, _, rfl, iteT ⟨_, rfl, rfl, q⟩⟩
    | bl b =>
      refine ⟨_, rfl, rfl, _, rfl, iteF ?_⟩
      refine isit rfl (.base (.bl b)) (b := true) (by decide +kernel) ?_
      refine isit rfl (.base (.bl b)) (b := true) (by decide +kernel) ?_
      refine isit rfl (.base (.bl b)) (b := true) (by decide +kernel) ?_
      refine ⟨_, rfl, _, rfl, .inl ⟨rfl, ?_⟩⟩
      rw [decide_eq_true rfl]
      exact q
    | int i =>
      refine ⟨_, rfl, rfl, _, rfl, iteF ?_⟩
      refine isit rfl (.base (.int i)) (b := false) (by decide +kernel) ?_
      refine isit rfl (.base (.int i)) (b := false) (by decide +kernel) ?_
      refine isit rfl (.base (.int i)) (b := true) (by decide +kernel) ?_
      refine isit rfl (.base (.int i)) (b := true) (by decide +kernel) ?_
      refine ⟨_, rfl, _, rfl, .inl ⟨rfl, ?_⟩⟩
      rw [decide_eq_true rfl]
      exact q
    | str z =>
      refine ⟨_, rfl, rfl, _, rfl, iteF ?_⟩
      refine isit rfl (.base (.str z)) (b := false) (by decide +kernel) ?_
      refine isit rfl (.base (.str z)) (b := false) (by decide +kernel) ?_
      refine isit rfl (.base (.str z)) (b := false) (by decide +kernel) ?_
      refine isit rfl (.base (.str z)) (b := true) (by decide +kernel) ?_
      refine isit rfl (.base (.str z)) (b := true) (by decide +kernel) ?_
      refine ⟨_, rfl, _, rfl, .inl ⟨rfl, ?_⟩⟩
      rw [decide_eq_true rfl]
      exact q
    | @lst p p' xs ys hx hy l lt r =>
      refine ⟨_, rfl, rfl, _, rfl, iteF ?_⟩
      refine isit rfl (tyx_l hy) (b := false) (by decide +kernel) ?_
      refine isit rfl (tyx_l hx) (b := false) (by decide +kernel) ?_
      refine isit rfl (tyx_l hy) (b := false) (by decide +kernel) ?_
      refine isit rfl (tyx_l hy) (b := false) (by decide +kernel) ?_
      refine isit rfl (tyx_l hy) (b := true) (by decide +kernel) ?_
      refine isit rfl (tyx_l hx) (b := true) (by decide +kernel) ?_
      refine ⟨_, rfl, .inr ⟨p, xs, rfl, .inl hx, _, rfl, .inr ⟨p', ys, rfl, .inl hy, .inl ⟨rfl, _, rfl, ?_⟩⟩⟩⟩
      rw [l]
      refine iteNS rfl ?_
      refine ⟨_, rfl, .inr ⟨p', ys, rfl, .inl hy, _, rfl, by omega, by omega, for_range (lo := 0) (n := ys.length) (fun i σ' H' => ∃ y2, σ' = [some (.ref p), some (.ref p'), y2] ∧ H' = H) ⟨_, rfl, rfl⟩ ?_ ?_⟩⟩
      · rintro i σ' H' hi ⟨y2, rfl, rfl⟩
        have h1 : xs[i]? = some xs[i] := List.getElem?_eq_getElem (by omega)
        have h2 : ys[i]? = some ys[i] := List.getElem?_eq_getElem hi
        rw [Int.zero_add]
        refine ⟨_, rfl, _, rfl, .inl ⟨p, xs, i, xs[i], rfl, rfl, hx, atI_nat h1, ?_⟩⟩
        refine ⟨_, rfl, _, rfl, .inl ⟨p', ys, i, ys[i], rfl, rfl, hy, atI_nat h2, ?_⟩⟩
        exact ⟨_, _, rfl, r i _ _ h1 h2, _, rfl, _, rfl, rfl⟩
      · rintro σ' H' ⟨y2, rfl, rfl⟩
        exact q
    | @tup p p' xs ys hx hy l lt r =>
      refine ⟨_, rfl, rfl, _, rfl, iteF ?_⟩
      refine isit rfl (tyx_t hy) (b := false) (by decide +kernel) ?_
      refine isit rfl (tyx_t hx) (b := false) (by decide +kernel) ?_
      refine isit rfl (tyx_t hy) (b := false) (by decide +kernel) ?_
      refine isit rfl (tyx_t hy) (b := false) (by decide +kernel) ?_
      refine isit rfl (tyx_t hy) (b := false) (by decide +kernel) ?_
      refine isit rfl (tyx_t hx) (b := true) (by decide +kernel) ?_
      refine ⟨_, rfl, .inr ⟨p, xs, rfl, .inr hx, _, rfl, .inr ⟨p', ys, rfl, .inr hy, .inl ⟨rfl, _, rfl, ?_⟩⟩⟩⟩
      rw [l]
      refine iteNS rfl ?_
      refine ⟨_, rfl, .inr ⟨p', ys, rfl, .inr hy, _, rfl, by omega, by omega, for_range (lo := 0) (n := ys.length) (fun i σ' H' => ∃ y2, σ' = [some (.ref p), some (.ref p'), y2] ∧ H' = H) ⟨_, rfl, rfl⟩ ?_ ?_⟩⟩
      · rintro i σ' H' hi ⟨y2, rfl, rfl⟩
        have h1 : xs[i]? = some xs[i] := List.getElem?_eq_getElem (by omega)
        have h2 : ys[i]? = some ys[i] := List.getElem?_eq_getElem hi
        rw [Int.zero_add]
        refine ⟨_, rfl, _, rfl, .inr (.inl ⟨p, xs, i, xs[i], rfl, rfl, hx, atI_nat h1, ?_⟩)⟩
        refine ⟨_, rfl, _, rfl, .inr (.inl ⟨p', ys, i, ys[i], rfl, rfl, hy, atI_nat h2, ?_⟩)⟩
        exact ⟨_, _, rfl, r i _ _ h1 h2, _, rfl, _, rfl, rfl⟩
      · rintro σ' H' ⟨y2, rfl, rfl⟩
        exact q
theorem ok_alike (T : Top K mg a) : ∀ n, FnOk P w K mg base CX0 n a.f_l_alike a.d_l_alike ["_law_actual", "_law_due"] (spAl (Sm K n))
  | 0 => ⟨fun vs H Q E h => by
      obtain ⟨x, y, rfl, h, _⟩ := h
      exact h.elim, fun A outer s H args us vs Q E hr he hb hv h => by
      obtain ⟨x, y, rfl, h, _⟩ := h
      exact h.elim⟩
  | n + 1 => al_step T (ok_alike T n)
end
end K28

/-! rows as data -/
namespace K28
open PySem PySem.Spec PyProof.Rows L2 RN
theorem Same.mut {H H' : Hp} {p : Addr} {o : HO} (e : Same H H') (h : H p = none) : Same H (upd H' p o) := fun b u hb => by
  rw [upd_ne (ne_of_none hb h)]
  exact e b u hb
theorem Kp.same {st : Addr} {H H1 H2 : Hp} (k : Kp st H H1) (h : Same H1 H2) : Kp st H H2 := fun b o n e => h _ _ (k b o n e)
theorem Kp.new {st p : Addr} {H H' : Hp} {o : HO} (k : Kp st H H') (h : H' p = none) : Kp st H (upd H' p o) := fun b u n e => by
  have := k b u n e
  rw [upd_ne (ne_of_none this h)]
  exact this
theorem Kp.mut {st p : Addr} {H H' : Hp} {o : HO} (k : Kp st H H') (h : H p = none) : Kp st H (upd H' p o) := fun b u n e => by
  rw [upd_ne (ne_of_none e h)]
  exact k b u n e
theorem Same.tk {H H' : Hp} (h : Same H H') : Tk H H' := tk_all h
mutual
def wl : PyData → Nat
  | .list ds => ds.length + wlAll ds
  | .tuple ds => ds.length + wlAll ds
  | .none => 0
  | .bool _ => 0
  | .int _ => 0
  | .str _ => 0
  | .dict _ => 0
def wlAll : List PyData → Nat
  | [] => 0
  | d :: ds => wl d + wlAll ds
end
/-! ### alike of equal data -/
theorem dps_le {K : PySem.W.Frag} {H : Hp} : ∀ {ds : List PyData} {xs : List V}, DpAll K H xs ds → xs.length = ds.length
  | [], _, h => by cases h; rfl
  | d :: ds, _, h => by
    cases h with
    | cons a b => rw [List.length_cons, List.length_cons, dps_le b]
mutual
theorem sm_dp {K : PySem.W.Frag} {H : Hp} : ∀ (d : PyData) (n : Nat) (x y : V), Dp K H x d → Dp K H y d → d.depth < n → wl d ≤ 1000000 → Sm K n H x y
  | _, 0, _, _, _, _, h, _ => absurd h (Nat.not_lt_zero _)
  | .none, n + 1, _, _, hx, hy, _, _ => by cases hx; cases hy; exact .non
  | .bool _, n + 1, _, _, hx, hy, _, _ => by cases hx; cases hy; exact .bl _
  | .int _, n + 1, _, _, hx, hy, _, _ => by cases hx; cases hy; exact .int _
  | .str _, n + 1, _, _, hx, hy, _, _ => by cases hx; cases hy; exact .str _
  | .list ds, n + 1, _, _, hx, hy, hd, hw => by
    cases hx with
    | lst hp ha =>
      cases hy with
      | lst hq hb =>
        have hd' : PyData.depthAll ds + 1 < n + 1 := hd
        have hw' : ds.length + wlAll ds ≤ 1000000 := hw
        obtain ⟨l1, f⟩ := sm_dps ds n _ _ ha hb (by omega) (by omega)
        exact .lst hp hq l1 (by rw [dps_le ha]; omega) f
  | .tuple ds, n + 1, _, _, hx, hy, hd, hw => by
    cases hx with
    | tup hp ha =>
      cases hy with
      | tup hq hb =>
        have hd' : PyData.depthAll ds + 1 < n + 1 := hd
        have hw' : ds.length + wlAll ds ≤ 1000000 := hw
        obtain ⟨l1, f⟩ := sm_dps ds n _ _ ha hb (by omega) (by omega)
        exact .tup hp hq l1 (by rw [dps_le ha]; omega) f
  | .dict _, n + 1, _, _, hx, _, _, _ => by cases hx
theorem sm_dps {K : PySem.W.Frag} {H : Hp} : ∀ (ds : List PyData) (n : Nat) (xs ys : List V), DpAll K H xs ds → DpAll K H ys ds → PyData.depthAll ds < n → wlAll ds ≤ 1000000 →
    xs.length = ys.length ∧ ∀ (i : Nat) x y, xs[i]? = some x → ys[i]? = some y → Sm K n H x y
  | [], _, _, _, ha, hb, _, _ => by cases ha; cases hb; exact ⟨rfl, fun i x y h => by simp at h⟩
  | d :: ds, n, _, _, ha, hb, hd, hw => by
    cases ha with
    | cons a1 a2 =>
      cases hb with
      | cons b1 b2 =>
        have hd' : max (PyData.depth d) (PyData.depthAll ds) < n := hd
        have hw' : wl d + wlAll ds ≤ 1000000 := hw
        obtain ⟨l1, f⟩ := sm_dps ds n _ _ a2 b2 (by omega) (by omega)
        refine ⟨by simp [l1], fun i x y hx hy => ?_⟩
        cases i with
        | zero => cases hx; cases hy; exact sm_dp d n _ _ a1 b1 (by omega) (by omega)
        | succ i => exact f i x y (by simpa using hx) (by simpa using hy)
end
section
variable {K : PySem.W.Frag} {H H' : Hp}
theorem dps_tk (t : Tk H H') : ∀ {ds : List PyData} {xs : List V}, DpAll K H xs ds → (∀ d ∈ ds, RN.kb d = true) → DpAll K H' xs ds
  | [], _, h, _ => by cases h; exact .nil
  | d :: ds, _, h, k => by
    cases h with
    | cons a b => exact .cons (dp_tk t _ _ a (k d List.mem_cons_self)) (dps_tk t b fun x hx => k x (List.mem_cons_of_mem _ hx))
theorem dps_at : ∀ {ds : List PyData} {xs : List V} {i : Nat} {x : V}, DpAll K H xs ds → xs[i]? = some x → ∃ d, ds[i]? = some d ∧ Dp K H x d
  | [], _, i, x, h, e => by cases h; simp at e
  | d :: ds, _, i, x, h, e => by
    cases h with
    | cons a b =>
      cases i with
      | zero => cases e; exact ⟨d, rfl, a⟩
      | succ i => exact dps_at (i := i) b (by simpa using e)
theorem dps_ix : ∀ {ds : List PyData} {xs : List V} {i : Nat} {d : PyData}, DpAll K H xs ds → ds[i]? = some d → ∃ x, xs[i]? = some x ∧ Dp K H x d
  | [], _, i, x, h, e => by cases h; simp at e
  | d :: ds, _, i, x, h, e => by
    cases h with
    | cons a b =>
      cases i with
      | zero => cases e; exact ⟨_, rfl, a⟩
      | succ i => exact dps_ix (i := i) b (by simpa using e)
theorem dps_app : ∀ {ds es : List PyData} {xs ys : List V}, DpAll K H xs ds → DpAll K H ys es → DpAll K H (xs ++ ys) (ds ++ es)
  | [], _, _, _, h, g => by cases h; exact g
  | d :: ds, _, _, _, h, g => by
    cases h with
    | cons a b => exact .cons a (dps_app b g)
theorem dps_take : ∀ {ds : List PyData} {xs : List V} (n : Nat), DpAll K H xs ds → DpAll K H (xs.take n) (ds.take n)
  | _, _, 0, _ => .nil
  | [], _, n + 1, h => by cases h; exact .nil
  | d :: ds, _, n + 1, h => by
    cases h with
    | cons a b => exact .cons a (dps_take n b)
end
inductive Sc : PyData → Prop where
  | int (i : Int) : Sc (.int i)
  | bool (b : Bool) : Sc (.bool b)
  | str (s : Str) : Sc (.str s)
inductive MvK : PyData → Prop where
  | non : MvK .none
  | int (i : Int) : MvK (.int i)
  | str (s : Str) : MvK (.str s)
  | tup (ds : List PyData) (h : ds.length ≠ 4) : MvK (.tuple ds)
  | four (w : Str) (x y a : PyData) (hx : Sc x) (hy : Sc y) : MvK (.tuple [.str w, x, y, a])
/-- a row moved on -/
def mv (n : Int) : PyData → PyData
  | .tuple [.str w, .int i, .int j, a] => if w = ("resolve" : Str) then .tuple [.str w, .int (i + n), .int (j + n), a] else .tuple [.str w, .int i, .int j, a]
  | d => d
theorem mv_tup (n : Int) {ds : List PyData} (h : ds.length ≠ 4) : mv n (.tuple ds) = .tuple ds := by
  unfold mv
  split
  · rename_i e
    cases e
    exact absurd rfl h
  · rfl
structure Ro (d : PyData) : Prop where
  kb : RN.kb d = true
  dep : d.depth ≤ 8
  cl : d.canLay0 = true
  wt : wl d ≤ 200
  fm : MvK d
theorem Ro.mv {d : PyData} (n : Int) (h : Ro d) : Ro (mv n d) := by
  obtain ⟨h1, h2, h3, h4, h5⟩ := h
  cases h5 with
  | non => exact ⟨h1, h2, h3, h4, .non⟩
  | int i => exact ⟨h1, h2, h3, h4, .int i⟩
  | str s => exact ⟨h1, h2, h3, h4, .str s⟩
  | tup ds q => rw [mv_tup n q]; exact ⟨h1, h2, h3, h4, .tup ds q⟩
  | four w x y a hx hy =>
    have same : K28.mv n (.tuple [.str w, x, y, a]) = .tuple [.str w, x, y, a] → Ro (K28.mv n (.tuple [.str w, x, y, a])) := fun e => by rw [e]; exact ⟨h1, h2, h3, h4, .four w x y a hx hy⟩
    cases hx with
    | bool b => exact same rfl
    | str s => exact same rfl
    | int i =>
      cases hy with
      | bool b => exact same rfl
      | str s => exact same rfl
      | int j =>
        by_cases c : w = ("resolve" : Str)
        · have e : K28.mv n (.tuple [.str w, .int i, .int j, a]) = .tuple [.str w, .int (i + n), .int (j + n), a] := by
            show (if w = ("resolve" : Str) then _ else _) = _
            rw [if_pos c]
          rw [e]
          exact ⟨h1, h2, h3, h4, .four w _ _ a (.int _) (.int _)⟩
        · exact same (by show (if w = ("resolve" : Str) then _ else _) = _; rw [if_neg c])
def RoA (ds : List PyData) : Prop := ∀ d ∈ ds, Ro d
theorem RoA.kb {ds : List PyData} (h : RoA ds) : ∀ d ∈ ds, RN.kb d = true := fun d hd => (h d hd).kb
theorem RoA.mv {ds : List PyData} (n : Int) (h : RoA ds) : RoA (ds.map (mv n)) := fun d hd => by
  obtain ⟨x, hx, rfl⟩ := List.mem_map.mp hd
  exact (h x hx).mv n
theorem RoA.app {ds es : List PyData} (h : RoA ds) (g : RoA es) : RoA (ds ++ es) := fun d hd => (List.mem_append.mp hd).elim (h d) (g d)
theorem roa_tup {ds : List PyData} (h : RoA ds) : RN.kb (.tuple ds) = true ∧ PyData.depthAll ds ≤ 8 ∧ PyData.canLayAll0 ds = true ∧ wlAll ds ≤ 200 * ds.length := by
  induction ds with
  | nil => exact ⟨rfl, Nat.zero_le _, rfl, Nat.zero_le _⟩
  | cons d ds ih =>
    obtain ⟨a1, a2, a3, a4⟩ := ih fun x hx => h x (List.mem_cons_of_mem _ hx)
    have hd := h d List.mem_cons_self
    refine ⟨?_, ?_, ?_, ?_⟩
    · show (RN.kb d && RN.kb (.tuple ds)) = true
      rw [hd.kb, a1]; rfl
    · show max d.depth (PyData.depthAll ds) ≤ 8
      have := hd.dep
      omega
    · show (d.canLay0 && PyData.canLayAll0 ds) = true
      rw [hd.cl, a3]; rfl
    · show wl d + wlAll ds ≤ 200 * (ds.length + 1)
      have := hd.wt
      omega
theorem roa_shaped {ds : List PyData} (h : RoA ds) : SeqAt.shaped (.tuple ds) = true := by
  obtain ⟨a1, a2, a3, a4⟩ := roa_tup h
  have c : (PyData.tuple ds).depth ≤ 64 := by
    show PyData.depthAll ds + 1 ≤ 64
    omega
  unfold SeqAt.shaped
  rw [show (PyData.tuple ds).canLay0 = true from a3, decide_eq_true c]; rfl
/-- a list of rows, a tuple of rows -/
def LsIs (K : PySem.W.Frag) (H : Hp) (p : Addr) (ds : List PyData) : Prop := ∃ vs, H p = some (.lst vs) ∧ DpAll K H vs ds
theorem LsIs.same {K : PySem.W.Frag} {H H' : Hp} {p : Addr} {ds : List PyData} (r : RoA ds) (s : Same H H') (h : LsIs K H p ds) : LsIs K H' p ds := let ⟨vs, h1, h2⟩ := h; ⟨vs, s _ _ h1, dps_tk (Same.tk s) h2 r.kb⟩
theorem LsIs.dp {K : PySem.W.Frag} {H : Hp} {p : Addr} {ds : List PyData} (h : LsIs K H p ds) : Dp K H (.ref p) (.list ds) := let ⟨vs, h1, h2⟩ := h; .lst (.of h1) h2
theorem sm_rows {K : PySem.W.Frag} {H : Hp} {x y : V} {ds : List PyData} (r : RoA ds) (l : ds.length ≤ 100) (h : Dp K H x (.tuple ds)) (g : Dp K H y (.tuple ds)) : Sm K 30 H x y := by
  obtain ⟨_, a2, _, a4⟩ := roa_tup r
  refine sm_dp (.tuple ds) 30 _ _ h g ?_ ?_
  · show PyData.depthAll ds + 1 < 30
    omega
  · show ds.length + wlAll ds ≤ 1000000
    omega
theorem sm_list {K : PySem.W.Frag} {H : Hp} {x y : V} {ds : List PyData} (r : RoA ds) (l : ds.length ≤ 100) (h : Dp K H x (.list ds)) (g : Dp K H y (.list ds)) : Sm K 30 H x y := by
  obtain ⟨_, a2, _, a4⟩ := roa_tup r
  refine sm_dp (.list ds) 30 _ _ h g ?_ ?_
  · show PyData.depthAll ds + 1 < 30
    omega
  · show ds.length + wlAll ds ≤ 1000000
    omega
end K28


/-! rows moved on -/
namespace K28
open PySem PySem.Spec PyProof.Rows L2 RN
section
variable {P : Program} {w : World} {K : PySem.W.Frag} {mg : Str → Option Value} {base : Heap} {a : Ad}
def isI : PyData → Bool
  | .int _ => true
  | _ => false
/-- the types of scalars -/
theorem sc_ty {H : Hp} {x : V} {d : PyData} (h : Dp K H x d) (s : Sc d) : ∃ (t : String) (b c : Bool), TyX K H x (.type t) ∧ kitB t "int" = some b ∧ kitB t "bool" = some c ∧ (b && !c) = isI d := by
  cases s with
  | int i => cases h; exact ⟨_, true, false, .base (.int i), by decide +kernel, by decide +kernel, rfl⟩
  | bool b => cases h; exact ⟨_, true, true, .base (.bl b), by decide +kernel, by decide +kernel, rfl⟩
  | str z => cases h; exact ⟨_, false, false, .base (.str z), by decide +kernel, by decide +kernel, rfl⟩
def spI (K : PySem.W.Frag) : Sp := fun vs H Q _ => ∃ (x : V) (d : PyData), vs = [x] ∧ Sc d ∧ Dp K H x d ∧ Q (.bl (isI d)) H
theorem isI_of {H : Hp} {Q : VK} {E : XK} {vs : List V} (h : spI K vs H Q E) : spIsInt K vs H Q E := by
  obtain ⟨x, d, rfl, s, hd, q⟩ := h
  obtain ⟨t, b, c, h1, h2, h3, h4⟩ := sc_ty hd s
  exact ⟨x, t, b, c, rfl, h1, h2, h3, by rw [h4]; exact q⟩
theorem ok_l_is_whole (T : Top K mg a) : FnOk P w K mg base CX0 1 a.f_l_is_whole a.d_l_is_whole ["_law_value_here"] (spIsInt K) := by
  refine T.F_l_is_whole.ok sc_l_is_whole (fun vs H Q E h => ?_) (fun cdv A outer s H vs Q E hr h => ?_)
  · obtain ⟨x, t, b, c, rfl, _⟩ := h
    rfl
  · obtain ⟨x, t, b, c, rfl, ht, hb, hc, q⟩ := h
    refine ⟨_, (pss_one (ps_ret (pe_and (pe_callB call_isi (by rfl) T.z_isinstance (by decide +kernel) (pa_cons (pv 0) (pa_cons (pe_bltn (v := .ty "int") (by rfl) T.z_int (by decide +kernel) rfl) pa_nil))) (pe_one (pe_not (pe_callB call_isi (by rfl) T.z_isinstance (by decide +kernel) (pa_cons (pv 0) (pa_cons (pe_bltn (v := .ty "bool") (by rfl) T.z_bool (by decide +kernel) rfl) pa_nil)))))))), ?_⟩
    refine ⟨x, rfl, x, .ty "int", .type t, .type "int", b, rfl, .ty _, ht, kit_ty hb, b, rfl, ?_⟩
    cases b with
    | false => exact q
    | true =>
      refine iteT ⟨x, rfl, x, .ty "bool", .type t, .type "bool", c, rfl, .ty _, ht, kit_ty hc, c, rfl, ?_⟩
      simpa using q
def spMoved (K : PySem.W.Frag) : Sp := fun vs H Q _ => ∃ (x : V) (d : PyData) (n : Int), vs = [x, .int n] ∧ Ro d ∧ Dp K H x d ∧ ∀ y H', Same H H' → Dp K H' y (mv n d) → Q y H'
theorem ok_moved (T : Top K mg a) (G_is_int : FnOk P w K mg base CX0 1 a.f_is_int a.d_is_int ["value"] (spIsInt K)) : FnOk P w K mg base CX0 2 a.f_moved a.d_moved ["row", "by"] (spMoved K) := by
  refine T.F_moved.ok sc_moved (fun vs H Q E h => ?_) (fun cdv A outer s H vs Q E hr h => ?_)
  · obtain ⟨_, _, _, rfl, _⟩ := h
    rfl
  · obtain ⟨x, d, n, rfl, ro, hx, q⟩ := h
    refine ⟨_, (C8.pss_cut (ps_if (PW.pt (pw_or (pt_not (pt_val (pe_callB call_isi (by rfl) T.z_isinstance (by decide +kernel) (pa_cons (pv 0) (pa_cons (pe_bltn (v := .ty "tuple") (by rfl) T.z_tuple (by decide +kernel) rfl) pa_nil))))) (pw_or (pt_cmpR (OpR.or op_ne (op_neD hr.units)) (pe_callB (CallR.or call_len_str call_len_seq) (by rfl) T.z_len (by decide +kernel) (pa_cons (pv 0) pa_nil)) pe_int (nomark _)) (pw_or1 (pt_cmpR (OpR.or op_ne (op_neD hr.units)) (pe_ix ix_seq (pv 0) pe_int (fun _ _ => rfl)) pe_str (nomark _))))))
      (pss_one (ps_ret (pv 0)))
      pss_nil)
    (pss_cons (ps_asg (pv 0) (pg_tup rfl (pgs_cons (pg_name (i := 2) sc_moved.nd rfl (.inl rfl)) (pgs_cons (pg_name (i := 3) sc_moved.nd rfl (.inl rfl)) (pgs_cons (pg_name (i := 4) sc_moved.nd rfl (.inl rfl)) (pgs_cons (pg_name (i := 5) sc_moved.nd rfl (.inl rfl)) pgs_nil))))))
    (pss_one (ps_ret (pe_ifExp (PW.pt (pw_and (pt_val (pe_call G_is_int (hr.mono (by decide)) (by rfl) T.m_is_int T.F_is_int.kp T.b_is_int .nil pass0 (pa_cons (pv 3) pa_nil))) (pw_and1 (pt_val (pe_call G_is_int (hr.mono (by decide)) (by rfl) T.m_is_int T.F_is_int.kp T.b_is_int .nil pass0 (pa_cons (pv 4) pa_nil)))))) (pe_tup (pa_cons (pv 2) (pa_cons (pe_op op_add (pv 3) (pv 1)) (pa_cons (pe_op op_add (pv 4) (pv 1)) (pa_cons (pv 5) pa_nil))))) (pv 0)))))), ?_⟩
    have cnt : ∀ {H'}, Same H H' → mv n d = d → Q x H' := fun s e => q x _ s (by rw [e]; exact dp_tk (Same.tk s) _ _ hx ro.kb)
    refine ⟨fun σ' H' => σ' = [some x, some (.int n), none, none, none, none] ∧ H' = H ∧ ∃ u v z, d = .tuple [.str "resolve", u, v, z] ∧ Sc u ∧ Sc v, ?_, ?_⟩
    · have fm := ro.fm
      cases fm with
      | non => cases hx; exact isit rfl (.base .non) (b := false) (by decide +kernel) (iteT (iteT ⟨_, rfl, cnt (Same.refl _) rfl⟩))
      | int i => cases hx; exact isit rfl (.base (.int i)) (b := false) (by decide +kernel) (iteT (iteT ⟨_, rfl, cnt (Same.refl _) rfl⟩))
      | str z => cases hx; exact isit rfl (.base (.str z)) (b := false) (by decide +kernel) (iteT (iteT ⟨_, rfl, cnt (Same.refl _) rfl⟩))
      | tup ds h4 =>
        obtain ⟨t, xs, rfl, ht, hds⟩ : ∃ t xs, x = .ref t ∧ SqT K H t xs ∧ DpAll K H xs ds := by
          cases hx with
          | tup h1 h2 => exact ⟨_, _, rfl, h1, h2⟩
        have l := dps_le hds
        refine isit rfl (tyx_t ht) (b := true) (by decide +kernel) (iteF ?_)
        refine ⟨_, rfl, .inr ⟨t, xs, rfl, .inr ht, .inl ⟨rfl, _, rfl, ?_⟩⟩⟩
        rw [decide_eq_false (fun z => by have := V.int.inj z; omega)]
        exact iteT (iteT ⟨_, rfl, cnt (Same.refl _) (mv_tup n h4)⟩)
      | four w0 u v z hu hv =>
        obtain ⟨t, xs, rfl, ht, hds⟩ : ∃ t xs, x = .ref t ∧ SqT K H t xs ∧ DpAll K H xs [.str w0, u, v, z] := by
          cases hx with
          | tup h1 h2 => exact ⟨_, _, rfl, h1, h2⟩
        have l := dps_le hds
        obtain ⟨x0, g0, d0⟩ := dps_ix hds (i := 0) rfl
        cases d0
        refine isit rfl (tyx_t ht) (b := true) (by decide +kernel) (iteF ?_)
        refine ⟨_, rfl, .inr ⟨t, xs, rfl, .inr ht, .inl ⟨rfl, _, rfl, ?_⟩⟩⟩
        rw [decide_eq_true (show V.int (xs.length : Int) = V.int 4 by rw [l]; rfl)]
        refine iteF ⟨_, rfl, .inr (.inl ⟨t, xs, ((0 : Nat) : Int), .str w0, rfl, rfl, ht, atI_nat g0, .inl ⟨rfl, _, rfl, ?_⟩⟩)⟩
        by_cases c : w0 = ("resolve" : Str)
        · subst c
          rw [decide_eq_true rfl]
          exact iteF ⟨rfl, rfl, u, v, z, rfl, hu, hv⟩
        · rw [decide_eq_false (fun e => c (V.str.inj e))]
          refine iteT ⟨_, rfl, cnt (Same.refl _) ?_⟩
          cases hu with
          | bool b => rfl
          | str s => rfl
          | int i =>
            cases hv with
            | bool b => rfl
            | str s => rfl
            | int j => show (if w0 = ("resolve" : Str) then _ else _) = _; rw [if_neg c]
    · rintro σ' H' ⟨rfl, rfl, u, v, z, rfl, hu, hv⟩
      obtain ⟨t, xs, rfl, ht, hds⟩ : ∃ t xs, x = .ref t ∧ SqT K H' t xs ∧ DpAll K H' xs [.str "resolve", u, v, z] := by
        cases hx with
        | tup h1 h2 => exact ⟨_, _, rfl, h1, h2⟩
      obtain ⟨x0, x1, x2, x3, rfl, d0, d1, d2, d3⟩ : ∃ x0 x1 x2 x3, xs = [x0, x1, x2, x3] ∧ Dp K H' x0 (.str "resolve") ∧ Dp K H' x1 u ∧ Dp K H' x2 v ∧ Dp K H' x3 z := by
        cases hds with
        | cons a0 r =>
          cases r with
          | cons a1 r =>
            cases r with
            | cons a2 r =>
              cases r with
              | cons a3 r => cases r; exact ⟨_, _, _, _, rfl, a0, a1, a2, a3⟩
      cases d0
      refine ⟨_, rfl, t, _, rfl, ht, rfl, _, _, rfl, _, _, rfl, _, _, rfl, _, _, rfl, rfl, ?_⟩
      refine ⟨x1, rfl, ?_⟩
      dsimp only [tNil, List.cons_append, List.nil_append]
      refine isI_of ⟨x1, u, rfl, hu, d1, _, rfl, ?_⟩
      have no : mv n (.tuple [.str "resolve", u, v, z]) = .tuple [.str "resolve", u, v, z] → Q (.ref t) H' := fun e => cnt (Same.refl _) e
      cases hu with
      | bool b => exact iteF ⟨_, rfl, no rfl⟩
      | str s => exact iteF ⟨_, rfl, no rfl⟩
      | int i =>
        refine iteT ⟨x2, rfl, ?_⟩
        dsimp only [tNil, List.cons_append, List.nil_append]
        refine isI_of ⟨x2, v, rfl, hv, d2, _, rfl, ?_⟩
        cases hv with
        | bool b => exact iteF ⟨_, rfl, no rfl⟩
        | str s => exact iteF ⟨_, rfl, no rfl⟩
        | int j =>
          cases d1
          cases d2
          refine iteT ⟨_, rfl, _, rfl, _, rfl, i, n, rfl, rfl, _, rfl, _, rfl, j, n, rfl, rfl, _, rfl, Nat.le_of_lt (small1000 (by simp)), fun p np => q (.ref p) _ (same_upd np) ?_⟩
          have e : mv n (.tuple [.str "resolve", .int i, .int j, z]) = .tuple [.str "resolve", .int (i + n), .int (j + n), z] := rfl
          rw [e]
          have kz : RN.kb z = true := by
            have h : (true && (true && (true && (RN.kb z && true)))) = true := ro.kb
            simpa using h
          exact .tup (.of upd_same) (.cons (.str _) (.cons (.int _) (.cons (.int _) (.cons (dp_tk (tk_new np) _ _ d3 kz) .nil))))
def spLMoved (K : PySem.W.Frag) : Sp := fun vs H Q _ => ∃ (rl : Addr) (ds : List PyData) (n : Int), vs = [.ref rl, .int n] ∧ RoA ds ∧ ds.length ≤ 100 ∧ LsIs K H rl ds ∧ ∀ p H', H p = none → Same H H' → LsIs K H' p (ds.map (mv n)) → Q (.ref p) H'
theorem ok_l_moved (T : Top K mg a) (G_l_is_whole : FnOk P w K mg base CX0 1 a.f_l_is_whole a.d_l_is_whole ["_law_value_here"] (spIsInt K)) : FnOk P w K mg base CX0 2 a.f_l_moved a.d_l_moved ["_law_rows", "_law_steps"] (spLMoved K) := by
  refine T.F_l_moved.ok sc_l_moved (fun vs H Q E h => ?_) (fun cdv A outer s H vs Q E hr h => ?_)
  · obtain ⟨_, _, _, rfl, _⟩ := h
    rfl
  · obtain ⟨rl, ds, n, rfl, ro, hl, ⟨ys, hrl, hds⟩, q⟩ := h
    refine ⟨_, (pss_cons (ps_set (i := 2) sc_l_moved.nd rfl (.inl rfl) (pe_lst pa_nil))
    (pss_cons (ps_for PassesOwn.never rfl (pi_list (pv 0)) (pg_name (i := 3) sc_l_moved.nd rfl (.inl rfl))
      (pss_cons (ps_set (i := 4) sc_l_moved.nd rfl (.inl rfl) (pe_and (pe_callB call_isi (by rfl) T.z_isinstance (by decide +kernel) (pa_cons (pv 3) (pa_cons (pe_bltn (v := .ty "tuple") (by rfl) T.z_tuple (by decide +kernel) rfl) pa_nil))) (pe_and (pe_cmpR (OpR.or op_eq (op_eqD hr.units)) (pe_callB (CallR.or call_len_str call_len_seq) (by rfl) T.z_len (by decide +kernel) (pa_cons (pv 3) pa_nil)) pe_int (nomark _)) (pe_one (pe_cmpR (OpR.or op_eq (op_eqD hr.units)) (pe_ix ix_seq (pv 3) pe_int (fun _ _ => rfl)) pe_str (nomark _))))))
      (pss_one (ps_if (PW.pt (pw_and (pt_val (pv 4)) (pw_and (pt_val (pe_call G_l_is_whole (hr.mono (by decide)) (by rfl) T.m_l_is_whole T.F_l_is_whole.kp T.b_l_is_whole .nil pass0 (pa_cons (pe_ix ix_seq (pv 3) pe_int (fun _ _ => rfl)) pa_nil))) (pw_and1 (pt_val (pe_call G_l_is_whole (hr.mono (by decide)) (by rfl) T.m_l_is_whole T.F_l_is_whole.kp T.b_l_is_whole .nil pass0 (pa_cons (pe_ix ix_seq (pv 3) pe_int (fun _ _ => rfl)) pa_nil)))))))
        (pss_one (ps_expr (pe_bm PySem.F.plainAttrs_list PySem.F.slot_list_append PySem.F.type_list_append mt_append (pv 2) (pa_cons (pe_tup (pa_cons pe_str (pa_cons (pe_op op_add (pe_ix ix_seq (pv 3) pe_int (fun _ _ => rfl)) (pv 1)) (pa_cons (pe_op op_add (pe_ix ix_seq (pv 3) pe_int (fun _ _ => rfl)) (pv 1)) (pa_cons (pe_ix ix_seq (pv 3) pe_int (fun _ _ => rfl)) pa_nil))))) pa_nil))))
        (pss_one (ps_expr (pe_bm PySem.F.plainAttrs_list PySem.F.slot_list_append PySem.F.type_list_append mt_append (pv 2) (pa_cons (pv 3) pa_nil))))))))
    (pss_one (ps_ret (pv 2))))), ?_⟩
    have ly := dps_le hds
    refine ⟨Nat.zero_le _, fun D nD => ?_⟩
    have s1 := same_upd (o := .lst []) nD
    have hD : (upd H D (.lst [])) D = some (.lst []) := upd_same
    generalize upd H D (.lst []) = H1 at s1 hD ⊢
    refine ⟨.ref rl, rfl, rl, rfl, ⟨_, .of (s1 _ _ hrl)⟩, for_it (walk_list (xs := ys)) (fun i σ' H' => ∃ y3 y4, σ' = [some (.ref rl), some (.int n), some (.ref D), y3, y4] ∧ Same H H' ∧ LsIs K H' D ((ds.take i).map (mv n))) ⟨_, _, rfl, s1, [], hD, .nil⟩ (fun i σ' H' _ h => by obtain ⟨_, _, _, h, _⟩ := h; exact .of (h _ _ hrl)) ?_ ?_⟩
    · rintro i x σ' _ H2 hi ⟨y3, y4, rfl, s2, acc, hD2, hA2⟩ ⟨rfl, hxi⟩
      obtain ⟨d, gd, hx0⟩ := dps_at hds hxi
      have rd := ro d (List.mem_of_getElem? gd)
      have hx := dp_tk (Same.tk s2) _ _ hx0 rd.kb
      have et : (ds.take (i + 1)).map (mv n) = (ds.take i).map (mv n) ++ [mv n d] := by rw [List.take_add_one, gd, List.map_append]; rfl
      have la : acc.length ≤ 1000 := by
        have := dps_le hA2
        rw [List.length_map, List.length_take] at this
        omega
      have roA : RoA ((ds.take i).map (mv n)) := RoA.mv n fun d hd => ro d (List.mem_of_mem_take hd)
      have put : ∀ {y : V} {H3 : Hp}, Same H2 H3 → Dp K H3 y (mv n d) → Same H (upd H3 D (.lst (acc ++ [y]))) ∧ LsIs K (upd H3 D (.lst (acc ++ [y]))) D ((ds.take (i + 1)).map (mv n)) := fun {y} {H3} s3 hy => by
        have tD : Tk H3 (upd H3 D (.lst (acc ++ [y]))) := tk_upd (s3 _ _ hD2) True.intro
        refine ⟨K28.Same.mut (s2.trans s3) nD, _, upd_same, ?_⟩
        rw [et]
        exact dps_app (dps_tk ((Same.tk s3).trans tD) hA2 roA.kb) (.cons (dp_tk tD _ _ hy (rd.mv n).kb) .nil)
      have fm := rd.fm
      have no : mv n d = d → ∀ v4 : V, (∃ y3 y4, [some (V.ref rl), some (.int n), some (.ref D), some x, some v4] = [some (.ref rl), some (.int n), some (.ref D), y3, y4] ∧ Same H (upd H2 D (.lst (acc ++ [x]))) ∧ LsIs K (upd H2 D (.lst (acc ++ [x]))) D ((ds.take (i + 1)).map (mv n))) := fun e v4 => ⟨_, _, rfl, put (Same.refl _) (by rw [e]; exact hx)⟩
      clear hx0 gd
      cases fm with
      | non => cases hx; exact isiv rfl (.base .non) (b := false) (by decide +kernel) ⟨_, rfl, iteF ⟨_, rfl, _, rfl, iteF ⟨.ref D, rfl, .inl ⟨rfl, acc, .of hD2⟩, _, rfl, D, acc, _, rfl, rfl, hD2, small1000 la, no rfl _⟩⟩⟩
      | int k => cases hx; exact isiv rfl (.base (.int k)) (b := false) (by decide +kernel) ⟨_, rfl, iteF ⟨_, rfl, _, rfl, iteF ⟨.ref D, rfl, .inl ⟨rfl, acc, .of hD2⟩, _, rfl, D, acc, _, rfl, rfl, hD2, small1000 la, no rfl _⟩⟩⟩
      | str z => cases hx; exact isiv rfl (.base (.str z)) (b := false) (by decide +kernel) ⟨_, rfl, iteF ⟨_, rfl, _, rfl, iteF ⟨.ref D, rfl, .inl ⟨rfl, acc, .of hD2⟩, _, rfl, D, acc, _, rfl, rfl, hD2, small1000 la, no rfl _⟩⟩⟩
      | tup es h4 =>
        obtain ⟨t, xs, rfl, ht, hes⟩ : ∃ t xs, x = .ref t ∧ SqT K H2 t xs ∧ DpAll K H2 xs es := by
          cases hx with
          | tup h1 h2 => exact ⟨_, _, rfl, h1, h2⟩
        have l := dps_le hes
        refine isiv rfl (tyx_t ht) (b := true) (by decide +kernel) ⟨_, rfl, iteT ?_⟩
        refine ⟨_, rfl, .inr ⟨t, xs, rfl, .inr ht, .inl ⟨rfl, ?_⟩⟩⟩
        rw [decide_eq_false (fun z => by have := V.int.inj z; omega)]
        exact ⟨_, rfl, iteF ⟨_, rfl, _, rfl, iteF ⟨.ref D, rfl, .inl ⟨rfl, acc, .of hD2⟩, _, rfl, D, acc, _, rfl, rfl, hD2, small1000 la, no (mv_tup n h4) _⟩⟩⟩
      | four w0 u v z hu hv =>
        obtain ⟨t, xs, rfl, ht, hds4⟩ : ∃ t xs, x = .ref t ∧ SqT K H2 t xs ∧ DpAll K H2 xs [.str w0, u, v, z] := by
          cases hx with
          | tup h1 h2 => exact ⟨_, _, rfl, h1, h2⟩
        have l := dps_le hds4
        obtain ⟨x0, g0, d0⟩ := dps_ix hds4 (i := 0) rfl
        obtain ⟨x1, g1, d1⟩ := dps_ix hds4 (i := 1) rfl
        obtain ⟨x2, g2, d2⟩ := dps_ix hds4 (i := 2) rfl
        obtain ⟨x3, g3, d3⟩ := dps_ix hds4 (i := 3) rfl
        cases d0
        refine isiv rfl (tyx_t ht) (b := true) (by decide +kernel) ⟨_, rfl, iteT ?_⟩
        refine ⟨_, rfl, .inr ⟨t, xs, rfl, .inr ht, .inl ⟨rfl, ?_⟩⟩⟩
        rw [decide_eq_true (show V.int (xs.length : Int) = V.int 4 by rw [l]; rfl)]
        refine ⟨_, rfl, iteT ⟨_, rfl, .inr (.inl ⟨t, xs, ((0 : Nat) : Int), .str w0, rfl, rfl, ht, atI_nat g0, .inl ⟨rfl, ?_⟩⟩)⟩⟩
        by_cases c : w0 = ("resolve" : Str)
        · subst c
          rw [decide_eq_true rfl]
          refine ⟨_, rfl, _, rfl, iteT ⟨.ref t, rfl, .inr (.inl ⟨t, xs, ((1 : Nat) : Int), x1, rfl, rfl, ht, atI_nat g1, ?_⟩)⟩⟩
          dsimp only [tNil, List.cons_append, List.nil_append]
          refine isI_of ⟨x1, u, rfl, hu, d1, _, rfl, ?_⟩
          have els : mv n (.tuple [.str "resolve", u, v, z]) = .tuple [.str "resolve", u, v, z] → Same H (upd H2 D (.lst (acc ++ [.ref t]))) ∧ LsIs K (upd H2 D (.lst (acc ++ [.ref t]))) D ((ds.take (i + 1)).map (mv n)) := fun e => put (Same.refl _) (by rw [e]; exact hx)
          cases hu with
          | bool b => exact iteF ⟨.ref D, rfl, .inl ⟨rfl, acc, .of hD2⟩, _, rfl, D, acc, _, rfl, rfl, hD2, small1000 la, _, _, rfl, els rfl⟩
          | str s => exact iteF ⟨.ref D, rfl, .inl ⟨rfl, acc, .of hD2⟩, _, rfl, D, acc, _, rfl, rfl, hD2, small1000 la, _, _, rfl, els rfl⟩
          | int i1 =>
            refine iteT ⟨.ref t, rfl, .inr (.inl ⟨t, xs, ((2 : Nat) : Int), x2, rfl, rfl, ht, atI_nat g2, ?_⟩)⟩
            dsimp only [tNil, List.cons_append, List.nil_append]
            refine isI_of ⟨x2, v, rfl, hv, d2, _, rfl, ?_⟩
            cases hv with
            | bool b => exact iteF ⟨.ref D, rfl, .inl ⟨rfl, acc, .of hD2⟩, _, rfl, D, acc, _, rfl, rfl, hD2, small1000 la, _, _, rfl, els rfl⟩
            | str s => exact iteF ⟨.ref D, rfl, .inl ⟨rfl, acc, .of hD2⟩, _, rfl, D, acc, _, rfl, rfl, hD2, small1000 la, _, _, rfl, els rfl⟩
            | int j1 =>
              cases d1
              cases d2
              refine iteT ⟨.ref D, rfl, .inl ⟨rfl, acc, .of hD2⟩, ?_⟩
              refine ⟨.ref t, rfl, .inr (.inl ⟨t, xs, ((1 : Nat) : Int), _, rfl, rfl, ht, atI_nat g1, ?_⟩)⟩
              refine ⟨_, rfl, i1, n, rfl, rfl, ?_⟩
              refine ⟨.ref t, rfl, .inr (.inl ⟨t, xs, ((2 : Nat) : Int), _, rfl, rfl, ht, atI_nat g2, ?_⟩)⟩
              refine ⟨_, rfl, j1, n, rfl, rfl, ?_⟩
              refine ⟨.ref t, rfl, .inr (.inl ⟨t, xs, ((3 : Nat) : Int), _, rfl, rfl, ht, atI_nat g3, ?_⟩)⟩
              refine ⟨Nat.le_of_lt (small1000 (by simp)), fun p np => ?_⟩
              have kz : RN.kb z = true := by
                have h : (true && (true && (true && (RN.kb z && true)))) = true := rd.kb
                simpa using h
              have e : mv n (.tuple [.str "resolve", .int i1, .int j1, z]) = .tuple [.str "resolve", .int (i1 + n), .int (j1 + n), z] := rfl
              refine ⟨D, acc, .ref p, rfl, rfl, (same_upd np) _ _ hD2, small1000 la, _, _, rfl, put (same_upd np) ?_⟩
              rw [e]
              exact .tup (.of upd_same) (.cons (.str _) (.cons (.int _) (.cons (.int _) (.cons (dp_tk (tk_new np) _ _ d3 kz) .nil))))
        · rw [decide_eq_false (fun e => c (V.str.inj e))]
          refine ⟨_, rfl, _, rfl, iteF ⟨.ref D, rfl, .inl ⟨rfl, acc, .of hD2⟩, _, rfl, D, acc, _, rfl, rfl, hD2, small1000 la, no ?_ _⟩⟩
          cases hu with
          | bool b => rfl
          | str s => rfl
          | int i =>
            cases hv with
            | bool b => rfl
            | str s => rfl
            | int j => show (if w0 = ("resolve" : Str) then _ else _) = _; rw [if_neg c]
    · rintro σ' H2 ⟨y3, y4, rfl, s2, hA2⟩
      rw [ly, List.take_length] at hA2
      exact ⟨_, rfl, q D H2 nD s2 hA2⟩
end
end K28


/-! the class Certificate -/
namespace K28
open PySem PySem.Spec PyProof.Rows L2 RN
abbrev s_Certificate_init : Stmt := inClass (topS 10) 0
abbrev s_Certificate_given : Stmt := inClass (topS 10) 1
abbrev s_Certificate_theory : Stmt := inClass (topS 10) 2
abbrev s_Certificate_eq : Stmt := inClass (topS 10) 3
abbrev s_Certificate_len : Stmt := inClass (topS 10) 4
abbrev s_Certificate_iter : Stmt := inClass (topS 10) 5
abbrev s_Certificate_getitem : Stmt := inClass (topS 10) 6
abbrev s_Certificate_add : Stmt := inClass (topS 10) 7
abbrev s_Certificate_last : Stmt := inClass (topS 10) 8
abbrev s_Certificate_resolve : Stmt := inClass (topS 10) 9
theorem sc_Certificate_init : FnScope ["self", "rows"] ["self", "rows"] (defScope s_Certificate_init) := ⟨rfl, rfl, rfl, by decide +kernel, rfl, by decide +kernel, by decide +kernel⟩
theorem sc_Certificate_given : FnScope ["label"] ["label"] (defScope s_Certificate_given) := ⟨rfl, rfl, rfl, by decide +kernel, rfl, by decide +kernel, by decide +kernel⟩
theorem sc_Certificate_theory : FnScope ["owner", "clause"] ["owner", "clause"] (defScope s_Certificate_theory) := ⟨rfl, rfl, rfl, by decide +kernel, rfl, by decide +kernel, by decide +kernel⟩
theorem sc_Certificate_eq : FnScope ["self", "other"] ["self", "other"] (defScope s_Certificate_eq) := ⟨rfl, rfl, rfl, by decide +kernel, rfl, by decide +kernel, by decide +kernel⟩
theorem sc_Certificate_len : FnScope ["self"] ["self"] (defScope s_Certificate_len) := ⟨rfl, rfl, rfl, by decide +kernel, rfl, by decide +kernel, by decide +kernel⟩
theorem sc_Certificate_iter : FnScope ["self"] ["self"] (defScope s_Certificate_iter) := ⟨rfl, rfl, rfl, by decide +kernel, rfl, by decide +kernel, by decide +kernel⟩
theorem sc_Certificate_getitem : FnScope ["self", "at"] ["self", "at"] (defScope s_Certificate_getitem) := ⟨rfl, rfl, rfl, by decide +kernel, rfl, by decide +kernel, by decide +kernel⟩
theorem sc_Certificate_add : FnScope ["self", "other", "row"] ["self", "other"] (defScope s_Certificate_add) := ⟨rfl, rfl, rfl, by decide +kernel, rfl, by decide +kernel, by decide +kernel⟩
theorem sc_Certificate_last : FnScope ["self"] ["self"] (defScope s_Certificate_last) := ⟨rfl, rfl, rfl, by decide +kernel, rfl, by decide +kernel, by decide +kernel⟩
theorem sc_Certificate_resolve : FnScope ["self", "first", "second", "atom"] ["self", "first", "second", "atom"] (defScope s_Certificate_resolve) := ⟨rfl, rfl, rfl, by decide +kernel, rfl, by decide +kernel, by decide +kernel⟩
structure Pd where
  (fI fG fH fE fL fT fX fA fP fR pP pG pH : Addr)
  (dI dG dH dE dL dT dX dA dP dR : FuncData)
structure CrC (K : PySem.W.Frag) (C : Addr) (mc : Value) (p : Pd) : Prop where
  ins : C8.InsC K C
  mkr : Mk K C p.fI
  nR : NoAttr K C "rows"
  F_I : Fun K "__init__" "Certificate.__init__" s_Certificate_init p.fI p.dI
  b_I : Binds K p.dI ["self", "rows"] []
  F_G : Fun K "given" "Certificate.given" s_Certificate_given p.fG p.dG
  b_G : Binds K p.dG ["label"] []
  F_H : Fun K "theory" "Certificate.theory" s_Certificate_theory p.fH p.dH
  b_H : Binds K p.dH ["owner", "clause"] []
  F_E : Fun K "__eq__" "Certificate.__eq__" s_Certificate_eq p.fE p.dE
  b_E : Binds K p.dE ["self", "other"] []
  F_L : Fun K "__len__" "Certificate.__len__" s_Certificate_len p.fL p.dL
  b_L : Binds K p.dL ["self"] []
  F_T : Fun K "__iter__" "Certificate.__iter__" s_Certificate_iter p.fT p.dT
  b_T : Binds K p.dT ["self"] []
  F_X : Fun K "__getitem__" "Certificate.__getitem__" s_Certificate_getitem p.fX p.dX
  b_X : Binds K p.dX ["self", "at"] []
  F_A : Fun K "__add__" "Certificate.__add__" s_Certificate_add p.fA p.dA
  b_A : Binds K p.dA ["self", "other"] []
  F_P : Fun K "last" "Certificate.last" s_Certificate_last p.fP p.dP
  b_P : Binds K p.dP ["self"] []
  F_R : Fun K "resolve" "Certificate.resolve" s_Certificate_resolve p.fR p.dR
  b_R : Binds K p.dR ["self", "first", "second", "atom"] []
  itl : RI.ItL K C p.fT p.fL
  gs : PySem.W.findIn K (.ref C) "__getitem__" = some (some (.ref p.fX))
  gf : PySem.W.fnIn K p.fX = true
  gn : PySem.W.isFn K (.ref p.fX) = true
  es : PySem.W.findIn K (.ref C) "__eq__" = some (some (.ref p.fE))
  en : PySem.W.isFn K (.ref p.fE) = true
  om : PySem.W.mroIn K C (.type "object") = some true
  ns : PySem.W.findIn K (.ref C) "__ne__" = some (some (.builtin "object.__ne__"))
  as_ : PySem.W.findIn K (.ref C) "__add__" = some (some (.ref p.fA))
  an : PySem.W.isFn K (.ref p.fA) = true
  sf : PySem.W.selfFirst K C = true
  pr : PropOf K C "last" p.pP p.fP
  mt : Meth K C "resolve" p.fR
  rC : ClX.CRead K C mc
  sG : R1.SMet K C mc "given" p.pG p.fG
  sH : R1.SMet K C mc "theory" p.pH p.fH
section
variable {P : Program} {w : World} {K : PySem.W.Frag} {mg : Str → Option Value} {base : Heap} {a : Ad} {p : Pd} {C : Addr} {mc : Value}
def rfs (t : Addr) : List (Str × V) := [("rows", .ref t)]
theorem lkR (t : Addr) : (rfs t).lookup ("rows" : Str) = some (V.ref t) := rfl
/-- a certificate with these rows -/
def CtIs (K : PySem.W.Frag) (C : Addr) (H : Hp) (o : Addr) (ds : List PyData) : Prop := ∃ dx t, H o = some (.ins C dx (rfs t)) ∧ Dp K H (.ref t) (.tuple ds) ∧ ∃ vs, H t = some (.tup vs)
theorem CtIs.same {H H' : Hp} {o : Addr} {ds : List PyData} (r : RoA ds) (s : Same H H') (h : CtIs K C H o ds) : CtIs K C H' o ds := let ⟨dx, t, h1, h2, vs, h3⟩ := h; ⟨dx, t, s _ _ h1, dp_tk (Same.tk s) _ _ h2 (roa_tup r).1, vs, s _ _ h3⟩
theorem sqL_same {H H' : Hp} {q : Addr} {xs : List V} (s : Same H H') (h : SqL K H q xs) : SqL K H' q xs := by
  rcases h with (h | ⟨o, h⟩) | h
  · exact .inl (.inl (s _ _ h))
  · exact .inl (.inr ⟨o, s _ _ h⟩)
  · exact .inr h
def SqI (K : PySem.W.Frag) (H : Hp) (q : Addr) (xs : List V) : Prop := SqL K H q xs ∨ H q = some (.tup xs)
theorem dp_tup {H : Hp} {t : Addr} {ds : List PyData} (h : Dp K H (.ref t) (.tuple ds)) : ∃ xs, SqT K H t xs ∧ DpAll K H xs ds := by
  cases h with
  | tup h1 h2 => exact ⟨_, h1, h2⟩
def spInit (K : PySem.W.Frag) (C : Addr) : Sp := fun vs H Q _ => ∃ (o q dx : Addr) (xs : List V) (ds : List PyData), vs = [.ref o, .ref q] ∧ H o = some (.ins C dx []) ∧ SqI K H q xs ∧ q ≠ o ∧ DpAll K H xs ds ∧ RoA ds ∧ ∀ H', Kp o H H' → CtIs K C H' o ds → Q .non H'
theorem pf1 (x : V) : putF "rows" x [] = ([("rows", x)] : List (Str × V)) := rfl
theorem ok_init (T : Top K mg a) (B : CrC K C mc p) : FnOk P w K mg base CX0 1 p.fI p.dI ["self", "rows"] (spInit K C) := by
  refine B.F_I.ok sc_Certificate_init (fun vs H Q E h => ?_) (fun cdv A' outer s H vs Q E hr h => ?_)
  · obtain ⟨_, _, _, _, _, rfl, _⟩ := h
    rfl
  · obtain ⟨o, q, dx, xs, ds, rfl, ho, hq, hqo, hds, ro, c⟩ := h
    refine ⟨_, (pss_one (ps_fld (pv 0) (pe_callTy call_tuple_of (by rfl) T.z_tuple (by decide +kernel) (pa_cons (pv 1) pa_nil)) rfl)), ?_⟩
    have fin : ∀ {t : Addr} {H1 : Hp} {vs : List V}, Same H H1 → Dp K H1 (.ref t) (.tuple ds) → H1 t = some (.tup vs) → Q .non (upd H1 o (.ins C dx (putF "rows" (.ref t) []))) := fun {t} {H1} {vs} s1 ht hv => by
      have ho1 := s1 _ _ ho
      have t1 : Tk H1 (upd H1 o (.ins C dx (putF "rows" (.ref t) []))) := tk_upd ho1 True.intro
      exact c _ ((Same.kp s1).put) ⟨dx, t, by rw [upd_same]; rfl, dp_tk t1 _ _ ht (roa_tup ro).1, vs, by rw [upd_ne (fun z => by rw [z, ho1] at hv; cases hv)]; exact hv⟩
    refine ⟨.ref q, rfl, q, xs, rfl, ?_⟩
    rcases hq with hq | hq
    · exact .inl ⟨hq, fun l nl => ⟨.ref o, rfl, o, C, dx, [], rfl, (same_upd nl) _ _ ho, B.ins.cl, B.nR, by decide, fin (same_upd nl) (.tup (.of upd_same) (dps_tk (tk_new nl) hds ro.kb)) upd_same⟩⟩
    · exact .inr ⟨.of hq, .ref o, rfl, o, C, dx, [], rfl, ho, B.ins.cl, B.nR, by decide, fin (Same.refl _) (.tup (.of hq) hds) hq⟩
/-- a certificate is made -/
theorem mk_ct {H : Hp} {q : Addr} {xs : List V} {ds : List PyData} {Q : VK} {E : XK} (ro : RoA ds) (hq : SqI K H q xs) (hd : DpAll K H xs ds) (hn : ∀ x, H x = none → q ≠ x) (c : ∀ x H', H x = none → Same H H' → CtIs K C H' x ds → Q (.ref x) H') :
    ∀ x dx, H x = none → H dx = none → dx ≠ x → spInit K C (.ref x :: ([.ref q] ++ [])) (upd (upd H dx (.own x)) x (.ins C dx [])) (fun v H2 => v = .non ∧ Q (.ref x) H2) E := by
  intro x dx hx hdx hne
  have s1 : Same H (upd H dx (.own x)) := same_upd hdx
  have nx : (upd H dx (.own x)) x = none := by rw [upd_ne (Ne.symm hne)]; exact hx
  have s2 : Same H (upd (upd H dx (.own x)) x (.ins C dx [])) := s1.trans (same_upd nx)
  refine ⟨x, q, dx, xs, ds, rfl, upd_same, hq.imp (sqL_same s2) (s2 _ _), hn x hx, dps_tk (Same.tk s2) hd ro.kb, ro, fun H' k h => ⟨rfl, c x H' hx (fun b o hb => ?_) h⟩⟩
  exact k b o (fun z => by rw [z, hx] at hb; cases hb) (s2 _ _ hb)
def spLenC (K : PySem.W.Frag) (C : Addr) : Sp := fun vs H Q _ => ∃ (o : Addr) (ds : List PyData), vs = [.ref o] ∧ CtIs K C H o ds ∧ Q (.int (ds.length : Nat)) H
theorem ok_len (T : Top K mg a) (B : CrC K C mc p) : FnOk P w K mg base CX0 1 p.fL p.dL ["self"] (spLenC K C) := by
  refine B.F_L.ok sc_Certificate_len (fun vs H Q E h => ?_) (fun cdv A' outer s H vs Q E hr h => ?_)
  · obtain ⟨_, _, rfl, _⟩ := h
    rfl
  · obtain ⟨o, ds, rfl, ⟨dx, t, ho, ht, _⟩, q⟩ := h
    refine ⟨_, (pss_one (ps_ret (pe_callB call_len_seq (by rfl) T.z_len (by decide +kernel) (pa_cons (pe_fld (pv 0) (by rfl)) pa_nil)))), ?_⟩
    obtain ⟨xs, hx, hd⟩ := dp_tup ht
    refine ⟨.ref o, rfl, o, C, dx, _, _, rfl, ho, B.ins.cl, B.nR, lkR _, t, xs, rfl, .inr hx, ?_⟩
    rw [dps_le hd]
    exact q
def spLast (K : PySem.W.Frag) (C : Addr) : Sp := fun vs H Q _ => ∃ (o : Addr) (ds : List PyData), vs = [.ref o] ∧ CtIs K C H o ds ∧ Q (.int ((ds.length : Int) - 1)) H
theorem ok_last (T : Top K mg a) (B : CrC K C mc p) : FnOk P w K mg base CX0 1 p.fP p.dP ["self"] (spLast K C) := by
  refine B.F_P.ok sc_Certificate_last (fun vs H Q E h => ?_) (fun cdv A' outer s H vs Q E hr h => ?_)
  · obtain ⟨_, _, rfl, _⟩ := h
    rfl
  · obtain ⟨o, ds, rfl, ⟨dx, t, ho, ht, _⟩, q⟩ := h
    refine ⟨_, (pss_one (ps_ret (pe_op op_sub (pe_callB call_len_seq (by rfl) T.z_len (by decide +kernel) (pa_cons (pe_fld (pv 0) (by rfl)) pa_nil)) pe_int))), ?_⟩
    obtain ⟨xs, hx, hd⟩ := dp_tup ht
    refine ⟨.ref o, rfl, o, C, dx, _, _, rfl, ho, B.ins.cl, B.nR, lkR _, t, xs, rfl, .inr hx, _, _, rfl, rfl, ?_⟩
    rw [dps_le hd]
    exact q
def spIter (K : PySem.W.Frag) (C : Addr) : Sp := fun vs H Q _ => ∃ (o dx t : Addr) (xs : List V), vs = [.ref o] ∧ H o = some (.ins C dx (rfs t)) ∧ SqT K H t xs ∧ ∀ it, H it = none → Q (.ref it) (upd H it (RI.ItTO t it))
theorem ok_iter (T : Top K mg a) (B : CrC K C mc p) : FnOk P w K mg base CX0 1 p.fT p.dT ["self"] (spIter K C) := by
  refine B.F_T.ok sc_Certificate_iter (fun vs H Q E h => ?_) (fun cdv A' outer s H vs Q E hr h => ?_)
  · obtain ⟨_, _, _, _, rfl, _⟩ := h
    rfl
  · obtain ⟨o, dx, t, xs, rfl, ho, hx, q⟩ := h
    refine ⟨_, (pss_one (ps_ret (pe_callB RI.call_iterT (by rfl) T.z_iter (by decide +kernel) (pa_cons (pe_fld (pv 0) (by rfl)) pa_nil)))), ?_⟩
    exact ⟨.ref o, rfl, o, C, dx, _, _, rfl, ho, B.ins.cl, B.nR, lkR _, t, xs, rfl, hx, q⟩
def spEqC (K : PySem.W.Frag) (C : Addr) : Sp := fun vs H Q _ => ∃ (o b : Addr) (ds es : List PyData), vs = [.ref o, .ref b] ∧ CtIs K C H o ds ∧ CtIs K C H b es ∧ RoA ds ∧ RoA es ∧ Q (.bl (PyData.eqv (.tuple ds) (.tuple es))) H
theorem ok_eq (T : Top K mg a) (B : CrC K a.c_Certificate mc p) : FnOk P w K mg base CX0 1 p.fE p.dE ["self", "other"] (spEqC K a.c_Certificate) := by
  refine B.F_E.ok sc_Certificate_eq (fun vs H Q E h => ?_) (fun cdv A' outer s H vs Q E hr h => ?_)
  · obtain ⟨_, _, _, _, rfl, _⟩ := h
    rfl
  · obtain ⟨o, b, ds, es, rfl, ⟨dx, t, ho, ht, _⟩, ⟨dx2, t2, hb, ht2, _⟩, r1, r2, q⟩ := h
    refine ⟨_, (pss_one (ps_ret (pe_and (pe_callB (C8.call_isC B.ins) (by rfl) T.z_isinstance (by decide +kernel) (pa_cons (pv 1) (pa_cons (pe_glob (v := .ref _) (by rfl) T.m_Certificate rfl) pa_nil))) (pe_one (pe_cmpR (op_eqD hr.units) (pe_fld (pv 0) (by rfl)) (pe_fld (pv 1) (by rfl)) (nomark _)))))), ?_⟩
    refine ⟨.ref b, rfl, b, dx2, _, rfl, hb, _, rfl, iteT ?_⟩
    exact ⟨.ref o, rfl, o, _, dx, _, _, rfl, ho, B.ins.cl, B.nR, lkR _, .ref b, rfl, b, _, dx2, _, _, rfl, hb, B.ins.cl, B.nR, lkR _, .tuple ds, .tuple es, ht, ht2, roa_shaped r1, roa_shaped r2, q⟩
theorem nn_of {H : Hp} {q : Addr} {o : HO} (h : H q = some o) : ∀ x, H x = none → q ≠ x := fun x hx z => by rw [z, hx] at h; cases h
def spGiven (K : PySem.W.Frag) (C : Addr) : Sp := fun vs H Q _ => ∃ (x : V) (d : PyData), vs = [x] ∧ Dp K H x d ∧ RN.kb d = true ∧ Ro (.tuple [.str "given", d]) ∧ ∀ o H', H o = none → Same H H' → CtIs K C H' o [.tuple [.str "given", d]] → Q (.ref o) H'
theorem roa_one {d : PyData} (h : Ro d) : RoA [d] := fun x hx => by rw [List.mem_singleton.mp hx]; exact h
theorem ok_given (T : Top K mg a) (B : CrC K a.c_Certificate mc p) : FnOk P w K mg base CX0 3 p.fG p.dG ["label"] (spGiven K a.c_Certificate) := by
  have G_init := ok_init (P := P) (w := w) (mg := mg) (base := base) T B
  refine B.F_G.ok sc_Certificate_given (fun vs H Q E h => ?_) (fun cdv A' outer s H vs Q E hr h => ?_)
  · obtain ⟨_, _, rfl, _⟩ := h
    rfl
  · obtain ⟨x, d, rfl, hx, kd, ro, q⟩ := h
    refine ⟨_, (pss_one (ps_ret (pe_make B.mkr G_init (hr.mono (by decide)) (by rfl) T.m_Certificate B.b_I .nil pass0 (pa_cons (pe_lst (pa_cons (pe_tup (pa_cons pe_str (pa_cons (pv 0) pa_nil))) pa_nil)) pa_nil)))), ?_⟩
    have sm9 : ∀ {n : Nat}, n ≤ 400 → n ≤ sizeLine := fun h => Nat.le_of_lt (small1000 (by omega))
    refine ⟨x, rfl, sm9 (by simp), fun t nt => ⟨sm9 (by simp), fun l nl => ?_⟩⟩
    have s1 := same_upd (o := .tup [.str "given", x]) nt
    have s2 := s1.trans (same_upd (o := .lst [.ref t]) nl)
    have ht := (same_upd (o := .lst [.ref t]) nl) _ _ (show (upd H t (.tup [.str "given", x])) t = _ from upd_same)
    have hl : (upd (upd H t (.tup [.str "given", x])) l (.lst [.ref t])) l = _ := upd_same
    refine mk_ct (ds := [.tuple [.str "given", d]]) (roa_one ro) (.inl (.of hl)) (.cons (.tup (.of ht) (.cons (.str _) (.cons (dp_tk (Same.tk s2) _ _ hx kd) .nil))) .nil) (nn_of hl) fun o H' no s h => q o H' (s2.free no) (s2.trans s) h
def spTheory (K : PySem.W.Frag) (C : Addr) : Sp := fun vs H Q _ => ∃ (x y : V) (d e : PyData), vs = [x, y] ∧ Dp K H x d ∧ Dp K H y e ∧ RN.kb d = true ∧ RN.kb e = true ∧ Ro (.tuple [.str "theory", d, e]) ∧ ∀ o H', H o = none → Same H H' → CtIs K C H' o [.tuple [.str "theory", d, e]] → Q (.ref o) H'
theorem ok_theory (T : Top K mg a) (B : CrC K a.c_Certificate mc p) : FnOk P w K mg base CX0 3 p.fH p.dH ["owner", "clause"] (spTheory K a.c_Certificate) := by
  have G_init := ok_init (P := P) (w := w) (mg := mg) (base := base) T B
  refine B.F_H.ok sc_Certificate_theory (fun vs H Q E h => ?_) (fun cdv A' outer s H vs Q E hr h => ?_)
  · obtain ⟨_, _, _, _, rfl, _⟩ := h
    rfl
  · obtain ⟨x, y, d, e, rfl, hx, hy, kd, ke, ro, q⟩ := h
    refine ⟨_, (pss_one (ps_ret (pe_make B.mkr G_init (hr.mono (by decide)) (by rfl) T.m_Certificate B.b_I .nil pass0 (pa_cons (pe_lst (pa_cons (pe_tup (pa_cons pe_str (pa_cons (pv 0) (pa_cons (pv 1) pa_nil)))) pa_nil)) pa_nil)))), ?_⟩
    have sm9 : ∀ {n : Nat}, n ≤ 400 → n ≤ sizeLine := fun h => Nat.le_of_lt (small1000 (by omega))
    refine ⟨x, rfl, y, rfl, sm9 (by simp), fun t nt => ⟨sm9 (by simp), fun l nl => ?_⟩⟩
    have s1 := same_upd (o := .tup [.str "theory", x, y]) nt
    have s2 := s1.trans (same_upd (o := .lst [.ref t]) nl)
    have ht := (same_upd (o := .lst [.ref t]) nl) _ _ (show (upd H t (.tup [.str "theory", x, y])) t = _ from upd_same)
    have hl : (upd (upd H t (.tup [.str "theory", x, y])) l (.lst [.ref t])) l = _ := upd_same
    refine mk_ct (ds := [.tuple [.str "theory", d, e]]) (roa_one ro) (.inl (.of hl)) (.cons (.tup (.of ht) (.cons (.str _) (.cons (dp_tk (Same.tk s2) _ _ hx kd) (.cons (dp_tk (Same.tk s2) _ _ hy ke) .nil)))) .nil) (nn_of hl) fun o H' no s h => q o H' (s2.free no) (s2.trans s) h
def spResolve (K : PySem.W.Frag) (C : Addr) : Sp := fun vs H Q _ => ∃ (c : Addr) (x y z : V) (ds : List PyData) (d e f : PyData), vs = [.ref c, x, y, z] ∧ CtIs K C H c ds ∧ RoA ds ∧ ds.length ≤ 100 ∧ Dp K H x d ∧ Dp K H y e ∧ Dp K H z f ∧ RN.kb d = true ∧ RN.kb e = true ∧ RN.kb f = true ∧ Ro (.tuple [.str "resolve", d, e, f]) ∧
  ∀ o H', H o = none → Same H H' → CtIs K C H' o (ds ++ [.tuple [.str "resolve", d, e, f]]) → Q (.ref o) H'
theorem ok_resolve (T : Top K mg a) (B : CrC K a.c_Certificate mc p) : FnOk P w K mg base CX0 3 p.fR p.dR ["self", "first", "second", "atom"] (spResolve K a.c_Certificate) := by
  have G_init := ok_init (P := P) (w := w) (mg := mg) (base := base) T B
  refine B.F_R.ok sc_Certificate_resolve (fun vs H Q E h => ?_) (fun cdv A' outer s H vs Q E hr h => ?_)
  · obtain ⟨_, _, _, _, _, _, _, _, rfl, _⟩ := h
    rfl
  · obtain ⟨c, x, y, z, ds, d, e, f, rfl, ⟨dx, t0, hc, ht0, _⟩, r1, l1, hx, hy, hz, kd, ke, kf, ro, q⟩ := h
    refine ⟨_, (pss_one (ps_ret (pe_make B.mkr G_init (hr.mono (by decide)) (by rfl) T.m_Certificate B.b_I .nil pass0 (pa_cons (pe_lst (StX.pa_star (pe_fld (pv 0) (by rfl)) (pa_cons (pe_tup (pa_cons pe_str (pa_cons (pv 1) (pa_cons (pv 2) (pa_cons (pv 3) pa_nil))))) pa_nil))) pa_nil)))), ?_⟩
    have sm9 : ∀ {n : Nat}, n ≤ 400 → n ≤ sizeLine := fun h => Nat.le_of_lt (small1000 (by omega))
    obtain ⟨xs, h0, hd⟩ := dp_tup ht0
    have lx := dps_le hd
    refine ⟨.ref c, rfl, c, _, dx, _, _, rfl, hc, B.ins.cl, B.nR, lkR _, t0, xs, rfl, .inl h0, x, rfl, y, rfl, z, rfl, sm9 (by simp), fun t nt => ⟨sm9 (show (xs ++ [V.ref t]).length ≤ 400 by rw [List.length_append]; simp; omega), fun l nl => ?_⟩⟩
    have s1 := same_upd (o := .tup [.str "resolve", x, y, z]) nt
    have s2 := s1.trans (same_upd (o := .lst (xs ++ [.ref t])) nl)
    have ht := (same_upd (o := .lst (xs ++ [.ref t])) nl) _ _ (show (upd H t (.tup [.str "resolve", x, y, z])) t = _ from upd_same)
    have hl : (upd (upd H t (.tup [.str "resolve", x, y, z])) l (.lst (xs ++ [.ref t]))) l = _ := upd_same
    refine mk_ct (ds := ds ++ [.tuple [.str "resolve", d, e, f]]) (r1.app (roa_one ro)) (.inl (.of hl)) (dps_app (dps_tk (Same.tk s2) hd r1.kb) (.cons (.tup (.of ht) (.cons (.str _) (.cons (dp_tk (Same.tk s2) _ _ hx kd) (.cons (dp_tk (Same.tk s2) _ _ hy ke) (.cons (dp_tk (Same.tk s2) _ _ hz kf) .nil))))) .nil)) (nn_of hl) fun o H' no s h => q o H' (s2.free no) (s2.trans s) h
end
end K28


/-! sums, rows by their index -/
namespace K28
open PySem PySem.Spec PyProof.Rows L2 RN
theorem call_lenK {X : Cx} {K : PySem.W.Frag} (hK : X.K = K) : CallR X (.builtin "len") (fun xs H Q => ∃ p ys, xs = [V.ref p] ∧ (SqL K H p ys ∨ SqT K H p ys) ∧ Q (V.int ys.length) H) := by subst hK; exact call_len_seq
theorem pe_fldK {X : Cx} {K : PySem.W.Frag} {e : Expr} {te : TE} {f : Str} {pos : Pos} (hK : X.K = K) (he : PE X e te) (hb : attributeBase e f X.env (eval e X.env) = eval e X.env := by rfl) : PE X (.Attribute e f pos) (tFld K te f) := by subst hK; exact pe_fld he hb
section
variable {P : Program} {w : World} {K : PySem.W.Frag} {mg : Str → Option Value} {base : Heap} {a : Ad} {p : Pd} {C : Addr} {mc : Value} {fI : Addr} {dI : FuncData}
def sumD (ds es : List PyData) : List PyData := ds ++ es.map (mv (ds.length : Int))
def spAdd (K : PySem.W.Frag) (C : Addr) : Sp := fun vs H Q _ => ∃ (c b : Addr) (ds es : List PyData), vs = [.ref c, .ref b] ∧ CtIs K C H c ds ∧ CtIs K C H b es ∧ RoA ds ∧ RoA es ∧ ds.length ≤ 100 ∧ es.length ≤ 100 ∧ ∀ o H', H o = none → Same H H' → CtIs K C H' o (sumD ds es) → Q (.ref o) H'
theorem ok_add (T : Top K mg a) (B : CrC K a.c_Certificate mc p) (G_moved : FnOk P w K mg base CX0 2 a.f_moved a.d_moved ["row", "by"] (spMoved K)) : FnOk P w K mg base CX0 4 p.fA p.dA ["self", "other"] (spAdd K a.c_Certificate) := by
  have G_init := ok_init (P := P) (w := w) (mg := mg) (base := base) T B
  refine B.F_A.ok sc_Certificate_add (fun vs H Q E h => ?_) (fun cdv A' outer s H vs Q E hr h => ?_)
  · obtain ⟨_, _, _, _, rfl, _⟩ := h
    rfl
  · obtain ⟨c, b, ds, es, rfl, ⟨dx, t, hc, ht, _⟩, ⟨dy, u, hb, hu, _⟩, r1, r2, l1, l2, q⟩ := h
    refine ⟨_, (pss_one (ps_ret (pe_make B.mkr G_init (hr.mono (by decide)) (by rfl) T.m_Certificate B.b_I .nil pass0 (pa_cons (pe_lst (StX.pa_star (pe_fld (pv 0) (by rfl)) (StX.pa_star (pe_lc (own := [("row", 2)]) rfl sc_Certificate_add.nd (pi_tup (pe_fld (pv 1) (by rfl))) (blkOk_by (own := [("row", 2)]) (N := ["self", "other", "row"]) (sc := defScope s_Certificate_add) (by decide +kernel)) (fun _ _ _ _ _ => (pg_name (i := 2) sc_Certificate_add.nd rfl (.inl rfl))) (fun _ _ _ _ _ => pts_nil) (fun _ _ _ _ _ => (pe_call G_moved (hr.mono (by decide)) (by rfl) T.m_moved T.F_moved.kp T.b_moved .nil pass0 (pa_cons (pv 2) (pa_cons (pe_callB (call_lenK (K := K) rfl) (by rfl) T.z_len (by decide +kernel) (pa_cons (pe_fldK (K := K) rfl (pv 0) (by rfl)) pa_nil)) pa_nil))))) pa_nil))) pa_nil)))), ?_⟩
    have sm9 : ∀ {n : Nat}, n ≤ 400 → n ≤ sizeLine := fun h => Nat.le_of_lt (small1000 (by omega))
    obtain ⟨xs, hx, hd⟩ := dp_tup ht
    obtain ⟨ys, hy, he⟩ := dp_tup hu
    have lx := dps_le hd
    have ly := dps_le he
    refine ⟨.ref c, rfl, c, _, dx, _, _, rfl, hc, B.ins.cl, B.nR, lkR _, t, xs, rfl, .inl hx, .ref b, rfl, b, _, dy, _, _, rfl, hb, B.ins.cl, B.nR, lkR _, u, rfl, ⟨_, hy⟩, fun D nD => R1.walk_it (walk_tup (xs := ys)) (fun k H' => Same H H' ∧ LsIs K H' D ((es.take k).map (mv (ds.length : Int)))) ⟨same_upd nD, [], upd_same, .nil⟩ (fun k H' _ h => sqT_tk (Same.tk h.1) hy) ?_ ?_⟩
    · rintro k x _ H1 hk ⟨s1, acc, hD, hA⟩ ⟨rfl, hxk⟩
      obtain ⟨d, gd, hx0⟩ := dps_at he hxk
      have rd := r2 d (List.mem_of_getElem? gd)
      have et : (es.take (k + 1)).map (mv (ds.length : Int)) = (es.take k).map (mv (ds.length : Int)) ++ [mv (ds.length : Int) d] := by rw [List.take_add_one, gd, List.map_append]; rfl
      have la : acc.length ≤ 1000 := by
        have := dps_le hA
        rw [List.length_map, List.length_take] at this
        omega
      have roA : RoA ((es.take k).map (mv (ds.length : Int))) := RoA.mv _ fun d hd => r2 d (List.mem_of_mem_take hd)
      refine ⟨rfl, x, rfl, .ref c, rfl, c, _, dx, _, _, rfl, s1 _ _ hc, B.ins.cl, B.nR, lkR _, t, xs, rfl, .inr (sqT_tk (Same.tk s1) hx), x, d, _, rfl, rd, dp_tk (Same.tk s1) _ _ hx0 rd.kb, fun y H2 s2 hy2 => ?_⟩
      rw [lx] at hy2
      refine ⟨acc, s2 _ _ hD, small1000 la, K28.Same.mut (s1.trans s2) nD, _, upd_same, ?_⟩
      have tD : Tk H2 (upd H2 D (.lst (acc ++ [y]))) := tk_upd (s2 _ _ hD) True.intro
      rw [et]
      exact dps_app (dps_tk ((Same.tk s2).trans tD) hA roA.kb) (.cons (dp_tk tD _ _ hy2 (rd.mv _).kb) .nil)
    · rintro H1 ⟨s1, acc, hD, hA⟩
      rw [ly, List.take_length] at hA
      have la := dps_le hA
      rw [List.length_map] at la
      refine ⟨D, acc, rfl, .inr (.of hD), ?_⟩
      refine ⟨sm9 (show (xs ++ (acc ++ [])).length ≤ 400 by rw [List.append_nil, List.length_append]; omega), fun l nl => ?_⟩
      rw [List.append_nil] at *
      have s2 := s1.trans (same_upd (o := .lst (xs ++ acc)) nl)
      have hl : (upd H1 l (.lst (xs ++ acc))) l = _ := upd_same
      have rr : RoA (sumD ds es) := r1.app (r2.mv _)
      refine mk_ct (ds := sumD ds es) rr (.inl (.of hl)) (dps_app (dps_tk (Same.tk s2) hd r1.kb) (dps_tk (tk_new nl) hA (r2.mv _).kb)) (nn_of hl) fun o H' no s h => q o H' (s2.free no) (s2.trans s) h
/-! ### the indexes -/
inductive At : PyData → Prop where
  | non : At .none
  | int (i : Int) : At (.int i)
  | bool (b : Bool) : At (.bool b)
  | str (s : Str) : At (.str s)
def wh (lo hi : Int) : PyData → Bool
  | .int i => decide (lo ≤ i ∧ i ≤ hi)
  | _ => false
theorem at_ty {H : Hp} {x : V} {d : PyData} (h : Dp K H x d) (s : At d) : ∃ (t : String) (b c : Bool), TyX K H x (.type t) ∧ kitB t "int" = some b ∧ kitB t "bool" = some c ∧ (b && !c) = isI d := by
  cases s with
  | non => cases h; exact ⟨_, false, false, .base .non, by decide +kernel, by decide +kernel, rfl⟩
  | int i => cases h; exact ⟨_, true, false, .base (.int i), by decide +kernel, by decide +kernel, rfl⟩
  | bool b => cases h; exact ⟨_, true, true, .base (.bl b), by decide +kernel, by decide +kernel, rfl⟩
  | str z => cases h; exact ⟨_, false, false, .base (.str z), by decide +kernel, by decide +kernel, rfl⟩
def spWhole (K : PySem.W.Frag) : Sp := fun vs H Q _ => ∃ (x : V) (d : PyData) (lo hi : Int), vs = [x, .int lo, .int hi] ∧ At d ∧ Dp K H x d ∧ Q (.bl (wh lo hi d)) H
theorem ok_whole (T : Top K mg a) (G_is_int : FnOk P w K mg base CX0 1 a.f_is_int a.d_is_int ["value"] (spIsInt K)) : FnOk P w K mg base CX0 2 a.f_is_whole a.d_is_whole ["value", "least", "most"] (spWhole K) := by
  refine T.F_is_whole.ok sc_is_whole (fun vs H Q E h => ?_) (fun cdv A' outer s H vs Q E hr h => ?_)
  · obtain ⟨_, _, _, _, rfl, _⟩ := h
    rfl
  · obtain ⟨x, d, lo, hi, rfl, at_, hx, q⟩ := h
    refine ⟨_, (pss_one (ps_ret (pe_and (pe_call G_is_int (hr.mono (by decide)) (by rfl) T.m_is_int T.F_is_int.kp T.b_is_int .nil pass0 (pa_cons (pv 0) pa_nil)) (pe_one (pe_chain op_le op_le (pv 1) (pv 0) (pv 2)))))), ?_⟩
    obtain ⟨t, b, c, h1, h2, h3, h4⟩ := at_ty hx at_
    refine ⟨x, rfl, ?_⟩
    dsimp only [tNil, List.cons_append, List.nil_append]
    refine ⟨x, t, b, c, rfl, h1, h2, h3, _, rfl, ?_⟩
    rw [h4]
    cases at_ with
    | non => exact iteF q
    | bool b => exact iteF q
    | str z => exact iteF q
    | int i =>
      cases hx
      refine iteT ⟨_, rfl, _, rfl, lo, i, rfl, rfl, _, rfl, ?_⟩
      by_cases c1 : lo ≤ i
      · rw [decide_eq_true c1]
        refine iteT ⟨_, rfl, i, hi, rfl, rfl, ?_⟩
        have e : decide (i ≤ hi) = wh lo hi (.int i) := by
          show _ = decide (lo ≤ i ∧ i ≤ hi)
          simp [c1]
        show Q (.bl (decide (i ≤ hi))) H
        rw [e]
        exact q
      · rw [decide_eq_false c1]
        refine iteF ?_
        have e : false = wh lo hi (.int i) := by
          show _ = decide (lo ≤ i ∧ i ≤ hi)
          simp [c1]
        rw [e]
        exact q
end
end K28

/-! isinstance(e, T), e a caught error with fields, T a class of the interpreter's own -/
namespace R1
open PySem PySem.Spec PyProof.Rows L2
def rIsXT (K : PySem.W.Frag) (D a : Addr) (cls : Value) (d : Option Addr) : List V → Hp → VK → Prop := fun xs H Q => ∃ (t : String) (b : Bool) (dd : Addr) (fs : List (Str × V)), cls = .ref D ∧ d = some dd ∧ H dd = some (.xd fs) ∧ xs = [.ref a, .ty t] ∧ PySem.W.kitOne K (.ref D) (.type t) = some b ∧ Q (.bl b) H
theorem call_isXT {X : Cx} {K : PySem.W.Frag} {a D : Addr} {oe : Obj} {cls : Value} {d : Option Addr} {pn : List (Addr × Obj)} (hK : X.K = K) (C : ExcC K D) (hz : Zc cls d oe) (hf : ∃ vs, oe.data = .fields vs) : CallR (X.suite a ((a, oe) :: pn)) (.builtin "isinstance") (rIsXT K D a cls d) := by
  subst hK
  intro pins s σ H xs us Q I r h
  obtain ⟨c, b, dd, fs, rfl, rfl, ea, rfl, e, q⟩ := h
  obtain ⟨u1, u2, rfl, r1, r2⟩ := vals2 r
  cases (show u1 = Value.ref a from r1)
  cases (show u2 = Value.type c from r2)
  obtain ⟨hget, _⟩ := I.pin (a, oe) (List.mem_append.mpr (.inl List.mem_cons_self))
  obtain ⟨vs, hd⟩ := hf
  have hx : ObjOk X.prog X.w H s.heap dd (.xd fs) := I.hok dd _ ea
  obtain ⟨mA, hns, hr⟩ := hx
  obtain ⟨od, ho, hl⟩ := lookIn_ns hns
  have J : PySem.W.InstAt s.heap a oe D (some od) := ⟨hget, hz.1, by unfold PySem.W.notCls; rw [hd] <;> rfl, by rw [hz.2]; exact ho⟩
  obtain ⟨cd, hc, _⟩ := PySem.W.any_some C.hd
  exact PySem.W.kia_one (PySem.W.kitx_exc (by rw [hc]; rfl) C.hg C.hk C.hs C.ha C.hn C.ht C.hm) I.kIn J e (fun z => nomatch z) fun tk => ⟨.bl b, H, I.tok tk, rfl, q⟩
end R1


/-! errors; rows by their index -/
namespace K28
open PySem PySem.Spec PyProof.Rows L2 RN
theorem if_ans {c : TT} {t u : TS} {D : Ends} {σ : L2.St} {H : Hp} {b : Bool} (h : Ans c σ H b) (h1 : b = true → t D σ H) (h2 : b = false → u D σ H) : tIfS c t u D σ H := by
  refine h _ ?_
  cases b with
  | true => exact h1 rfl
  | false => exact h2 rfl
def initR : Stmt := inClass (topS 2) 0
theorem sc_initR : FnScope ["self", "index"] ["self", "index"] (defScope initR) := ⟨rfl, rfl, rfl, by decide +kernel, rfl, by decide +kernel, by decide +kernel⟩
structure ErS (K : PySem.W.Frag) (C L O fI : Addr) (dI : FuncData) : Prop where
  ox : OexC K C
  iC : PySem.W.findIn K (.ref C) "__init__" = some (some (.ref fI))
  tI : PySem.W.typeIn K (.ref fI) = some (.type "function")
  noV : PySem.W.findIn K (.ref C) "index" = some none
  F_init : Fun K "__init__" "BadRow.__init__" initR fI dI
  b_init : Binds K dI ["self", "index"] []
  xf : XfC K C
  xc : ExcC K C
  te : PySem.W.exmOne K (.ref C) (.ref L) = some true
  su : PySem.W.kitOne K (.ref C) (.ref C) = some true
  sv : PySem.W.kitOne K (.ref C) (.type "ValueError") = some true
  no : PySem.W.kitOne K (.ref C) (.ref O) = some false
section
variable {P : Program} {w : World} {K : PySem.W.Frag} {mg : Str → Option Value} {base : Heap} {a : Ad} {p : Pd} {mc : Value} {fI : Addr} {dI : FuncData}
theorem pass0F {X : Cx} : Passes CX0 X (fun _ _ _ => False) := fun _ _ _ _ _ _ _ h => h.elim
def spErrI (K : PySem.W.Frag) (C : Addr) : Sp := fun vs H Q _ => ∃ (e : Addr) (v : V), vs = [.ref e, v] ∧ H e = some (exo e C none) ∧ ∀ dx, H dx = none → dx ≠ e → Q .non (upd (upd H dx (exd dx [("index", v)])) e (exo e C (some dx)))
theorem ok_initR {C L O : Addr} (EX : ErS K C L O fI dI) : FnOk P w K mg base CX0 1 fI dI ["self", "index"] (spErrI K C) := by
  refine EX.F_init.ok sc_initR (fun vs H Q E h => ?_) (fun cdv A outer s H vs Q E hr h => ?_)
  · obtain ⟨e, v, rfl, _⟩ := h
    rfl
  · obtain ⟨e, v, rfl, he, q⟩ := h
    refine ⟨_, pss_one (ps_ost (pv 0) (pv 1)), ?_⟩
    exact ⟨v, rfl, .ref e, rfl, e, _, rfl, EX.ox, EX.noV, .inl ⟨he, fun dx hd ne => q dx hd ne⟩⟩
def RaisesI (C : Addr) (H : Hp) (v : V) (E : XK) : Prop := ∀ d H', H d = none → Same H H' → H' d = some (.xd [("index", v)]) → E (.ref C) (some d) H'
theorem raise_i {C : Addr} {H : Hp} {v : V} {E : XK} {ta : TA} {σ : L2.St} (ha : ∀ Q : List V → Hp → Prop, Q [v] H → ta σ H Q) (h : RaisesI C H v E) : tMkO C (spErrI K C) [] ta σ H E := by
  refine ha _ ⟨by show 1 ≤ 1000; decide, fun e ne => ⟨e, v, rfl, upd_same, fun dx hd hne => ⟨rfl, dx, [("index", v)], upd_same, ?_, ?_, ?_⟩⟩⟩
  · rw [upd_ne hne, upd_same]
  · rw [upd_ne hne] at hd; exact hd
  · rw [upd_ne hne] at hd
    refine h dx _ hd (fun b o hb => ?_) upd_same
    rw [upd_ne (ne_of_none hb hd), del_ne (ne_of_none hb ne), upd_ne (ne_of_none hb ne), upd_ne (ne_of_none hb hd), upd_ne (ne_of_none hb ne)]
    exact hb
theorem fnR0 {CX : CXT} {k : Nat} {f : Addr} {fd : FuncData} {ps : List Str} {sp : Sp} (F : FnOk P w K mg base CX k f fd ps sp) (hb : Binds K fd ps []) : FnR P w K mg base CX k f sp := (F.raw hb .nil).imp fun vs H Q E h => by rw [List.append_nil]; exact h
def spGetC (K : PySem.W.Frag) (C CS : Addr) : Sp := fun vs H Q E => ∃ (o : Addr) (x : V) (d : PyData) (ds : List PyData), vs = [.ref o, x] ∧ CtIs K C H o ds ∧ At d ∧ Dp K H x d ∧ (∀ (i : Nat) r y, d = .int (i : Int) → ds[i]? = some r → Dp K H y r → Q y H) ∧ (wh 0 ((ds.length : Int) - 1) d = false → RaisesI CS H x E)
theorem ok_getC {L O : Addr} (T : Top K mg a) (B : CrC K a.c_Certificate mc p) (ES : ErS K a.c_BadRow L O fI dI) (G_is_whole : FnOk P w K mg base CX0 2 a.f_is_whole a.d_is_whole ["value", "least", "most"] (spWhole K)) : FnOk P w K mg base (CX P w) 4 p.fX p.dX ["self", "at"] (spGetC K a.c_Certificate a.c_BadRow) := by
  have G_err := ok_initR (P := P) (w := w) (mg := mg) (base := base) ES
  refine B.F_X.okX sc_Certificate_getitem (fun vs H Q E h => ?_) (fun cdv A' outer s H vs Q E hr h => ?_)
  · obtain ⟨_, _, _, _, rfl, _⟩ := h
    rfl
  · obtain ⟨o, x, d, ds, rfl, ⟨dx, t, ho, ht, _⟩, at_, hx, q, r⟩ := h
    refine ⟨_, (pss_cons (ps_if (pt_not (pt_val (pe_call G_is_whole (hr.mono (by decide)) (by rfl) T.m_is_whole T.F_is_whole.kp T.b_is_whole .nil pass0 (pa_cons (pv 1) (pa_cons pe_int (pa_cons (pe_op op_sub (pe_callB call_len_seq (by rfl) T.z_len (by decide +kernel) (pa_cons (pe_fld (pv 0) (by rfl)) pa_nil)) pe_int) pa_nil))))))
      (pss_one (ps_raise rfl (takes_of rfl rfl rfl rfl) (pmk_oex ES.ox ES.iC ES.tI G_err (hr.mono (by decide)) ES.b_init .nil pass0F (by rfl) T.m_BadRow (pa_cons (pv 1) pa_nil))))
      pss_nil)
    (pss_one (ps_ret (pe_ix ix_seq (pe_fld (pv 0) (by rfl)) (pv 1) (fun _ _ => rfl))))), ?_⟩
    obtain ⟨xs, hxs, hds⟩ := dp_tup ht
    have lx := dps_le hds
    refine ⟨x, rfl, .ref o, rfl, o, _, dx, _, _, rfl, ho, B.ins.cl, B.nR, lkR _, t, xs, rfl, .inr hxs, _, _, rfl, rfl, ?_⟩
    dsimp only [tNil, List.cons_append, List.nil_append]
    refine ⟨x, d, 0, _, rfl, at_, hx, _, rfl, ?_⟩
    rw [lx]
    cases c : wh 0 ((ds.length : Int) - 1) d with
    | false => exact iteT (raise_i (fun Q q => ⟨x, rfl, q⟩) (r c))
    | true =>
      cases at_ with
      | non => cases c
      | bool b => cases c
      | str s => cases c
      | int i =>
        cases hx
        have c2 : (0 : Int) ≤ i ∧ i ≤ (ds.length : Int) - 1 := of_decide_eq_true c
        obtain ⟨n, rfl⟩ : ∃ n : Nat, i = n := ⟨i.toNat, by omega⟩
        have hn : n < ds.length := by omega
        obtain ⟨y, gy, hy⟩ := dps_ix hds (List.getElem?_eq_getElem hn)
        exact iteF ⟨.ref o, rfl, o, _, dx, _, _, rfl, ho, B.ins.cl, B.nR, lkR _, _, rfl, .inr (.inl ⟨t, xs, (n : Int), y, rfl, rfl, hxs, atI_nat gy, q n _ y rfl (List.getElem?_eq_getElem hn) hy⟩)⟩
/-! ### _law_item -/
def spItem (K : PySem.W.Frag) (C : Addr) : Sp := fun vs H Q _ => ∃ (o : Addr) (x : V) (d : PyData) (ds : List PyData), vs = [.ref o, x] ∧ CtIs K C H o ds ∧ At d ∧ Dp K H x d ∧ (∀ (i : Nat) r y, d = .int (i : Int) → ds[i]? = some r → Dp K H y r → ∀ p H', H p = none → Same H H' → H' p = some (.lst [y]) → Q (.ref p) H') ∧
  (wh 0 ((ds.length : Int) - 1) d = false → ∀ p H', H p = none → Same H H' → H' p = some (.lst [.str "refused", x]) → Q (.ref p) H')
theorem ans_and3 {t u v : TT} {σ : L2.St} {H : Hp} {a b c : Bool} (h1 : Ans t σ H a) (h2 : Ans u σ H b) (h3 : Ans v σ H c) : Ans (tAnd t (tAnd u v)) σ H (a && (b && c)) := ans_and2 h1 (ans_and2 h2 h3)
theorem ok_item (T : Top K mg a) (B : CrC K a.c_Certificate mc p) (ES : ErS K a.c_BadRow a.c_LookerError a.c_BadStep fI dI) (G_is_whole : FnOk P w K mg base CX0 2 a.f_is_whole a.d_is_whole ["value", "least", "most"] (spWhole K)) : FnOk P w K mg base CX0 6 a.f_l_item a.d_l_item ["_law_certificate", "_law_at"] (spItem K a.c_Certificate) := by
  have G := ok_getC (P := P) (w := w) (base := base) T B ES G_is_whole
  refine T.F_l_item.ok sc_l_item (fun vs H Q E h => ?_) (fun cdv A' outer s H vs Q E hr h => ?_)
  · obtain ⟨_, _, _, _, rfl, _⟩ := h
    rfl
  · obtain ⟨o, x, d, ds, rfl, hC, at_, hx, q1, q2⟩ := h
    refine ⟨_, pss_cons (ps_try_as (i := 2) (Wout := fun _ _ _ _ => False) rfl rfl sc_l_item.nd rfl rfl ⟨rfl, by decide, .inl T.m_LookerError⟩ takes0
        (fun W pn xe tk _ => pss_one (ps_ret (pe_lst (pa_cons (R1.pe_ixOS (E := WE W) (pv 0) (pv 1) B.gs B.gf B.gn (fnR0 G B.b_X) (hr.mono (by decide)) (fun σ => passAt tk σ) (fun _ _ => rfl)) pa_nil))))
        (fun ea oe cls d pn hz hf => pss_one (ps_if (PW.pt (pw_and (pt_val (pe_callB (R1.call_isX (K := K) rfl ES.xc hz hf) (by rfl) T.z_isinstance (by decide +kernel) (pa_cons (pv 2) (pa_cons (pe_glob (v := .ref _) (by rfl) T.m_BadRow rfl) pa_nil)))) (pw_and (pt_val (pe_callB (R1.call_isXT (K := K) rfl ES.xc hz hf) (by rfl) T.z_isinstance (by decide +kernel) (pa_cons (pv 2) (pa_cons (pe_bltn (v := .ty "ValueError") (by rfl) T.z_ValueError (by decide +kernel) rfl) pa_nil)))) (pw_and1 (pt_not (pt_val (pe_callB (R1.call_isX (K := K) rfl ES.xc hz hf) (by rfl) T.z_isinstance (by decide +kernel) (pa_cons (pv 2) (pa_cons (pe_glob (v := .ref _) (by rfl) T.m_BadStep rfl) pa_nil)))))))))
          (pss_one (ps_ret (pe_lst (pa_cons pe_str (pa_cons (pe_xf ES.xf ES.noV hz hf (pv 2)) pa_nil))))) pss_nil)))
      (pss_one (ps_ret (pe_lst pa_nil))), ?_⟩
    obtain ⟨dx, t, ho, _⟩ := id hC
    have sm9 : ∀ {n : Nat}, n ≤ 400 → n ≤ sizeLine := fun h => Nat.le_of_lt (small1000 (by omega))
    refine ⟨.ref o, rfl, x, rfl, o, dx, _, rfl, ho, o, x, d, ds, rfl, hC, at_, hx, fun i r y e1 e2 e3 => ⟨sm9 (by simp), fun l nl => q1 i r y e1 e2 e3 l _ nl (same_upd nl) upd_same⟩, fun hn d0 H' hd sm hxd => ⟨true, ES.te, fun _ ea hea => ?_, fun z => by cases z⟩⟩
    refine if_ans (b := true && (true && !false)) (ans_and3 (fun Q q => ⟨_, rfl, a.c_BadRow, true, d0, _, rfl, rfl, hxd, rfl, ES.su, true, rfl, q⟩) (fun Q q => ⟨_, rfl, "ValueError", true, d0, _, rfl, rfl, hxd, rfl, ES.sv, true, rfl, q⟩) (fun Q q => ⟨_, rfl, a.c_BadStep, false, d0, _, rfl, rfl, hxd, rfl, ES.no, false, rfl, q⟩)) (fun _ => ?_) (fun e => nomatch e)
    exact ⟨.ref ea, rfl, rfl, rfl, d0, _, x, rfl, hxd, rfl, sm9 (by simp), fun p np => q2 hn p _ (sm.free np) (sm.trans (same_upd np)) upd_same⟩
end
end K28


/-! a certificate is asked -/
namespace K28
open PySem PySem.Spec PyProof.Rows L2 RN
section
variable {P : Program} {w : World} {K : PySem.W.Frag} {mg : Str → Option Value} {base : Heap} {a : Ad} {p : Pd} {mc : Value} {fI : Addr} {dI : FuncData}
theorem eqvAll_len : ∀ {a b : List PyData}, PyData.eqvAll a b = true → a.length = b.length
  | [], [], _ => rfl
  | [], _ :: _, h => by simp [PyData.eqvAll] at h
  | _ :: _, [], h => by simp [PyData.eqvAll] at h
  | x :: a, y :: b, h => by
    have h2 : (PyData.eqv x y && PyData.eqvAll a b) = true := by
      rw [PyData.eqvAll] at h
      exact h
    rw [List.length_cons, List.length_cons, eqvAll_len (Bool.and_eq_true_iff.mp h2).2]
theorem eqv_more (ds : List PyData) (d : PyData) : PyData.eqv (.tuple ds) (.tuple (ds ++ [d])) = false := by
  cases e : PyData.eqv (.tuple ds) (.tuple (ds ++ [d])) with
  | false => rfl
  | true =>
    have h : PyData.eqvAll ds (ds ++ [d]) = true := by
      rw [PyData.eqv] at e
      exact e
    have := eqvAll_len h
    rw [List.length_append] at this
    simp at this
theorem ro_given (n : Int) : Ro (.tuple [.str "given", .int n]) := ⟨rfl, Nat.le_of_ble_eq_true rfl, by simp only [PyData.canLay0, PyData.canLayAll0, Bool.and_true]; decide +kernel, Nat.le_of_ble_eq_true rfl, .tup _ (by simp)⟩
theorem wh_int (lo hi i : Int) : wh lo hi (.int i) = decide (lo ≤ i ∧ i ≤ hi) := rfl
theorem mk_ctx {C : Addr} {H : Hp} {q : Addr} {xs : List V} {ds : List PyData} {E : XK} (ro : RoA ds) (hq : SqI K H q xs) (hd : DpAll K H xs ds) (hn : ∀ x, H x = none → q ≠ x) {x dx : Addr} (hx : H x = none) (hdx : H dx = none) (hne : dx ≠ x) {R : VK} (c : ∀ H', Same H H' → CtIs K C H' x ds → R .non H') :
    spInit K C [.ref x, .ref q] (upd (upd H dx (.own x)) x (.ins C dx [])) R E := by
  have s1 : Same H (upd H dx (.own x)) := same_upd hdx
  have nx : (upd H dx (.own x)) x = none := by rw [upd_ne (Ne.symm hne)]; exact hx
  have s2 : Same H (upd (upd H dx (.own x)) x (.ins C dx [])) := s1.trans (same_upd nx)
  refine ⟨x, q, dx, xs, ds, rfl, upd_same, hq.imp (sqL_same s2) (s2 _ _), hn x hx, dps_tk (Same.tk s2) hd ro.kb, ro, fun H' k h => c H' (fun b o hb => ?_) h⟩
  exact k b o (fun z => by rw [z, hx] at hb; cases hb) (s2 _ _ hb)
def spIs (K : PySem.W.Frag) (C : Addr) : Sp := fun vs H Q _ => ∃ (c rl : Addr) (ds : List PyData), vs = [.ref c, .ref rl] ∧ CtIs K C H c ds ∧ LsIs K H rl ds ∧ RoA ds ∧ ds.length ≤ 60 ∧ ∀ H', Same H H' → Q (.bl true) H'
theorem ok_is (T : Top K mg a) (B : CrC K a.c_Certificate mc p) (G_l_alike : FnOk P w K mg base CX0 30 a.f_l_alike a.d_l_alike ["_law_actual", "_law_due"] (spAl (Sm K 30)))
    (G_l_item : FnOk P w K mg base CX0 6 a.f_l_item a.d_l_item ["_law_certificate", "_law_at"] (spItem K a.c_Certificate)) : FnOk P w K mg base CX0 31 a.f_l_is a.d_l_is ["_law_certificate", "_law_rows"] (spIs K a.c_Certificate) := by
  have G_init := ok_init (P := P) (w := w) (mg := mg) (base := base) T B
  have G_len := ok_len (P := P) (w := w) (mg := mg) (base := base) T B
  have G_last := ok_last (P := P) (w := w) (mg := mg) (base := base) T B
  have G_iter := ok_iter (P := P) (w := w) (mg := mg) (base := base) T B
  have G_eq := ok_eq (P := P) (w := w) (mg := mg) (base := base) T B
  refine T.F_l_is.ok sc_l_is (fun vs H Q E h => ?_) (fun cdv A' outer s H vs Q E hr h => ?_)
  · obtain ⟨_, _, _, rfl, _⟩ := h
    rfl
  · obtain ⟨c, rl, ds, rfl, hC, ⟨vs, hrl, hds⟩, ro, hl, q⟩ := h
    refine ⟨_, (pss_cons (ps_if (PW.pt (pw_or (pt_not (pt_val (pe_callB (C8.call_isC B.ins) (by rfl) T.z_isinstance (by decide +kernel) (pa_cons (pv 0) (pa_cons (pe_glob (v := .ref _) (by rfl) T.m_Certificate rfl) pa_nil))))) (pw_or1 (pt_not (pt_val (pe_call G_l_alike (hr.mono (by decide)) (by rfl) T.m_l_alike T.F_l_alike.kp T.b_l_alike .nil pass0 (pa_cons (pe_fld (pv 0) (by rfl)) (pa_cons (pe_callTy call_tuple_of (by rfl) T.z_tuple (by decide +kernel) (pa_cons (pv 1) pa_nil)) pa_nil))))))))
      (pss_one (ps_ret pe_bl))
      pss_nil)
    (pss_cons (ps_if (PW.pt (pw_or (pt_cmpR op_ne (pe_callB (R1.call_lenO B.itl.ln B.itl.lnF (fnR0 G_len B.b_L) (hr.mono (by decide)) pass0) (by rfl) T.z_len (by decide +kernel) (pa_cons (pv 0) pa_nil)) (pe_callB call_len_seq (by rfl) T.z_len (by decide +kernel) (pa_cons (pv 1) pa_nil)) (nomark _)) (pw_or1 (pt_not (pt_val (pe_call G_l_alike (hr.mono (by decide)) (by rfl) T.m_l_alike T.F_l_alike.kp T.b_l_alike .nil pass0 (pa_cons (pe_prop (pv 0) B.ins.cl B.pr G_last (hr.mono (by decide)) B.b_P .nil pass0 (by rfl)) (pa_cons (pe_op op_sub (pe_callB call_len_seq (by rfl) T.z_len (by decide +kernel) (pa_cons (pv 1) pa_nil)) pe_int) pa_nil))))))))
      (pss_one (ps_ret pe_bl))
      pss_nil)
    (pss_cons (ps_if (PW.pt (pw_or (pt_not (pt_val (pe_call G_l_alike (hr.mono (by decide)) (by rfl) T.m_l_alike T.F_l_alike.kp T.b_l_alike .nil pass0 (pa_cons (pe_callTy (RI.call_listO rfl B.itl (fnR0 G_iter B.b_T) (fnR0 G_len B.b_L) (hr.mono (by decide))) (by rfl) T.z_list (by decide +kernel) (pa_cons (pv 0) pa_nil)) (pa_cons (pv 1) pa_nil))))) (pw_or1 (pt_cmpR (R1.op_neO B.om B.ns B.es B.en (fnR0 G_eq B.b_E) (hr.mono (by decide)) hr.units pass0) (pv 0) (pe_make B.mkr G_init (hr.mono (by decide)) (by rfl) T.m_Certificate B.b_I .nil pass0 (pa_cons (pe_callTy call_tuple_of (by rfl) T.z_tuple (by decide +kernel) (pa_cons (pv 1) pa_nil)) pa_nil)) (nomark _)))))
      (pss_one (ps_ret pe_bl))
      pss_nil)
    (pss_cons (ps_for PassesOwn.never rfl (pi_range1 (by rfl) T.z_range (pa_cons (pe_callB call_len_seq (by rfl) T.z_len (by decide +kernel) (pa_cons (pv 1) pa_nil)) pa_nil)) (pg_name (i := 2) sc_l_is.nd rfl (.inl rfl))
      (pss_one (ps_if (pt_not (pt_val (pe_call G_l_alike (hr.mono (by decide)) (by rfl) T.m_l_alike T.F_l_alike.kp T.b_l_alike .nil pass0 (pa_cons (pe_call G_l_item (hr.mono (by decide)) (by rfl) T.m_l_item T.F_l_item.kp T.b_l_item .nil pass0 (pa_cons (pv 0) (pa_cons (pv 2) pa_nil))) (pa_cons (pe_lst (pa_cons (pe_ix ix_seq (pv 1) (pv 2) (fun _ _ => rfl)) pa_nil)) pa_nil)))))
        (pss_one (ps_ret pe_bl))
        pss_nil)))
    (pss_cons (ps_for PassesOwn.never rfl (pi_list (pe_lst (pa_cons (pe_un un_neg pe_int) (pa_cons (pe_callB call_len_seq (by rfl) T.z_len (by decide +kernel) (pa_cons (pv 1) pa_nil)) (pa_cons (pe_op op_add (pe_callB call_len_seq (by rfl) T.z_len (by decide +kernel) (pa_cons (pv 1) pa_nil)) pe_int) (pa_cons pe_bl (pa_cons pe_bl (pa_cons pe_non (pa_cons pe_str pa_nil))))))))) (pg_name (i := 2) sc_l_is.nd rfl (.inl rfl))
      (pss_one (ps_if (pt_not (pt_val (pe_call G_l_alike (hr.mono (by decide)) (by rfl) T.m_l_alike T.F_l_alike.kp T.b_l_alike .nil pass0 (pa_cons (pe_call G_l_item (hr.mono (by decide)) (by rfl) T.m_l_item T.F_l_item.kp T.b_l_item .nil pass0 (pa_cons (pv 0) (pa_cons (pv 2) pa_nil))) (pa_cons (pe_lst (pa_cons pe_str (pa_cons (pv 2) pa_nil))) pa_nil)))))
        (pss_one (ps_ret pe_bl))
        pss_nil)))
    (pss_one (ps_ret (pe_cmpR (R1.op_neO B.om B.ns B.es B.en (fnR0 G_eq B.b_E) (hr.mono (by decide)) hr.units pass0) (pv 0) (pe_make B.mkr G_init (hr.mono (by decide)) (by rfl) T.m_Certificate B.b_I .nil pass0 (pa_cons (pe_op op_cat (pv 1) (pe_lst (pa_cons (pe_tup (pa_cons pe_str (pa_cons pe_int pa_nil))) pa_nil))) pa_nil)) (nomark _))))))))), ?_⟩
    have sm9 : ∀ {n : Nat}, n ≤ 400 → n ≤ sizeLine := fun h => Nat.le_of_lt (small1000 (by omega))
    have lv := dps_le hds
    obtain ⟨dx, t, hc, ht, tv, htv⟩ := id hC
    -- the rows
    refine ⟨.ref c, rfl, c, dx, _, rfl, hc, true, rfl, iteF ?_⟩
    refine ⟨.ref c, rfl, c, _, dx, _, _, rfl, hc, B.ins.cl, B.nR, lkR _, .ref rl, rfl, rl, vs, rfl, .inl ⟨.of hrl, fun t1 n1 => ?_⟩⟩
    have s1 := same_upd (o := .tup vs) n1
    have kt := (roa_tup ro).1
    refine ⟨_, _, rfl, sm_rows ro (by omega) (dp_tk (Same.tk s1) _ _ ht kt) (.tup (.of upd_same) (dps_tk (Same.tk s1) hds ro.kb)), true, rfl, iteF ?_⟩
    generalize upd H t1 (.tup vs) = H1 at s1 ⊢
    have hC1 := hC.same ro s1
    -- their number, the last one
    have hrl1 := s1 _ _ hrl
    have hc1 := s1 _ _ hc
    refine ⟨.ref c, rfl, c, dx, _, rfl, hc1, c, ds, rfl, hC1, ds.length, rfl, by omega, .ref rl, rfl, rl, vs, rfl, .inl (.of hrl1), rfl, _, rfl, ?_⟩
    rw [decide_eq_true (show V.int ((ds.length : Nat) : Int) = V.int (vs.length : Int) by rw [lv])]
    refine iteF ⟨.ref c, rfl, c, dx, _, rfl, hc1, c, ds, rfl, hC1, .ref rl, rfl, rl, vs, rfl, .inl (.of hrl1), _, _, rfl, rfl, ?_⟩
    rw [lv]
    refine ⟨_, _, rfl, .int _, true, rfl, iteF ?_⟩
    -- as a list
    refine ⟨.ref c, rfl, c, dx, _, rfl, hc1, fun q5 n5 => ?_⟩
    have w7 : Same H1 (upd H1 q5 (.lst [])) := same_upd n5
    have ht1 := dp_tk (Same.tk s1) _ _ ht kt
    obtain ⟨xs, hxs, hd1⟩ := dp_tup ht1
    have lx := dps_le hd1
    refine ⟨c, dx, t, xs, rfl, w7 _ _ hc1, sqT_tk (Same.tk w7) hxs, fun it nit => ?_⟩
    have w8 : Same (upd H1 q5 (.lst [])) (upd (upd H1 q5 (.lst [])) it (RI.ItTO t it)) := same_upd nit
    have hq8 := w8 _ _ (show (upd H1 q5 (.lst [])) q5 = _ from upd_same)
    have itq : it ≠ q5 := fun z => by rw [z, upd_same] at nit; cases nit
    have n4it : H1 it = none := w7.free nit
    have itne : it ≠ t := fun z => by rw [z, s1 _ _ htv] at n4it; cases n4it
    refine ⟨it, t, xs, rfl, upd_same, itne, hq8, w8 _ _ (w7 _ _ hc1), c, ds, rfl, (hC1.same ro w7).same ro w8, ds.length, rfl, by omega, upd_same, sqT_tk (Same.tk (w7.trans w8)) hxs, by omega, hq8, ?_⟩
    have w9 : Same H1 (RI.behind (upd (upd H1 q5 (.lst [])) it (RI.ItTO t it)) q5 it xs) := fun b ob hb => by
      unfold RI.behind
      rw [upd_ne (ne_of_none hb n4it), upd_ne (ne_of_none hb n5), upd_ne (ne_of_none hb n4it), upd_ne (ne_of_none hb n5)]
      exact hb
    have hq9 : (RI.behind (upd (upd H1 q5 (.lst [])) it (RI.ItTO t it)) q5 it xs) q5 = some (.lst xs) := by
      unfold RI.behind
      rw [upd_ne (Ne.symm itq), upd_same]
    generalize RI.behind (upd (upd H1 q5 (.lst [])) it (RI.ItTO t it)) q5 it xs = H2 at w9 hq9 ⊢
    refine ⟨.ref rl, rfl, _, _, rfl, sm_list ro (by omega) (.lst (.of hq9) (dps_tk (Same.tk w9) hd1 ro.kb)) (.lst (.of (w9 _ _ hrl1)) (dps_tk (Same.tk (s1.trans w9)) hds ro.kb)), true, rfl, iteF ?_⟩
    -- equal to another one
    have s2 := s1.trans w9
    have hC2 := hC1.same ro w9
    have eqs : PyData.eqv (.tuple ds) (.tuple ds) = true := SeqAt.eqv_refl _ (SeqAt.canLay_of_shaped (roa_shaped ro))
    refine ⟨.ref c, rfl, .ref rl, rfl, rl, vs, rfl, .inl ⟨.of (s2 _ _ hrl), fun t3 n3 => ?_⟩⟩
    have s3 := same_upd (o := .tup vs) n3
    dsimp only [tNil, List.cons_append, List.nil_append]
    intro o3 dx3 no3 ndx3 ne3
    refine mk_ctx (ds := ds) ro (.inr upd_same) (dps_tk (Same.tk (s2.trans s3)) hds ro.kb) (nn_of upd_same) no3 ndx3 ne3 fun H3 s4 hC3 => ⟨rfl, ?_⟩
    have s24 := s3.trans s4
    obtain ⟨dy, u, ho3, _⟩ := id hC3
    refine ⟨c, dx, _, o3, dy, _, rfl, rfl, s24 _ _ (s2 _ _ hc), ho3, c, o3, ds, ds, rfl, hC2.same ro s24, hC3, ro, ro, _, rfl, _, rfl, ?_⟩
    rw [eqs]
    refine iteF ?_
    have s5 := s2.trans s24
    clear hC2 hC1 hC3 hd1 hxs ht1 w7 w8 hq8 w9 hq9
    have hrl5 := s5 _ _ hrl
    have hC5 := hC.same ro s5
    clear s24 s4 s3
    generalize hvl : H3 = H6 at s5 hrl5 hC5
    clear hvl
    refine ⟨.ref rl, rfl, rl, vs, rfl, .inl (.of hrl5), _, rfl, by omega, by omega, for_range (lo := 0) (n := vs.length) (fun i σ' H' => ∃ y2, σ' = [some (.ref c), some (.ref rl), y2] ∧ Same H6 H') ⟨_, rfl, Same.refl _⟩ ?_ ?_⟩
    · rintro i σ' H7 hi ⟨y2, rfl, s7⟩
      rw [Int.zero_add]
      have gv : vs[i]? = some vs[i] := List.getElem?_eq_getElem hi
      obtain ⟨r, gr, hr0⟩ := dps_at hds gv
      generalize vs[i] = vi at gv hr0
      have rr := ro r (List.mem_of_getElem? gr)
      have s67 := s5.trans s7
      refine ⟨.ref c, rfl, .int (i : Int), rfl, ?_⟩
      dsimp only [tNil, List.cons_append, List.nil_append]
      refine ⟨c, .int (i : Int), .int (i : Int), ds, rfl, hC5.same ro s7, .int _, .int _, fun j r' y e1 e2 hy p H8 np s8 hp => ?_, fun wf => ?_⟩
      · obtain rfl : j = i := by cases e1; omega
        rw [gr] at e2
        cases e2
        have s68 := s67.trans s8
        refine ⟨.ref rl, rfl, .int (j : Int), rfl, .inl ⟨rl, vs, (j : Int), vi, rfl, rfl, .of (s68 _ _ hrl), atI_nat gv, sm9 (by simp), fun p2 n2 => ?_⟩⟩
        have s9 := same_upd (o := .lst [vi]) n2
        refine ⟨_, _, rfl, sm_list (ds := [r]) (roa_one rr) (by simp) (.lst (.of (s9 _ _ hp)) (.cons (dp_tk (Same.tk (s8.trans s9)) _ _ hy rr.kb) .nil)) (.lst (.of upd_same) (.cons (dp_tk (Same.tk (s68.trans s9)) _ _ hr0 rr.kb) .nil)), true, rfl, iteF ⟨_, rfl, (s7.trans s8).trans s9⟩⟩
      · have : wh 0 ((ds.length : Int) - 1) (.int (i : Int)) = true := decide_eq_true (by omega)
        rw [this] at wf
        cases wf
    rintro σ' H7 ⟨y2, rfl, s7⟩
    have s67 := s5.trans s7
    have hrl7 := s67 _ _ hrl
    -- what is no index
    refine ⟨1, rfl, .ref rl, rfl, rl, vs, rfl, .inl (.of hrl7), .ref rl, rfl, rl, vs, rfl, .inl (.of hrl7), _, _, rfl, rfl, sm9 (by simp), fun LB nLB => ?_⟩
    obtain ⟨bad, hbad⟩ : ∃ bad : List V, bad = [.int (-1), .int (vs.length : Int), .int ((vs.length : Int) + 7), .bl true, .bl false, .non, .str "0"] := ⟨_, rfl⟩
    have s8 := same_upd (o := .lst bad) nLB
    have hLB : (upd H7 LB (.lst bad)) LB = some (.lst bad) := upd_same
    rw [← hbad]
    have each : ∀ (u : Nat) x, bad[u]? = some x → ∃ d, At d ∧ (∀ H, Dp K H x d) ∧ wh 0 ((ds.length : Int) - 1) d = false := fun u x hx => by
      rw [hbad] at hx
      match u, hx with
      | 0, hx => cases hx; exact ⟨.int (-1), .int _, fun _ => .int _, by rw [wh_int]; exact decide_eq_false (by omega)⟩
      | 1, hx => cases hx; exact ⟨.int (vs.length : Int), .int _, fun _ => .int _, by rw [wh_int]; exact decide_eq_false (by omega)⟩
      | 2, hx => cases hx; exact ⟨.int ((vs.length : Int) + 7), .int _, fun _ => .int _, by rw [wh_int]; exact decide_eq_false (by omega)⟩
      | 3, hx => cases hx; exact ⟨.bool true, .bool _, fun _ => .bl _, rfl⟩
      | 4, hx => cases hx; exact ⟨.bool false, .bool _, fun _ => .bl _, rfl⟩
      | 5, hx => cases hx; exact ⟨.none, .non, fun _ => .non, rfl⟩
      | 6, hx => cases hx; exact ⟨.str "0", .str _, fun _ => .str _, rfl⟩
    have s78 := s67.trans s8
    generalize upd H7 LB (.lst bad) = H8 at s8 hLB s78 ⊢
    refine ⟨LB, rfl, ⟨_, .of hLB⟩, for_it (walk_list (xs := bad)) (fun i σ' H' => ∃ y2, σ' = [some (.ref c), some (.ref rl), y2] ∧ Same H8 H') ⟨_, rfl, Same.refl _⟩ (fun i σ' H' _ h => by obtain ⟨_, _, h⟩ := h; exact .of (h _ _ hLB)) ?_ ?_⟩
    · rintro i x σ' _ H9 hi ⟨y2', rfl, s9⟩ ⟨rfl, hx⟩
      obtain ⟨d, at_, hdp, hw⟩ := each i x hx
      refine ⟨.ref c, rfl, x, rfl, ?_⟩
      dsimp only [tNil, List.cons_append, List.nil_append]
      refine ⟨c, x, d, ds, rfl, (hC.same ro s78).same ro s9, at_, hdp _, fun j r' y e1 e2 hy => ?_, fun _ p H10 np s10 hp => ?_⟩
      · subst e1
        have lj := (List.getElem?_eq_some_iff.mp e2).1
        have : wh 0 ((ds.length : Int) - 1) (.int (j : Int)) = true := decide_eq_true (by omega)
        rw [this] at hw
        cases hw
      · refine ⟨x, rfl, sm9 (by simp), fun p2 n2 => ?_⟩
        have s11 := same_upd (o := .lst [.str "refused", x]) n2
        have dd : PyData.depthAll [.str "refused", d] ≤ 1 ∧ wlAll [.str "refused", d] ≤ 10 := by
          cases at_ <;> exact ⟨Nat.le_of_ble_eq_true rfl, Nat.le_of_ble_eq_true rfl⟩
        refine ⟨_, _, rfl, sm_dp (.list [.str "refused", d]) 30 _ _ (.lst (.of (s11 _ _ hp)) (.cons (.str _) (.cons (hdp _) .nil))) (.lst (.of upd_same) (.cons (.str _) (.cons (hdp _) .nil))) ?_ ?_, true, rfl, iteF ⟨_, rfl, (s9.trans s10).trans s11⟩⟩
        · show PyData.depthAll [.str "refused", d] + 1 < 30
          omega
        · show 2 + wlAll [.str "refused", d] ≤ 1000000
          omega
    rintro σ' H9 ⟨y2', rfl, s9⟩
    have s79 := s78.trans s9
    -- not equal to a longer one
    refine ⟨.ref c, rfl, .ref rl, rfl, sm9 (by simp), fun t nt => ⟨sm9 (by simp), fun l nl => ?_⟩⟩
    have z1 := same_upd (o := .tup [.str "given", .int 1]) nt
    have z2 := same_upd (o := .lst [.ref t]) nl
    have htg := z2 _ _ (show (upd H9 t (.tup [.str "given", .int 1])) t = _ from upd_same)
    have hll : (upd (upd H9 t (.tup [.str "given", .int 1])) l (.lst [.ref t])) l = _ := upd_same
    have z12 := z1.trans z2
    refine ⟨rl, l, _, _, rfl, rfl, (s79.trans z12) _ _ hrl, hll, sm9 (by simp; omega), fun z nz => ?_⟩
    have z3 := same_upd (o := .lst (vs ++ [.ref t])) nz
    have z13 := z12.trans z3
    dsimp only [tNil, List.cons_append, List.nil_append]
    intro o3 dx3 no3 ndx3 ne3
    have rr : RoA (ds ++ [.tuple [.str "given", .int 1]]) := ro.app (roa_one (ro_given 1))
    refine mk_ctx (ds := ds ++ [.tuple [.str "given", .int 1]]) rr (.inl (.of upd_same)) (dps_app (dps_tk (Same.tk (s79.trans z13)) hds ro.kb) (.cons (.tup (.of (z3 _ _ htg)) (.cons (.str _) (.cons (.int _) .nil))) .nil)) (nn_of upd_same) no3 ndx3 ne3 fun H10 s10 hC10 => ⟨rfl, ?_⟩
    have s910 := z13.trans s10
    obtain ⟨dy, u, ho3, _⟩ := id hC10
    have sall := s79.trans s910
    refine ⟨c, dx, _, o3, dy, _, rfl, rfl, sall _ _ hc, ho3, c, o3, ds, _, rfl, hC.same ro sall, hC10, ro, rr, _, rfl, ?_⟩
    rw [eqv_more]
    exact q _ sall
end
end K28

/-! drawn rows -/
namespace K28
open PySem PySem.Spec PyProof.Rows L2 RN
theorem kp_tk {H H' : Hp} {o : Addr} {ob : HO} (ho : H o = some ob) (hn : NoTup ob) (k : Kp o H H') : Tk H H' := tk_but ho hn fun b u ne z => k b u ne z
theorem sta_tk {H H' : Hp} {sc st : Addr} (S : Sta sc H st) (k : Kp st H H') : Tk H H' := by
  obtain ⟨ns, i, b, s, l, hne, hst, _⟩ := S.ex
  exact kp_tk hst True.intro k
theorem Sta.same {H H' : Hp} {sc st : Addr} (S : Sta sc H st) (s : Same H H') : Sta sc H' st := by
  obtain ⟨ns, i, b, s1, l, hne, hst, hsc, r⟩ := S.ex
  exact ⟨ns, i, b, s1, l, hne, s _ _ hst, s _ _ hsc, r⟩
theorem Sta.nn {H : Hp} {D sc st : Addr} (S0 : Sta sc H st) (nD : H D = none) : D ≠ st := by
  obtain ⟨ns0, i0, b0, s0, l0, _, h1, h2, _⟩ := S0.ex
  exact (ne_of_none h1 nD).symm
theorem Sta.mut {H H' : Hp} {D sc st : Addr} {o : HO} (S0 : Sta sc H st) (nD : H D = none) (S : Sta sc H' st) : Sta sc (upd H' D o) st := by
  obtain ⟨ns0, i0, b0, s0, l0, _, h1, h2, _⟩ := S0.ex
  obtain ⟨ns, i, b, s1, l, hne, hst, hsc, r⟩ := S.ex
  refine ⟨ns, i, b, s1, l, hne, ?_, ?_, r⟩
  · rw [upd_ne (ne_of_none h1 nD)]; exact hst
  · rw [upd_ne (ne_of_none h2 nD)]; exact hsc
theorem kp_free {H H' : Hp} {sc st p : Addr} (S : Sta sc H' st) (k : Kp st H H') (h : H' p = none) : H p = none := by
  by_cases z : p = st
  · subst z
    obtain ⟨ns, i, b, s, l, hne, hst, _⟩ := S.ex
    rw [hst] at h; cases h
  · cases q : H p with
    | none => rfl
    | some o => rw [k _ _ z q] at h; cases h
/-! ### data of a bounded size -/
structure Ok (n m : Nat) (d : PyData) : Prop where
  kb : RN.kb d = true
  dep : d.depth ≤ n
  cl : d.canLay0 = true
  wt : wl d ≤ m
theorem Ok.mono {n m n' m' : Nat} {d : PyData} (h : Ok n m d) (a : n ≤ n') (b : m ≤ m') : Ok n' m' d := ⟨h.kb, Nat.le_trans h.dep a, h.cl, Nat.le_trans h.wt b⟩
theorem ok_tup {n m : Nat} : ∀ {ds : List PyData}, (∀ d ∈ ds, Ok n m d) → RN.kb (.tuple ds) = true ∧ PyData.depthAll ds ≤ n ∧ PyData.canLayAll0 ds = true ∧ wlAll ds ≤ m * ds.length
  | [], _ => ⟨rfl, Nat.zero_le _, rfl, Nat.zero_le _⟩
  | d :: ds, h => by
    obtain ⟨a1, a2, a3, a4⟩ := ok_tup fun x hx => h x (List.mem_cons_of_mem _ hx)
    have hd := h d List.mem_cons_self
    refine ⟨?_, ?_, ?_, ?_⟩
    · show (RN.kb d && RN.kb (.tuple ds)) = true
      rw [hd.kb, a1]; rfl
    · show max d.depth (PyData.depthAll ds) ≤ n
      have := hd.dep
      omega
    · show (d.canLay0 && PyData.canLayAll0 ds) = true
      rw [hd.cl, a3]; rfl
    · show wl d + wlAll ds ≤ m * (ds.length + 1)
      have := hd.wt
      rw [Nat.mul_add]
      omega
theorem Ok.tup {n m : Nat} {ds : List PyData} (h : ∀ d ∈ ds, Ok n m d) : Ok (n + 1) ((m + 1) * ds.length) (.tuple ds) := by
  obtain ⟨a1, a2, a3, a4⟩ := ok_tup h
  refine ⟨a1, ?_, ?_, ?_⟩
  · show PyData.depthAll ds + 1 ≤ n + 1
    omega
  · exact a3
  · show ds.length + wlAll ds ≤ (m + 1) * ds.length
    rw [Nat.add_mul]
    omega
theorem Ok.int (i : Int) : Ok 0 0 (.int i) := ⟨rfl, Nat.le_refl _, rfl, Nat.le_refl _⟩
theorem Ok.bool (b : Bool) : Ok 0 0 (.bool b) := ⟨rfl, Nat.le_refl _, rfl, Nat.le_refl _⟩
theorem Ok.non : Ok 0 0 .none := ⟨rfl, Nat.le_refl _, rfl, Nat.le_refl _⟩
theorem Ok.str {s : Str} (h : PyData.strOk s = true) : Ok 0 0 (.str s) := ⟨rfl, Nat.le_refl _, h, Nat.le_refl _⟩
theorem Ok.ro {d : PyData} (h : Ok 8 200 d) (f : MvK d) : Ro d := ⟨h.kb, h.dep, h.cl, h.wt, f⟩
/-! ### what displays give -/
section
variable {K : PySem.W.Frag} {σ : L2.St} {H0 : Hp}
def GD (K : PySem.W.Frag) (t : TE) (σ : L2.St) (H0 : Hp) (d : PyData) : Prop := ∀ (H1 : Hp), Same H0 H1 → ∀ Q : VK, (∀ x H2, Same H1 H2 → Dp K H2 x d → Q x H2) → t σ H1 Q
def GA (K : PySem.W.Frag) (t : TA) (σ : L2.St) (H0 : Hp) (ds : List PyData) : Prop := (∀ d ∈ ds, RN.kb d = true) ∧ ∀ (H1 : Hp), Same H0 H1 → ∀ Q : List V → Hp → Prop, (∀ xs H2, Same H1 H2 → DpAll K H2 xs ds → Q xs H2) → t σ H1 Q
def GS (K : PySem.W.Frag) (t : TE) (σ : L2.St) (H0 : Hp) (ds : List PyData) : Prop := ∀ (H1 : Hp), Same H0 H1 → ∀ Q : VK, (∀ p H2, H1 p = none → Same H1 H2 → LsIs K H2 p ds → Q (.ref p) H2) → t σ H1 Q
theorem ga_nil : GA K tNil σ H0 [] := ⟨(fun d h => nomatch h), fun H1 _ Q c => c [] H1 (Same.refl _) .nil⟩
theorem ga_cons {te : TE} {t : TA} {d : PyData} {ds : List PyData} (h : GD K te σ H0 d) (kd : RN.kb d = true) (g : GA K t σ H0 ds) : GA K (tCons te t) σ H0 (d :: ds) :=
  ⟨fun x hx => (List.mem_cons.mp hx).elim (fun e => by rw [e]; exact kd) (g.1 x), fun H1 s1 Q c => h H1 s1 _ fun x H2 s2 hx => g.2 H2 (s1.trans s2) _ fun xs H3 s3 hxs => c _ H3 (s2.trans s3) (.cons (dp_tk (Same.tk s3) _ _ hx kd) hxs)⟩
theorem gd_tup {t : TA} {ds : List PyData} (h : GA K t σ H0 ds) (l : ds.length ≤ 400) : GD K (tTup t) σ H0 (.tuple ds) := fun H1 s1 Q c => h.2 H1 s1 _ fun xs H2 s2 hxs => ⟨Nat.le_of_lt (small1000 (by rw [dps_le hxs]; omega)), fun p np => c _ _ (s2.trans (same_upd np)) (.tup (.of upd_same) (dps_tk (tk_new np) hxs h.1))⟩
theorem gd_str {s : Str} : GD K (tC (.str s)) σ H0 (.str s) := fun H1 _ Q c => c _ H1 (Same.refl _) (.str _)
theorem gd_int {i : Int} : GD K (tC (.int i)) σ H0 (.int i) := fun H1 _ Q c => c _ H1 (Same.refl _) (.int _)
theorem gd_bl {b : Bool} : GD K (tC (.bl b)) σ H0 (.bool b) := fun H1 _ Q c => c _ H1 (Same.refl _) (.bl _)
theorem gd_non : GD K (tC .non) σ H0 .none := fun H1 _ Q c => c _ H1 (Same.refl _) .non
theorem gd_var {i : Nat} {x : V} {d : PyData} (h : σ[i]? = some (some x)) (hx : Dp K H0 x d) (kd : RN.kb d = true) : GD K (tVar i) σ H0 d := fun H1 s1 Q c => ⟨x, h, c _ H1 (Same.refl _) (dp_tk (Same.tk s1) _ _ hx kd)⟩
theorem gs_lst {t : TA} {ds : List PyData} (h : GA K t σ H0 ds) (l : ds.length ≤ 400) : GS K (tLst t) σ H0 ds := fun H1 s1 Q c => h.2 H1 s1 _ fun xs H2 s2 hxs => ⟨Nat.le_of_lt (small1000 (by rw [dps_le hxs]; omega)), fun p np => c p _ (s2.free np) (s2.trans (same_upd np)) ⟨xs, upd_same, dps_tk (tk_new np) hxs h.1⟩⟩
theorem gs_cat {t1 t2 : TE} {ds es : List PyData} (h : GS K t1 σ H0 ds) (g : GS K t2 σ H0 es) (kd : ∀ d ∈ ds, RN.kb d = true) (ke : ∀ d ∈ es, RN.kb d = true) (l : ds.length + es.length ≤ 400) : GS K (tOp rCat t1 t2) σ H0 (ds ++ es) := fun H1 s1 Q c =>
  h H1 s1 _ fun p H2 np s2 ⟨xs, hp, hxs⟩ => g H2 (s1.trans s2) _ fun p2 H3 np2 s3 ⟨ys, hp2, hys⟩ => ⟨p, p2, _, _, rfl, rfl, s3 _ _ hp, hp2, Nat.le_of_lt (small1000 (by rw [dps_le hxs, dps_le hys]; omega)), fun z nz => c z _ ((s2.trans s3).free nz) ((s2.trans s3).trans (same_upd nz)) ⟨_, upd_same, dps_app (dps_tk (Same.tk (s3.trans (same_upd nz))) hxs kd) (dps_tk (tk_new nz) hys ke)⟩⟩
theorem gs_var {i : Nat} {p : Addr} {ds : List PyData} (h : σ[i]? = some (some (.ref p))) (hp : LsIs K H0 p ds) (kd : ∀ d ∈ ds, RN.kb d = true) : ∀ (H1 : Hp), Same H0 H1 → ∀ Q : VK, (LsIs K H1 p ds → Q (.ref p) H1) → tVar i σ H1 Q := fun H1 s1 Q c => ⟨_, h, c (let ⟨vs, h1, h2⟩ := hp; ⟨vs, s1 _ _ h1, dps_tk (Same.tk s1) h2 kd⟩)⟩
theorem gs_vcat {i : Nat} {p : Addr} {t2 : TE} {ds es : List PyData} (h : σ[i]? = some (some (.ref p))) (hp : LsIs K H0 p ds) (g : GS K t2 σ H0 es) (kd : ∀ d ∈ ds, RN.kb d = true) (ke : ∀ d ∈ es, RN.kb d = true) (l : ds.length + es.length ≤ 400) : GS K (tOp rCat (tVar i) t2) σ H0 (ds ++ es) := fun H1 s1 Q c =>
  gs_var h hp kd H1 s1 _ fun ⟨xs, hp, hxs⟩ => g H1 s1 _ fun p2 H3 np2 s3 ⟨ys, hp2, hys⟩ => ⟨p, p2, _, _, rfl, rfl, s3 _ _ hp, hp2, Nat.le_of_lt (small1000 (by rw [dps_le hxs, dps_le hys]; omega)), fun z nz => c z _ (s3.free nz) (s3.trans (same_upd nz)) ⟨_, upd_same, dps_app (dps_tk (Same.tk (s3.trans (same_upd nz))) hxs kd) (dps_tk (tk_new nz) hys ke)⟩⟩
theorem GS.run {t : TE} {H : Hp} {ds : List PyData} {Q : VK} (h : GS K t σ H ds) (c : ∀ p H2, H p = none → Same H H2 → LsIs K H2 p ds → Q (.ref p) H2) : t σ H Q := h H (Same.refl _) Q c
theorem GD.run {t : TE} {H : Hp} {d : PyData} {Q : VK} (h : GD K t σ H d) (c : ∀ x H2, Same H H2 → Dp K H2 x d → Q x H2) : t σ H Q := h H (Same.refl _) Q c
theorem LsIs.kp {H H' : Hp} {sc st p : Addr} {ds : List PyData} (S : Sta sc H st) (k : Kp st H H') (n : p ≠ st) (kd : ∀ d ∈ ds, RN.kb d = true) (h : LsIs K H p ds) : LsIs K H' p ds := let ⟨vs, h1, h2⟩ := h; ⟨vs, k _ _ n h1, dps_tk (sta_tk S k) h2 kd⟩
end
end K28


/-! a drawn row -/
namespace K28
open PySem PySem.Spec PyProof.Rows L2 RN
section
variable {P : Program} {w : World} {K : PySem.W.Frag} {mg : Str → Option Value} {base : Heap} {a : Ad}
theorem okl_nil {n m : Nat} : ∀ d ∈ ([] : List PyData), Ok n m d := fun d h => nomatch h
theorem okl_cons {n m : Nat} {d : PyData} {ds : List PyData} (h : Ok n m d) (g : ∀ x ∈ ds, Ok n m x) : ∀ x ∈ d :: ds, Ok n m x := fun x hx => (List.mem_cons.mp hx).elim (fun e => by rw [e]; exact h) (g x)
theorem Ok.i (i : Int) : Ok 3 30 (.int i) := (Ok.int i).mono (by omega) (by omega)
theorem Ok.b (i : Bool) : Ok 3 30 (.bool i) := (Ok.bool i).mono (by omega) (by omega)
theorem Ok.s {s : Str} (h : PyData.strOk s = true) : Ok 3 30 (.str s) := (Ok.str h).mono (by omega) (by omega)
theorem Ok.aa {d : PyData} (h : Ok 1 4 d) : Ok 3 30 d := h.mono (by omega) (by omega)
theorem ok5 {ds : List PyData} (h : ∀ d ∈ ds, Ok 3 30 d) (l : ds.length ≤ 5) : Ok 8 200 (.tuple ds) := (Ok.tup h).mono (by omega) (by omega)
theorem ok_pair {d : PyData} (h : Ok 1 4 d) (b : Bool) : Ok 2 10 (.tuple [d, .bool b]) := (Ok.tup (okl_cons h (okl_cons ((Ok.bool b).mono (by omega) (by omega)) okl_nil))).mono (by omega) (by show (4 + 1) * 2 ≤ 10; omega)
theorem ok_two {d : PyData} (h : Ok 1 4 d) : Ok 3 30 (.tuple [.tuple [d, .bool false], .tuple [d, .bool true]]) := (Ok.tup (okl_cons (ok_pair h false) (okl_cons (ok_pair h true) okl_nil))).mono (by omega) (by show (10 + 1) * 2 ≤ 30; omega)
def mA (da : PyData) (i j : Int) : List PyData := [.tuple [.str "given", .int (1 + j)], .tuple [.str "theory", .str "", .tuple [.tuple [da, .bool false], .tuple [da, .bool true]]], .tuple [.str "theory", .str "o", .tuple []], .tuple [.str "given", .int i, .int j]]
def mB (da : PyData) (i j : Int) : List PyData := [.tuple [.str "resolve", .int i, .int j], .tuple [.str "resolve", .int i, .int j, da, da], .tuple [.str "resolve", .bool true, .int j, da]]
def mC (da : PyData) (i j : Int) : List PyData := [.tuple [.str "resolve", .int i, .bool false, da], .tuple [.str "resolve", .int i, .str (toString j), da], .tuple [.str "Resolve", .int i, .int j, da]]
def mD (i : Int) : List PyData := [.str "resolve", .none, .int i, .tuple []]
def menu (da : PyData) (i j : Int) : List PyData := mA da i j ++ mB da i j ++ mC da i j ++ mD i
theorem strOk_int {j : Int} (h : -2 ≤ j ∧ j ≤ 6) : PyData.strOk (toString j : Str) = true := by
  obtain ⟨n, hn, rfl⟩ : ∃ n : Nat, n < 9 ∧ j = (n : Int) - 2 := ⟨(j + 2).toNat, by omega, by omega⟩
  match n, hn with
  | 0, _ => decide +kernel
  | 1, _ => decide +kernel
  | 2, _ => decide +kernel
  | 3, _ => decide +kernel
  | 4, _ => decide +kernel
  | 5, _ => decide +kernel
  | 6, _ => decide +kernel
  | 7, _ => decide +kernel
  | 8, _ => decide +kernel
theorem menu_ok {da : PyData} {i j : Int} (h : Ok 1 4 da) (hj : -2 ≤ j ∧ j ≤ 6) : ∀ d ∈ menu da i j, Ro d := by
  have sj := strOk_int hj
  unfold menu mA mB mC mD
  simp only [List.cons_append, List.nil_append, List.forall_mem_cons]
  have sr : PyData.strOk ("resolve" : Str) = true := by decide +kernel
  have sg : PyData.strOk ("given" : Str) = true := by decide +kernel
  have st : PyData.strOk ("theory" : Str) = true := by decide +kernel
  have sR : PyData.strOk ("Resolve" : Str) = true := by decide +kernel
  have s0 : PyData.strOk ("" : Str) = true := by decide +kernel
  have so : PyData.strOk ("o" : Str) = true := by decide +kernel
  have e0 : Ok 3 30 (.tuple []) := (Ok.tup (n := 0) (m := 0) okl_nil).mono (by omega) (by simp)
  refine ⟨?_, ?_, ?_, ?_, ?_, ?_, ?_, ?_, ?_, ?_, ?_, ?_, ?_, ?_, fun d h => nomatch h⟩
  · exact (ok5 (okl_cons (.s sg) (okl_cons (.i _) okl_nil)) (by simp)).ro (.tup _ (by simp))
  · exact (ok5 (okl_cons (.s st) (okl_cons (.s s0) (okl_cons (ok_two h) okl_nil))) (by simp)).ro (.tup _ (by simp))
  · exact (ok5 (okl_cons (.s st) (okl_cons (.s so) (okl_cons e0 okl_nil))) (by simp)).ro (.tup _ (by simp))
  · exact (ok5 (okl_cons (.s sg) (okl_cons (.i _) (okl_cons (.i _) okl_nil))) (by simp)).ro (.tup _ (by simp))
  · exact (ok5 (okl_cons (.s sr) (okl_cons (.i _) (okl_cons (.i _) okl_nil))) (by simp)).ro (.tup _ (by simp))
  · exact (ok5 (okl_cons (.s sr) (okl_cons (.i _) (okl_cons (.i _) (okl_cons (.aa h) (okl_cons (.aa h) okl_nil))))) (by simp)).ro (.tup _ (by simp))
  · exact (ok5 (okl_cons (.s sr) (okl_cons (.b _) (okl_cons (.i _) (okl_cons (.aa h) okl_nil)))) (by simp)).ro (.four _ _ _ _ (.bool _) (.int _))
  · exact (ok5 (okl_cons (.s sr) (okl_cons (.i _) (okl_cons (.b _) (okl_cons (.aa h) okl_nil)))) (by simp)).ro (.four _ _ _ _ (.int _) (.bool _))
  · exact (ok5 (okl_cons (.s sr) (okl_cons (.i _) (okl_cons (.s sj) (okl_cons (.aa h) okl_nil)))) (by simp)).ro (.four _ _ _ _ (.int _) (.str _))
  · exact (ok5 (okl_cons (.s sR) (okl_cons (.i _) (okl_cons (.i _) (okl_cons (.aa h) okl_nil)))) (by simp)).ro (.four _ _ _ _ (.int _) (.int _))
  · exact ((Ok.str sr).mono (by omega) (by omega)).ro (.str _)
  · exact (Ok.non.mono (by omega) (by omega)).ro .non
  · exact ((Ok.int _).mono (by omega) (by omega)).ro (.int _)
  · exact (e0.mono (by omega) (by omega)).ro (.tup _ (by simp))
theorem op_gs {r : R2} {ta tb : TE} {σ : L2.St} {H : Hp} {ds : List PyData} {Q : VK} (h : GS K ta σ H ds) (c : ∀ p H2, H p = none → Same H H2 → LsIs K H2 p ds → tb σ H2 fun y H3 => r (.ref p) y H3 Q) : tOp r ta tb σ H Q := h H (Same.refl _) _ c
theorem gd_addI {K : PySem.W.Frag} {σ : L2.St} {H0 : Hp} {i : Nat} {k c : Int} (h : σ[i]? = some (some (.int k))) : GD K (tOp (rI0 fun i j => .int (i + j)) (tC (.int c)) (tVar i)) σ H0 (.int (c + k)) := fun H1 _ Q q => ⟨_, h, _, _, rfl, rfl, q _ H1 (Same.refl _) (.int _)⟩
theorem gd_strj {K : PySem.W.Frag} {σ : L2.St} {H0 : Hp} {i : Nat} {k : Int} (h : σ[i]? = some (some (.int k))) (hk : k.natAbs.log2 < 1920) : GD K (tCB (fun xs H Q => ∃ i, xs = [V.int i] ∧ i.natAbs.log2 < 1920 ∧ Q (.str (toString i)) H) (tCons (tVar i) tNil)) σ H0 (.str (toString k)) := fun H1 _ Q q => ⟨_, h, _, rfl, hk, q _ H1 (Same.refl _) (.str _)⟩
def spValue (K : PySem.W.Frag) : Sp := fun vs H Q _ => ∃ (sc st : Addr), vs = [.ref st] ∧ Sta sc H st ∧ ∀ y d H', Kp st H H' → Sta sc H' st → Dp K H' y d → Ro d → Q y H'
theorem at1 : Ok 1 4 (.tuple [.str "", .str "size", .int 1]) := (Ok.tup (n := 0) (m := 0) (fun d hd => by
  rcases List.mem_cons.mp hd with rfl | hd
  · exact Ok.str (by decide +kernel)
  rcases List.mem_cons.mp hd with rfl | hd
  · exact Ok.str (by decide +kernel)
  rw [List.mem_singleton.mp hd]; exact Ok.int _)).mono (Nat.le_refl _) (by simp)
theorem at2 : Ok 1 4 (.tuple [.str "o", .str "word", .str "w"]) := (Ok.tup (n := 0) (m := 0) (fun d hd => by
  rcases List.mem_cons.mp hd with rfl | hd
  · exact Ok.str (by decide +kernel)
  rcases List.mem_cons.mp hd with rfl | hd
  · exact Ok.str (by decide +kernel)
  rw [List.mem_singleton.mp hd]; exact Ok.str (by decide +kernel))).mono (Nat.le_refl _) (by simp)
theorem at3 : Ok 1 4 (.tuple [.str "t2", .str "below", .str "a", .str "b10"]) := (Ok.tup (n := 0) (m := 0) (fun d hd => by
  rcases List.mem_cons.mp hd with rfl | hd
  · exact Ok.str (by decide +kernel)
  rcases List.mem_cons.mp hd with rfl | hd
  · exact Ok.str (by decide +kernel)
  rcases List.mem_cons.mp hd with rfl | hd
  · exact Ok.str (by decide +kernel)
  rw [List.mem_singleton.mp hd]; exact Ok.str (by decide +kernel))).mono (Nat.le_refl _) (by simp)
def atoms3 : List PyData := [.tuple [.str "", .str "size", .int 1], .tuple [.str "o", .str "word", .str "w"], .tuple [.str "t2", .str "below", .str "a", .str "b10"]]
theorem atoms3_ok : ∀ d ∈ atoms3, Ok 1 4 d := fun d hd => by
  rcases List.mem_cons.mp hd with rfl | hd
  · exact at1
  rcases List.mem_cons.mp hd with rfl | hd
  · exact at2
  rw [List.mem_singleton.mp hd]; exact at3
theorem ok_value (T : Top K mg a) (G_l_draw : FnOk P w K mg base CX0 1 a.f_l_draw a.d_l_draw ["_law_state_here", "_law_many"] spDraw) : FnOk P w K mg base CX0 2 a.f_l_value a.d_l_value ["_law_state_here"] (spValue K) := by
  refine T.F_l_value.ok sc_l_value (fun vs H Q E h => ?_) (fun cdv A' outer s H vs Q E hr h => ?_)
  · obtain ⟨_, _, rfl, _⟩ := h
    rfl
  · obtain ⟨sc, st, rfl, S0, q⟩ := h
    refine ⟨_, (pss_cons (ps_set (i := 1) sc_l_value.nd rfl (.inl rfl) (pe_ix ix_list (pe_lst (pa_cons (pe_tup (pa_cons pe_str (pa_cons pe_str (pa_cons pe_int pa_nil)))) (pa_cons (pe_tup (pa_cons pe_str (pa_cons pe_str (pa_cons pe_str pa_nil)))) (pa_cons (pe_tup (pa_cons pe_str (pa_cons pe_str (pa_cons pe_str (pa_cons pe_str pa_nil))))) pa_nil)))) (pe_call G_l_draw (hr.mono (by decide)) (by rfl) T.m_l_draw T.F_l_draw.kp T.b_l_draw .nil pass0 (pa_cons (pv 0) (pa_cons pe_int pa_nil))) (fun _ _ => rfl)))
    (pss_cons (ps_set (i := 2) sc_l_value.nd rfl (.inl rfl) (pe_op op_mul (pe_op op_sub (pe_call G_l_draw (hr.mono (by decide)) (by rfl) T.m_l_draw T.F_l_draw.kp T.b_l_draw .nil pass0 (pa_cons (pv 0) (pa_cons pe_int pa_nil))) pe_int) (pe_ix ix_list (pe_lst (pa_cons pe_int (pa_cons pe_int (pa_cons pe_int pa_nil)))) (pe_call G_l_draw (hr.mono (by decide)) (by rfl) T.m_l_draw T.F_l_draw.kp T.b_l_draw .nil pass0 (pa_cons (pv 0) (pa_cons pe_int pa_nil))) (fun _ _ => rfl))))
    (pss_cons (ps_set (i := 3) sc_l_value.nd rfl (.inl rfl) (pe_op op_sub (pe_call G_l_draw (hr.mono (by decide)) (by rfl) T.m_l_draw T.F_l_draw.kp T.b_l_draw .nil pass0 (pa_cons (pv 0) (pa_cons pe_int pa_nil))) pe_int))
    (C8.pss_cut (ps_if (pt_cmpR (OpR.or op_eq (op_eqD hr.units)) (pe_call G_l_draw (hr.mono (by decide)) (by rfl) T.m_l_draw T.F_l_draw.kp T.b_l_draw .nil pass0 (pa_cons (pv 0) (pa_cons pe_int pa_nil))) pe_int (nomark _))
      (pss_one (ps_ret (pe_tup (pa_cons pe_str (pa_cons (pv 2) (pa_cons (pv 3) (pa_cons (pv 1) pa_nil)))))))
      pss_nil)
    (pss_cons (ps_set (i := 4) sc_l_value.nd rfl (.inl rfl) (pe_lst (pa_cons (pe_tup (pa_cons pe_str (pa_cons (pe_op op_add pe_int (pv 3)) pa_nil))) (pa_cons (pe_tup (pa_cons pe_str (pa_cons pe_str (pa_cons (pe_tup (pa_cons (pe_tup (pa_cons (pv 1) (pa_cons pe_bl pa_nil))) (pa_cons (pe_tup (pa_cons (pv 1) (pa_cons pe_bl pa_nil))) pa_nil))) pa_nil)))) (pa_cons (pe_tup (pa_cons pe_str (pa_cons pe_str (pa_cons (pe_tup pa_nil) pa_nil)))) (pa_cons (pe_tup (pa_cons pe_str (pa_cons (pv 2) (pa_cons (pv 3) pa_nil)))) pa_nil))))))
    (pss_cons (ps_set (i := 4) sc_l_value.nd rfl (.inl rfl) (pe_op op_cat (pv 4) (pe_lst (pa_cons (pe_tup (pa_cons pe_str (pa_cons (pv 2) (pa_cons (pv 3) pa_nil)))) (pa_cons (pe_tup (pa_cons pe_str (pa_cons (pv 2) (pa_cons (pv 3) (pa_cons (pv 1) (pa_cons (pv 1) pa_nil)))))) (pa_cons (pe_tup (pa_cons pe_str (pa_cons pe_bl (pa_cons (pv 3) (pa_cons (pv 1) pa_nil))))) pa_nil))))))
    (pss_cons (ps_set (i := 4) sc_l_value.nd rfl (.inl rfl) (pe_op op_cat (pv 4) (pe_lst (pa_cons (pe_tup (pa_cons pe_str (pa_cons (pv 2) (pa_cons pe_bl (pa_cons (pv 1) pa_nil))))) (pa_cons (pe_tup (pa_cons pe_str (pa_cons (pv 2) (pa_cons (pe_callTy call_str_int (by rfl) T.z_str (by decide +kernel) (pa_cons (pv 3) pa_nil)) (pa_cons (pv 1) pa_nil))))) (pa_cons (pe_tup (pa_cons pe_str (pa_cons (pv 2) (pa_cons (pv 3) (pa_cons (pv 1) pa_nil))))) pa_nil))))))
    (pss_cons (ps_set (i := 4) sc_l_value.nd rfl (.inl rfl) (pe_op op_cat (pv 4) (pe_lst (pa_cons pe_str (pa_cons pe_non (pa_cons (pv 2) (pa_cons (pe_tup pa_nil) pa_nil)))))))
    (pss_one (ps_ret (pe_ix ix_list (pv 4) (pe_call G_l_draw (hr.mono (by decide)) (by rfl) T.m_l_draw T.F_l_draw.kp T.b_l_draw .nil pass0 (pa_cons (pv 0) (pa_cons (pe_callB call_len_seq (by rfl) T.z_len (by decide +kernel) (pa_cons (pv 4) pa_nil)) pa_nil))) (fun _ _ => rfl)))))))))))), ?_⟩
    have sm9 : ∀ {n : Nat}, n ≤ 400 → n ≤ sizeLine := fun h => Nat.le_of_lt (small1000 (by omega))
    have k3 : ∀ d ∈ atoms3, RN.kb d = true := fun d hd => (atoms3_ok d hd).kb
    -- the atom
    dsimp only [tSeq, tAsg]
    refine op_gs (K := K) (ds := atoms3) (gs_lst (ga_cons (gd_tup (ga_cons gd_str rfl (ga_cons gd_str rfl (ga_cons gd_int rfl ga_nil))) (by simp)) at1.kb (ga_cons (gd_tup (ga_cons gd_str rfl (ga_cons gd_str rfl (ga_cons gd_str rfl ga_nil))) (by simp)) at2.kb (ga_cons (gd_tup (ga_cons gd_str rfl (ga_cons gd_str rfl (ga_cons gd_str rfl (ga_cons gd_str rfl ga_nil)))) (by simp)) at3.kb ga_nil))) (by show 3 ≤ 400; decide)) fun L1 H1 nL1 s1 hL1 => ?_
    have S1 := S0.same s1
    refine ⟨.ref st, rfl, sc, st, 3, rfl, S1, by decide, by decide, fun H2 v k2 S2 v0 v1 => ?_⟩
    obtain ⟨vs, hvs, hds⟩ := hL1.kp S1 k2 (S0.nn nL1) k3
    obtain ⟨n, rfl⟩ : ∃ n : Nat, v = n := ⟨v.toNat, by omega⟩
    have hn : n < atoms3.length := by show n < 3; omega
    obtain ⟨xa, ga, hxa⟩ := dps_ix hds (List.getElem?_eq_getElem hn)
    have oka := atoms3_ok _ (List.getElem_mem hn)
    generalize atoms3[n] = da at hxa oka
    refine ⟨L1, vs, (n : Int), xa, rfl, rfl, .of hvs, atI_nat ga, ?_⟩
    have k02 : Kp st H H2 := (Same.kp s1).trans k2
    clear hvs hds hL1
    -- i and j
    have S2' := S2
    refine ⟨.ref st, rfl, sc, st, 9, rfl, S2, by decide, by decide, fun H3 v3 k3' S3 a0 a1 => ⟨_, _, rfl, rfl, sm9 (by simp), fun L2 nL2 => ?_⟩⟩
    have s4 := same_upd (o := .lst [.int 1, .int 1, .int 1000001]) nL2
    have hL2 : (upd H3 L2 (.lst [.int 1, .int 1, .int 1000001])) L2 = some (.lst [.int 1, .int 1, .int 1000001]) := upd_same
    have nLs := S3.nn nL2
    have S4 := S3.same s4
    refine ⟨.ref st, rfl, sc, st, 3, rfl, S4, by decide, by decide, fun H5 v5 k5 S5 b0 b1 => ?_⟩
    have hL25 := k5 _ _ nLs hL2
    obtain ⟨m, rfl⟩ : ∃ n : Nat, v5 = n := ⟨v5.toNat, by omega⟩
    obtain ⟨z, gz, hz⟩ : ∃ z : Int, ([V.int 1, V.int 1, V.int 1000001] : List V)[m]? = some (.int z) ∧ (0 ≤ z ∧ z ≤ 1000001) := by
      match m, b1 with
      | 0, _ => exact ⟨1, rfl, by omega⟩
      | 1, _ => exact ⟨1, rfl, by omega⟩
      | 2, _ => exact ⟨1000001, rfl, by omega⟩
      | (n + 3), h => omega
    refine ⟨L2, _, (m : Int), _, rfl, rfl, .of hL25, atI_nat gz, _, _, rfl, rfl, .inl ⟨by omega, by omega⟩, ?_⟩
    have k05 : Kp st H H5 := k02.trans (k3'.trans ((Same.kp s4).trans k5))
    have tk25 : Tk H2 H5 := (sta_tk S2 k3').trans ((Same.tk s4).trans (sta_tk S4 k5))
    refine ⟨.ref st, rfl, sc, st, 9, rfl, S5, by decide, by decide, fun H6 v6 k6 S6 c0 c1 => ⟨_, _, rfl, rfl, ?_⟩⟩
    obtain ⟨jn, rfl⟩ : ∃ n : Nat, v6 = n := ⟨v6.toNat, by omega⟩
    have hxa6 := dp_tk (tk25.trans (sta_tk S5 k6)) _ _ hxa oka.kb
    have k06 := k05.trans k6
    clear hL2 hL25 s4
    have hj : -2 ≤ (jn : Int) - 2 ∧ (jn : Int) - 2 ≤ 6 := by omega
    -- one draw in two: to resolve
    refine ⟨fun σ' H' => σ' = [some (.ref st), some xa, some (.int ((v3 - 2) * z)), some (.int ((jn : Int) - 2)), none] ∧ Kp st H H' ∧ Sta sc H' st ∧ Dp K H' xa da, ?_, ?_⟩
    · refine ⟨.ref st, rfl, sc, st, 2, rfl, S6, by decide, by decide, fun H7 v7 k7 S7 d0 d1 => ?_⟩
      have hxa7 := dp_tk (sta_tk S6 k7) _ _ hxa6 oka.kb
      have k07 := k06.trans k7
      refine eqi (ite2 (fun _ => ?_) (fun _ => ⟨rfl, k07, S7, hxa7⟩))
      refine GD.run (K := K) (gd_tup (ga_cons gd_str rfl (ga_cons (gd_var rfl (.int ((v3 - 2) * z)) rfl) rfl (ga_cons (gd_var rfl (.int ((jn : Int) - 2)) rfl) rfl (ga_cons (gd_var rfl hxa7 oka.kb) oka.kb ga_nil)))) (by simp)) fun x H8 s8 hx => ?_
      exact q x _ H8 (k07.same s8) (S7.same s8) hx ((ok5 (okl_cons (.s (by decide +kernel)) (okl_cons (.i _) (okl_cons (.i _) (okl_cons (.aa oka) okl_nil)))) (by simp)).ro (.four _ _ _ _ (.int _) (.int _)))
    rintro σ' H7 ⟨rfl, k07, S7, hxa7⟩
    generalize (v3 - 2) * z = iv
    generalize (jn : Int) - 2 = jv at hj ⊢
    have M := menu_ok (da := da) (i := iv) oka hj
    have kb1 : ∀ {es : List PyData}, (∀ d ∈ es, d ∈ menu da iv jv) → ∀ d ∈ es, RN.kb d = true := fun h d hd => (M d (h d hd)).kb
    have lj : jv.natAbs.log2 < 1920 := by
      obtain ⟨n, hn, e⟩ : ∃ n : Nat, n < 9 ∧ jv = (n : Int) - 2 := ⟨(jv + 2).toNat, by omega, by omega⟩
      rw [e]
      have : ∀ n : Fin 9, (((n : Nat) : Int) - 2).natAbs.log2 < 1920 := by decide +kernel
      exact this ⟨n, hn⟩
    dsimp only [tSeq, tAsg]
    have kA : ∀ d ∈ mA da iv jv, RN.kb d = true := fun d hd => (M d (by unfold menu; simp [hd])).kb
    have kB : ∀ d ∈ mB da iv jv, RN.kb d = true := fun d hd => (M d (by unfold menu; simp [hd])).kb
    have kC : ∀ d ∈ mC da iv jv, RN.kb d = true := fun d hd => (M d (by unfold menu; simp [hd])).kb
    have kD : ∀ d ∈ mD iv, RN.kb d = true := fun d hd => (M d (by unfold menu; simp [hd])).kb
    have kAB : ∀ d ∈ mA da iv jv ++ mB da iv jv, RN.kb d = true := fun d hd => (List.mem_append.mp hd).elim (kA d) (kB d)
    have kABC : ∀ d ∈ mA da iv jv ++ mB da iv jv ++ mC da iv jv, RN.kb d = true := fun d hd => (List.mem_append.mp hd).elim (kAB d) (kC d)
    have m1 : ∀ {n : Nat} {x : PyData}, (menu da iv jv)[n]? = some x → RN.kb x = true := fun {n x} h => (M x (List.mem_of_getElem? h)).kb
    refine GS.run (K := K) (ds := mA da iv jv)
      (gs_lst (ga_cons (gd_tup (ga_cons gd_str rfl (ga_cons (gd_addI rfl) rfl ga_nil)) (by simp)) rfl (ga_cons (gd_tup (ga_cons gd_str rfl (ga_cons gd_str rfl (ga_cons (gd_tup (ga_cons (gd_tup (ga_cons (gd_var rfl hxa7 oka.kb) oka.kb (ga_cons gd_bl rfl ga_nil)) (by simp)) (ok_pair oka _).kb (ga_cons (gd_tup (ga_cons (gd_var rfl hxa7 oka.kb) oka.kb (ga_cons gd_bl rfl ga_nil)) (by simp)) (ok_pair oka _).kb ga_nil)) (by simp)) (ok_two oka).kb ga_nil))) (by simp)) (m1 (n := 1) rfl) (ga_cons (gd_tup (ga_cons gd_str rfl (ga_cons gd_str rfl (ga_cons (gd_tup ga_nil (by simp)) rfl ga_nil))) (by simp)) rfl (ga_cons (gd_tup (ga_cons gd_str rfl (ga_cons (gd_var rfl (.int iv) rfl) rfl (ga_cons (gd_var rfl (.int jv) rfl) rfl ga_nil))) (by simp)) rfl ga_nil)))) (by show 4 ≤ 400; decide)) fun L1 H8 nL1 s8 hL1 => ?_
    have S8 := S7.same s8
    have hxa8 := dp_tk (Same.tk s8) _ _ hxa7 oka.kb
    have k08 := k07.same s8
    refine GS.run (K := K) (ds := mA da iv jv ++ mB da iv jv) (gs_vcat (p := L1) rfl hL1 (gs_lst (ga_cons (gd_tup (ga_cons gd_str rfl (ga_cons (gd_var rfl (.int iv) rfl) rfl (ga_cons (gd_var rfl (.int jv) rfl) rfl ga_nil))) (by simp)) rfl (ga_cons (gd_tup (ga_cons gd_str rfl (ga_cons (gd_var rfl (.int iv) rfl) rfl (ga_cons (gd_var rfl (.int jv) rfl) rfl (ga_cons (gd_var rfl hxa8 oka.kb) oka.kb (ga_cons (gd_var rfl hxa8 oka.kb) oka.kb ga_nil))))) (by simp)) (m1 (n := 5) rfl)
      (ga_cons (gd_tup (ga_cons gd_str rfl (ga_cons gd_bl rfl (ga_cons (gd_var rfl (.int jv) rfl) rfl (ga_cons (gd_var rfl hxa8 oka.kb) oka.kb ga_nil)))) (by simp)) (m1 (n := 6) rfl) ga_nil))) (by show 3 ≤ 400; decide)) kA kB (by show 4 + 3 ≤ 400; decide)) fun L2 H9 nL2 s9 hL2 => ?_
    have S9 := S8.same s9
    have hxa9 := dp_tk (Same.tk s9) _ _ hxa8 oka.kb
    have k09 := k08.same s9
    refine GS.run (K := K) (ds := mA da iv jv ++ mB da iv jv ++ mC da iv jv) (gs_vcat (p := L2) rfl hL2 (gs_lst (ga_cons (gd_tup (ga_cons gd_str rfl (ga_cons (gd_var rfl (.int iv) rfl) rfl (ga_cons gd_bl rfl (ga_cons (gd_var rfl hxa9 oka.kb) oka.kb ga_nil)))) (by simp)) (m1 (n := 7) rfl) (ga_cons (gd_tup (ga_cons gd_str rfl (ga_cons (gd_var rfl (.int iv) rfl) rfl (ga_cons (gd_strj rfl lj) rfl (ga_cons (gd_var rfl hxa9 oka.kb) oka.kb ga_nil)))) (by simp)) (m1 (n := 8) rfl)
      (ga_cons (gd_tup (ga_cons gd_str rfl (ga_cons (gd_var rfl (.int iv) rfl) rfl (ga_cons (gd_var rfl (.int jv) rfl) rfl (ga_cons (gd_var rfl hxa9 oka.kb) oka.kb ga_nil)))) (by simp)) (m1 (n := 9) rfl) ga_nil))) (by show 3 ≤ 400; decide)) kAB kC (by show 7 + 3 ≤ 400; decide)) fun L3 H10 nL3 s10 hL3 => ?_
    have S10 := S9.same s10
    have k010 := k09.same s10
    refine GS.run (K := K) (ds := menu da iv jv) (gs_vcat (p := L3) rfl hL3 (gs_lst (ga_cons gd_str rfl (ga_cons gd_non rfl (ga_cons (gd_var rfl (.int iv) rfl) rfl (ga_cons (gd_tup ga_nil (by simp)) rfl ga_nil)))) (by show 4 ≤ 400; decide)) kABC kD (by show 10 + 4 ≤ 400; decide)) fun L4 H11 nL4 s11 hL4 => ?_
    have S11 := S10.same s11
    have k011 := k010.same s11
    have kM : ∀ d ∈ menu da iv jv, RN.kb d = true := fun d hd => (M d hd).kb
    obtain ⟨vs4, hv4, hd4⟩ := id hL4
    have l4 : vs4.length = 14 := by rw [dps_le hd4]; rfl
    refine ⟨.ref L4, rfl, .ref st, rfl, .ref L4, rfl, L4, vs4, rfl, .inl (.of hv4), sc, st, _, rfl, S11, by omega, by omega, fun H12 v12 k12 S12 e0 e1 => ?_⟩
    obtain ⟨vs, hvs, hds⟩ := hL4.kp S11 k12 (S10.nn nL4) kM
    obtain ⟨n, rfl⟩ : ∃ n : Nat, v12 = n := ⟨v12.toNat, by omega⟩
    have lm : (menu da iv jv).length = 14 := rfl
    have hn : n < (menu da iv jv).length := by omega
    obtain ⟨x, gx, hx⟩ := dps_ix hds (List.getElem?_eq_getElem hn)
    exact ⟨L4, vs, (n : Int), x, rfl, rfl, .of hvs, atI_nat gx, q x _ H12 (k011.trans k12) S12 hx (M _ (List.getElem_mem hn))⟩
end
end K28


/-! the law -/
namespace K28
open PySem PySem.Spec PyProof.Rows L2 RN
theorem al_snocL {α : Type} {R : V → α → Prop} {xs : List V} {rs : List α} {x : V} {r : α} (h : R1.Al R xs rs) (g : R x r) : R1.Al R (xs ++ [x]) (rs ++ [r]) := R1.Al.snoc h g
theorem lookup_fc {env : Env} : ∀ {names : List (Str × NameKind)} {x : Str}, (names.lookup x = some .cell ∨ names.lookup x = some .free) →
    ((names.map fun (n, k) => if (k == NameKind.free && env.scope.kind == .function && env.kindOf n == some .cell) then (n, NameKind.cell) else (n, k)).lookup x = some .cell ∨
      (names.map fun (n, k) => if (k == NameKind.free && env.scope.kind == .function && env.kindOf n == some .cell) then (n, NameKind.cell) else (n, k)).lookup x = some .free)
  | [], _, h => by simp at h
  | (n, k) :: r, x, h => by
    have ih := @lookup_fc env r x
    show (List.lookup x ((if (k == NameKind.free && env.scope.kind == .function && env.kindOf n == some .cell) = true then (n, NameKind.cell) else (n, k)) :: _) = _) ∨ (List.lookup x ((if (k == NameKind.free && env.scope.kind == .function && env.kindOf n == some .cell) = true then (n, NameKind.cell) else (n, k)) :: _) = _)
    cases hx : x == n with
    | true =>
      simp only [List.lookup_cons, hx] at h
      by_cases hc : (k == NameKind.free && env.scope.kind == .function && env.kindOf n == some .cell) = true
      · rw [if_pos hc]; simp [List.lookup_cons, hx]
      · rw [if_neg hc]; simp only [List.lookup_cons, hx]; exact h
    | false =>
      simp only [List.lookup_cons, hx] at h
      by_cases hc : (k == NameKind.free && env.scope.kind == .function && env.kindOf n == some .cell) = true
      · rw [if_pos hc]; simp only [List.lookup_cons, hx]; exact ih h
      · rw [if_neg hc]; simp only [List.lookup_cons, hx]; exact ih h
theorem blkIn {X : Cx} {s : Shared} {H : Hp} {scope0 scope : Scope} {cl : List (Str × Addr)} {C : Addr} {env : Env} {fp : List Addr} {own : List (Str × Nat)} {N : List Str} (hN : X.N = N) (h : BlkOk N scope0 scope own) : BlkOk (X.blk s H scope0 (compEnvC scope0 cl C env) fp).N (X.blk s H scope0 (compEnvC scope0 cl C env) fp).env.scope scope own := by
  subst hN
  exact ⟨h.kind, h.uniq, h.ix, fun y hy e => lookup_fc (env := env) (h.free y hy e), h.own⟩
section
variable {P : Program} {w : World} {K : PySem.W.Frag} {mg : Str → Option Value} {base : Heap} {a : Ad} {p : Pd} {mc : Value} {fI : Addr} {dI : FuncData}
/-- an item of the rows: a list of rows, neither the state nor the outer list -/
def LI (K : PySem.W.Frag) (H : Hp) (st D : Addr) (x : V) (ds : List PyData) : Prop := (∃ l, x = .ref l ∧ LsIs K H l ds ∧ l ≠ st ∧ l ≠ D) ∧ RoA ds ∧ ds.length ≤ 5
theorem LI.kp {H H' : Hp} {sc st D : Addr} {x : V} {ds : List PyData} (S : Sta sc H st) (k : Kp st H H') (h : LI K H st D x ds) : LI K H' st D x ds := let ⟨⟨l, e, h1, n1, n2⟩, r, m⟩ := h; ⟨⟨l, e, h1.kp S k n1 r.kb, n1, n2⟩, r, m⟩
theorem LI.put {H : Hp} {st D : Addr} {x : V} {ds : List PyData} {o o' : HO} (hD : H D = some o) (n : NoTup o) (h : LI K H st D x ds) : LI K (upd H D o') st D x ds := let ⟨⟨l, e, ⟨vs, h1, h2⟩, n1, n2⟩, r, m⟩ := h; ⟨⟨l, e, ⟨vs, by rw [upd_ne n2]; exact h1, dps_tk (tk_upd hD n) h2 r.kb⟩, n1, n2⟩, r, m⟩
theorem CtIs.but {C : Addr} {H H' : Hp} {q o : Addr} {xs : List V} {ds : List PyData} (hq : H q = some (.lst xs)) (k : Kp q H H') (r : RoA ds) (h : CtIs K C H o ds) : CtIs K C H' o ds := by
  obtain ⟨dx, t, h1, h2, vs, h3⟩ := h
  refine ⟨dx, t, k _ _ (fun z => by rw [z, hq] at h1; cases h1) h1, dp_tk (kp_tk hq True.intro k) _ _ h2 (roa_tup r).1, vs, k _ _ (fun z => by rw [z, hq] at h3; cases h3) h3⟩
theorem CtIs.kp {C : Addr} {H H' : Hp} {sc st o : Addr} {ds : List PyData} (S : Sta sc H st) (k : Kp st H H') (r : RoA ds) (h : CtIs K C H o ds) : CtIs K C H' o ds := by
  obtain ⟨ns, i, b, s, l, hne, hst, _⟩ := S.ex
  exact h.but hst k r
theorem mv_mv {d : PyData} (a b : Int) (h : MvK d) : mv a (mv b d) = mv (b + a) d := by
  cases h with
  | non => rfl
  | int i => rfl
  | str s => rfl
  | tup ds q => rw [mv_tup b q, mv_tup a q, mv_tup (b + a) q]
  | four w x y z hx hy =>
    cases hx with
    | bool b => rfl
    | str s => rfl
    | int i =>
      cases hy with
      | bool b => rfl
      | str s => rfl
      | int j =>
        by_cases c : w = ("resolve" : Str)
        · have e : ∀ n i j, mv n (.tuple [.str w, .int i, .int j, z]) = .tuple [.str w, .int (i + n), .int (j + n), z] := fun n i j => by
            show (if w = ("resolve" : Str) then _ else _) = _
            rw [if_pos c]
          rw [e, e, e, Int.add_assoc, Int.add_assoc]
        · have e : ∀ n i j, mv n (.tuple [.str w, .int i, .int j, z]) = .tuple [.str w, .int i, .int j, z] := fun n i j => by
            show (if w = ("resolve" : Str) then _ else _) = _
            rw [if_neg c]
          rw [e, e, e]
theorem mv_0 {d : PyData} (h : MvK d) : mv 0 d = d := by
  cases h with
  | non => rfl
  | int i => rfl
  | str s => rfl
  | tup ds q => rw [mv_tup 0 q]
  | four w x y z hx hy =>
    cases hx with
    | bool b => rfl
    | str s => rfl
    | int i =>
      cases hy with
      | bool b => rfl
      | str s => rfl
      | int j =>
        show (if w = ("resolve" : Str) then _ else _) = _
        split
        · rw [Int.add_zero, Int.add_zero]
        · rfl
theorem sum_assoc {d0 d1 d2 : List PyData} (r : RoA d2) : sumD d0 (sumD d1 d2) = sumD (sumD d0 d1) d2 := by
  unfold sumD
  rw [List.map_append, List.append_assoc, List.map_map, List.length_append, List.length_map]
  congr 2
  refine List.map_congr_left fun d hd => ?_
  show mv _ (mv _ d) = _
  rw [mv_mv _ _ (r d hd).fm, Int.add_comm]
  rfl
theorem sum_nil (d0 : List PyData) : sumD d0 [] = d0 := by unfold sumD; rw [List.map_nil, List.append_nil]
theorem nil_sum {d0 : List PyData} (r : RoA d0) : sumD [] d0 = d0 := by
  unfold sumD
  rw [List.nil_append]
  conv => rhs; rw [← List.map_id d0]
  exact List.map_congr_left fun d hd => mv_0 (r d hd).fm
theorem sum_len (d0 d1 : List PyData) : (sumD d0 d1).length = d0.length + d1.length := by unfold sumD; rw [List.length_append, List.length_map]
theorem sum_ro {d0 d1 : List PyData} (r : RoA d0) (s : RoA d1) : RoA (sumD d0 d1) := r.app (s.mv _)
/-- a copy: a fresh list -/
def LH (K : PySem.W.Frag) (H2 : Hp) (M : Addr) (H : Hp) (x : V) (ds : List PyData) : Prop := ∃ m, x = .ref m ∧ LsIs K H m ds ∧ H2 m = none ∧ m ≠ M
structure Bd (K : PySem.W.Frag) (C sc st D l0 l1 l2 o1 o2 o3 : Addr) (d0 d1 d2 : List PyData) (H : Hp) : Prop where
  S : Sta sc H st
  hD : H D = some (.lst [.ref l0, .ref l1, .ref l2])
  h0 : LsIs K H l0 d0
  h1 : LsIs K H l1 d1
  h2 : LsIs K H l2 d2
  c1 : CtIs K C H o1 d0
  c2 : CtIs K C H o2 d1
  c3 : CtIs K C H o3 d2
theorem Bd.same {C sc st D l0 l1 l2 o1 o2 o3 : Addr} {d0 d1 d2 : List PyData} {H H' : Hp} (r0 : RoA d0) (r1 : RoA d1) (r2 : RoA d2) (s : Same H H') (b : Bd K C sc st D l0 l1 l2 o1 o2 o3 d0 d1 d2 H) : Bd K C sc st D l0 l1 l2 o1 o2 o3 d0 d1 d2 H' :=
  ⟨b.S.same s, s _ _ b.hD, b.h0.same r0 s, b.h1.same r1 s, b.h2.same r2 s, b.c1.same r0 s, b.c2.same r1 s, b.c3.same r2 s⟩
theorem Bd.kp {C sc st D l0 l1 l2 o1 o2 o3 : Addr} {d0 d1 d2 : List PyData} {H H' : Hp} (r0 : RoA d0) (r1 : RoA d1) (r2 : RoA d2) (nD : D ≠ st) (n0 : l0 ≠ st) (n1 : l1 ≠ st) (n2 : l2 ≠ st) (k : Kp st H H') (S' : Sta sc H' st) (b : Bd K C sc st D l0 l1 l2 o1 o2 o3 d0 d1 d2 H) : Bd K C sc st D l0 l1 l2 o1 o2 o3 d0 d1 d2 H' :=
  ⟨S', k _ _ nD b.hD, b.h0.kp b.S k n0 r0.kb, b.h1.kp b.S k n1 r1.kb, b.h2.kp b.S k n2 r2.kb, b.c1.kp b.S k r0, b.c2.kp b.S k r1, b.c3.kp b.S k r2⟩
def GV (t : TE) (σ : L2.St) (H0 : Hp) (l : Addr) : Prop := ∀ (H1 : Hp), Same H0 H1 → ∀ Q : VK, Q (.ref l) H1 → t σ H1 Q
theorem gv_var {σ : L2.St} {H0 : Hp} {i : Nat} {l : Addr} (h : σ[i]? = some (some (.ref l))) : GV (tVar i) σ H0 l := fun _ _ _ q => ⟨_, h, q⟩
theorem gv_ix {σ : L2.St} {H0 : Hp} {i j : Nat} {D l : Addr} {xs : List V} (h : σ[i]? = some (some (.ref D))) (hD : H0 D = some (.lst xs)) (g : xs[j]? = some (.ref l)) : GV (tOp (rIxL K) (tVar i) (tC (.int (j : Int)))) σ H0 l := fun _ s _ q => ⟨_, h, D, xs, (j : Int), _, rfl, rfl, .of (s _ _ hD), atI_nat g, q⟩
theorem mv_cat {σ : L2.St} {H0 : Hp} {t1 t2 : TE} {l m : Addr} {ds es : List PyData} {E : XK} (h1 : GV t1 σ H0 l) (h2 : GV t2 σ H0 m) (hl : LsIs K H0 l ds) (hm : LsIs K H0 m es) (rd : RoA ds) (re : RoA es) (ld : ds.length ≤ 100) (le : es.length ≤ 100) :
    GS K (tOp rCat t1 (tCall (spLMoved K) [] E (tCons t2 (tCons (tCB (fun xs H Q => ∃ p ys, xs = [V.ref p] ∧ (SqL K H p ys ∨ SqT K H p ys) ∧ Q (V.int ys.length) H) (tCons t1 tNil)) tNil)))) σ H0 (sumD ds es) := fun H1 s1 Q c => by
  obtain ⟨vs, hv, hd⟩ := hl.same rd s1
  refine h1 H1 s1 _ (h2 H1 s1 _ (h1 H1 s1 _ ⟨l, vs, rfl, .inl (.of hv), ?_⟩))
  dsimp only [tNil, List.cons_append, List.nil_append]
  refine ⟨m, es, _, rfl, re, le, hm.same re s1, fun p H2 np s2 ⟨ws, hw, he⟩ => ?_⟩
  rw [dps_le hd] at he
  refine ⟨l, p, _, _, rfl, rfl, s2 _ _ hv, hw, Nat.le_of_lt (small1000 (by have := dps_le hd; have := dps_le he; rw [List.length_map] at this; omega)), fun z nz => c z _ (s2.free nz) (s2.trans (same_upd nz)) ⟨_, upd_same, ?_⟩⟩
  exact dps_app (dps_tk (Same.tk (s2.trans (same_upd nz))) hd rd.kb) (dps_tk (tk_new nz) he (re.mv _).kb)
def clauseD : PyData := .tuple [.tuple [.tuple [.str "", .str "size", .int 1], .bool false], .tuple [.tuple [.str "", .str "size", .int 2], .bool true]]
theorem lkN (t : Addr) : (rfs t).lookup ("resolve" : Str) = none := by
  unfold rfs
  rw [List.lookup_cons]
  rw [show (("resolve" : Str) == ("rows" : Str)) = false by decide +kernel]
  rfl
theorem ro_theory : Ro (.tuple [.str "theory", .str "", clauseD]) := ⟨rfl, Nat.le_of_ble_eq_true rfl, by decide +kernel, Nat.le_of_ble_eq_true rfl, .tup _ (by simp)⟩
theorem ro_res (i j : Int) : Ro (.tuple [.str "resolve", .int i, .int j, .tuple [.str "", .str "size", .int 2]]) := ⟨rfl, Nat.le_of_ble_eq_true rfl, by
  show (PyData.canLay0 (.str "resolve") && (true && (true && (PyData.canLay0 (.tuple [.str "", .str "size", .int 2]) && true)))) = true
  rw [show PyData.canLay0 (.str "resolve") = true by decide +kernel, show PyData.canLay0 (.tuple [.str "", .str "size", .int 2]) = true by decide +kernel]
  rfl, Nat.le_of_ble_eq_true rfl, .four _ _ _ _ (.int _) (.int _)⟩
def spLaw (K : PySem.W.Frag) : Sp := fun vs H Q _ => ∃ (p : Addr) (ns : List Int), vs = [.ref p] ∧ SqL K H p (ns.map V.int) ∧ ∀ H', Q (.bl true) H'
theorem ok_law (T : Top K mg a) (B : CrC K a.c_Certificate mc p) (ES : ErS K a.c_BadRow a.c_LookerError a.c_BadStep fI dI) : FnOk P w K mg base CX0 33 a.f_law a.d_law ["_law_script"] (spLaw K) := by
  have G_is_int := ok_is_int (P := P) (w := w) (base := base) T
  have G_is_whole := ok_whole (P := P) (w := w) (base := base) T G_is_int
  have G_moved := ok_moved (P := P) (w := w) (base := base) T G_is_int
  have G_init := ok_init (P := P) (w := w) (mg := mg) (base := base) T B
  have G_add := ok_add (P := P) (w := w) (mg := mg) (base := base) T B G_moved
  have G_given := ok_given (P := P) (w := w) (mg := mg) (base := base) T B
  have G_theory := ok_theory (P := P) (w := w) (mg := mg) (base := base) T B
  have G_resolve := ok_resolve (P := P) (w := w) (mg := mg) (base := base) T B
  have G_l_state := ok_state (P := P) (w := w) (base := base) T
  have G_l_draw := ok_draw (P := P) (w := w) (base := base) T
  have G_l_value := ok_value (P := P) (w := w) (base := base) T G_l_draw
  have G_l_moved := ok_l_moved (P := P) (w := w) (base := base) T (ok_l_is_whole T)
  have G_l_is := ok_is (P := P) (w := w) (base := base) T B (ok_alike T 30) (ok_item T B ES G_is_whole)
  refine T.F_law.ok sc_law (fun vs H Q E h => ?_) (fun cdv A' outer s H vs Q E hr h => ?_)
  · obtain ⟨_, _, rfl, _⟩ := h
    rfl
  · obtain ⟨p0, ns0, rfl, hS, q⟩ := h
    refine ⟨_, (pss_cons (ps_set (i := 1) sc_law.nd rfl (.inr rfl) (pe_call G_l_state (hr.mono (by decide)) (by rfl) T.m_l_state T.F_l_state.kp T.b_l_state .nil pass0 (pa_cons (pv 0) pa_nil)))
    (pss_cons (ps_setLc (own := [("_law_j", 13)]) (i := 2) rfl sc_law.nd rfl rfl (sw_true rfl rfl rfl (by decide +kernel)) (pi_range1 (by rfl) T.z_range (pa_cons pe_int pa_nil)) (blkOk_by (own := [("_law_j", 13)]) (N := ["_law_script", "_law_state_here", "_law_rows", "_law_handed", "_law_first", "_law_second", "_law_third", "_law_both", "_law_due", "_law_whole", "_law_label", "_law_clause", "_law_i", "_law_j", "_law_row", "_law_k"]) (sc := defScope s_law) (by decide +kernel)) (fun _ _ _ _ _ => (pg_name (i := 13) sc_law.nd rfl (.inl rfl))) (fun _ _ _ _ _ => pts_nil) (fun _ _ _ _ _ => (pe_lc (own := [("_law_k", 15)]) rfl sc_law.nd (pi_range1 (by rfl) T.z_range (pa_cons (pe_call G_l_draw (hr.mono (by decide)) (by rfl) T.m_l_draw T.F_l_draw.kp T.b_l_draw .nil pass0 (pa_cons (pv 1) (pa_cons pe_int pa_nil))) pa_nil)) (blkIn (own := [("_law_k", 15)]) rfl (N := ["_law_script", "_law_state_here", "_law_rows", "_law_handed", "_law_first", "_law_second", "_law_third", "_law_both", "_law_due", "_law_whole", "_law_label", "_law_clause", "_law_i", "_law_j", "_law_row", "_law_k"]) (blkOk_by (by decide +kernel))) (fun _ _ _ _ _ => (pg_name (i := 15) sc_law.nd rfl (.inl rfl))) (fun _ _ _ _ _ => pts_nil) (fun _ _ _ _ _ => (pe_call G_l_value (hr.mono (by decide)) (by rfl) T.m_l_value T.F_l_value.kp T.b_l_value .nil pass0 (pa_cons (pv 1) pa_nil))))))
    (pss_cons (ps_setLc (own := [("_law_row", 14)]) (i := 3) rfl sc_law.nd rfl rfl (sw_true rfl rfl rfl (by decide +kernel)) (pi_list (pv 2)) (blkOk_by (own := [("_law_row", 14)]) (N := ["_law_script", "_law_state_here", "_law_rows", "_law_handed", "_law_first", "_law_second", "_law_third", "_law_both", "_law_due", "_law_whole", "_law_label", "_law_clause", "_law_i", "_law_j", "_law_row", "_law_k"]) (sc := defScope s_law) (by decide +kernel)) (fun _ _ _ _ _ => (pg_name (i := 14) sc_law.nd rfl (.inl rfl))) (fun _ _ _ _ _ => pts_nil) (fun _ _ _ _ _ => (pe_callTy (R1.list_ofK (K := K) rfl) (by rfl) T.z_list (by decide +kernel) (pa_cons (pv 14) pa_nil))))
    (pss_cons (ps_set (i := 4) sc_law.nd rfl (.inl rfl) (pe_make B.mkr G_init (hr.mono (by decide)) (by rfl) T.m_Certificate B.b_I .nil pass0 (pa_cons (pe_ix ix_list (pv 3) pe_int (fun _ _ => rfl)) pa_nil)))
    (pss_cons (ps_set (i := 5) sc_law.nd rfl (.inl rfl) (pe_make B.mkr G_init (hr.mono (by decide)) (by rfl) T.m_Certificate B.b_I .nil pass0 (pa_cons (pe_callTy call_tuple_of (by rfl) T.z_tuple (by decide +kernel) (pa_cons (pe_ix ix_list (pv 2) pe_int (fun _ _ => rfl)) pa_nil)) pa_nil)))
    (pss_cons (ps_set (i := 6) sc_law.nd rfl (.inl rfl) (pe_make B.mkr G_init (hr.mono (by decide)) (by rfl) T.m_Certificate B.b_I .nil pass0 (pa_cons (pe_ix ix_list (pv 3) pe_int (fun _ _ => rfl)) pa_nil)))
    (pss_cons (ps_expr (pe_bm PySem.F.plainAttrs_list PySem.F.slot_list_append PySem.F.type_list_append mt_append (pe_ix ix_list (pv 3) pe_int (fun _ _ => rfl)) (pa_cons (pe_tup (pa_cons pe_str (pa_cons pe_int pa_nil))) pa_nil)))
    (pss_cons (ps_expr (pe_bm PySem.F.plainAttrs_list PySem.F.slot_list_append PySem.F.type_list_append mt_append (pe_ix ix_list (pv 3) pe_int (fun _ _ => rfl)) (pa_cons pe_non pa_nil)))
    (pss_cons (ps_set (i := 7) sc_law.nd rfl (.inl rfl) (pe_op (R1.op_binO (op := .Add) B.sf B.as_ B.an (fnR0 G_add B.b_A) (hr.mono (by decide)) pass0) (pv 4) (pv 5)))
    (pss_cons (ps_set (i := 8) sc_law.nd rfl (.inl rfl) (pe_op op_cat (pe_ix ix_list (pv 2) pe_int (fun _ _ => rfl)) (pe_call G_l_moved (hr.mono (by decide)) (by rfl) T.m_l_moved T.F_l_moved.kp T.b_l_moved .nil pass0 (pa_cons (pe_ix ix_list (pv 2) pe_int (fun _ _ => rfl)) (pa_cons (pe_callB call_len_seq (by rfl) T.z_len (by decide +kernel) (pa_cons (pe_ix ix_list (pv 2) pe_int (fun _ _ => rfl)) pa_nil)) pa_nil)))))
    (pss_cons (ps_if (PW.pt (pw_or (pt_not (pt_val (pe_call G_l_is (hr.mono (by decide)) (by rfl) T.m_l_is T.F_l_is.kp T.b_l_is .nil pass0 (pa_cons (pv 7) (pa_cons (pv 8) pa_nil))))) (pw_or1 (pt_not (pt_val (pe_call G_l_is (hr.mono (by decide)) (by rfl) T.m_l_is T.F_l_is.kp T.b_l_is .nil pass0 (pa_cons (pe_op (R1.op_binO (op := .Add) B.sf B.as_ B.an (fnR0 G_add B.b_A) (hr.mono (by decide)) pass0) (pv 4) (pv 4)) (pa_cons (pe_op op_cat (pe_ix ix_list (pv 2) pe_int (fun _ _ => rfl)) (pe_call G_l_moved (hr.mono (by decide)) (by rfl) T.m_l_moved T.F_l_moved.kp T.b_l_moved .nil pass0 (pa_cons (pe_ix ix_list (pv 2) pe_int (fun _ _ => rfl)) (pa_cons (pe_callB call_len_seq (by rfl) T.z_len (by decide +kernel) (pa_cons (pe_ix ix_list (pv 2) pe_int (fun _ _ => rfl)) pa_nil)) pa_nil)))) pa_nil))))))))
      (pss_one (ps_ret pe_bl))
      pss_nil)
    (pss_cons (ps_set (i := 9) sc_law.nd rfl (.inl rfl) (pe_op op_cat (pv 8) (pe_call G_l_moved (hr.mono (by decide)) (by rfl) T.m_l_moved T.F_l_moved.kp T.b_l_moved .nil pass0 (pa_cons (pe_ix ix_list (pv 2) pe_int (fun _ _ => rfl)) (pa_cons (pe_callB call_len_seq (by rfl) T.z_len (by decide +kernel) (pa_cons (pv 8) pa_nil)) pa_nil)))))
    (pss_cons (ps_if (PW.pt (pw_or (pt_not (pt_val (pe_call G_l_is (hr.mono (by decide)) (by rfl) T.m_l_is T.F_l_is.kp T.b_l_is .nil pass0 (pa_cons (pe_op (R1.op_binO (op := .Add) B.sf B.as_ B.an (fnR0 G_add B.b_A) (hr.mono (by decide)) pass0) (pv 7) (pv 6)) (pa_cons (pv 9) pa_nil))))) (pw_or1 (pt_not (pt_val (pe_call G_l_is (hr.mono (by decide)) (by rfl) T.m_l_is T.F_l_is.kp T.b_l_is .nil pass0 (pa_cons (pe_op (R1.op_binO (op := .Add) B.sf B.as_ B.an (fnR0 G_add B.b_A) (hr.mono (by decide)) pass0) (pv 4) (pe_op (R1.op_binO (op := .Add) B.sf B.as_ B.an (fnR0 G_add B.b_A) (hr.mono (by decide)) pass0) (pv 5) (pv 6))) (pa_cons (pv 9) pa_nil))))))))
      (pss_one (ps_ret pe_bl))
      pss_nil)
    (pss_cons (ps_if (PW.pt (pw_or (pt_not (pt_val (pe_call G_l_is (hr.mono (by decide)) (by rfl) T.m_l_is T.F_l_is.kp T.b_l_is .nil pass0 (pa_cons (pe_op (R1.op_binO (op := .Add) B.sf B.as_ B.an (fnR0 G_add B.b_A) (hr.mono (by decide)) pass0) (pv 4) (pe_make B.mkr G_init (hr.mono (by decide)) (by rfl) T.m_Certificate B.b_I .nil pass0 (pa_cons (pe_tup pa_nil) pa_nil))) (pa_cons (pe_ix ix_list (pv 2) pe_int (fun _ _ => rfl)) pa_nil))))) (pw_or1 (pt_not (pt_val (pe_call G_l_is (hr.mono (by decide)) (by rfl) T.m_l_is T.F_l_is.kp T.b_l_is .nil pass0 (pa_cons (pe_op (R1.op_binO (op := .Add) B.sf B.as_ B.an (fnR0 G_add B.b_A) (hr.mono (by decide)) pass0) (pe_make B.mkr G_init (hr.mono (by decide)) (by rfl) T.m_Certificate B.b_I .nil pass0 (pa_cons (pe_lst pa_nil) pa_nil)) (pv 5)) (pa_cons (pe_ix ix_list (pv 2) pe_int (fun _ _ => rfl)) pa_nil))))))))
      (pss_one (ps_ret pe_bl))
      pss_nil)
    (pss_cons (ps_set (i := 10) sc_law.nd rfl (.inl rfl) (pe_op op_add (pe_op op_mul (pe_call G_l_draw (hr.mono (by decide)) (by rfl) T.m_l_draw T.F_l_draw.kp T.b_l_draw .nil pass0 (pa_cons (pv 1) (pa_cons pe_int pa_nil))) pe_int) pe_int))
    (pss_cons (ps_set (i := 11) sc_law.nd rfl (.inl rfl) (pe_tup (pa_cons (pe_tup (pa_cons (pe_tup (pa_cons pe_str (pa_cons pe_str (pa_cons pe_int pa_nil)))) (pa_cons pe_bl pa_nil))) (pa_cons (pe_tup (pa_cons (pe_tup (pa_cons pe_str (pa_cons pe_str (pa_cons pe_int pa_nil)))) (pa_cons pe_bl pa_nil))) pa_nil))))
    (pss_cons (ps_if (pt_not (pt_val (pe_call G_l_is (hr.mono (by decide)) (by rfl) T.m_l_is T.F_l_is.kp T.b_l_is .nil pass0 (pa_cons (R1.pe_smeth (pe_glob (v := .ref _) (by rfl) T.m_Certificate rfl) B.rC B.sG (fnR0 G_given B.b_G) (hr.mono (by decide)) pass0 (pa_cons (pv 10) pa_nil)) (pa_cons (pe_lst (pa_cons (pe_tup (pa_cons pe_str (pa_cons (pv 10) pa_nil))) pa_nil)) pa_nil)))))
      (pss_one (ps_ret pe_bl))
      pss_nil)
    (pss_cons (ps_if (pt_not (pt_val (pe_call G_l_is (hr.mono (by decide)) (by rfl) T.m_l_is T.F_l_is.kp T.b_l_is .nil pass0 (pa_cons (R1.pe_smeth (pe_glob (v := .ref _) (by rfl) T.m_Certificate rfl) B.rC B.sH (fnR0 G_theory B.b_H) (hr.mono (by decide)) pass0 (pa_cons pe_str (pa_cons (pv 11) pa_nil))) (pa_cons (pe_lst (pa_cons (pe_tup (pa_cons pe_str (pa_cons pe_str (pa_cons (pv 11) pa_nil)))) pa_nil)) pa_nil)))))
      (pss_one (ps_ret pe_bl))
      pss_nil)
    (pss_cons (ps_set (i := 12) sc_law.nd rfl (.inl rfl) (pe_op op_sub (pe_call G_l_draw (hr.mono (by decide)) (by rfl) T.m_l_draw T.F_l_draw.kp T.b_l_draw .nil pass0 (pa_cons (pv 1) (pa_cons pe_int pa_nil))) pe_int))
    (pss_cons (ps_if (pt_not (pt_val (pe_call G_l_is (hr.mono (by decide)) (by rfl) T.m_l_is T.F_l_is.kp T.b_l_is .nil pass0 (pa_cons (pe_meth (pv 7) B.ins.cl B.mt G_resolve (hr.mono (by decide)) B.b_R .nil pass0 (pa_cons (pv 12) (pa_cons (pv 10) (pa_cons (pe_tup (pa_cons pe_str (pa_cons pe_str (pa_cons pe_int pa_nil)))) pa_nil)))) (pa_cons (pe_op op_cat (pv 8) (pe_lst (pa_cons (pe_tup (pa_cons pe_str (pa_cons (pv 12) (pa_cons (pv 10) (pa_cons (pe_tup (pa_cons pe_str (pa_cons pe_str (pa_cons pe_int pa_nil)))) pa_nil))))) pa_nil))) pa_nil)))))
      (pss_one (ps_ret pe_bl))
      pss_nil)
    (pss_one (ps_ret (pe_and (pe_call G_l_is (hr.mono (by decide)) (by rfl) T.m_l_is T.F_l_is.kp T.b_l_is .nil pass0 (pa_cons (pv 4) (pa_cons (pe_ix ix_list (pv 2) pe_int (fun _ _ => rfl)) pa_nil))) (pe_and (pe_call G_l_is (hr.mono (by decide)) (by rfl) T.m_l_is T.F_l_is.kp T.b_l_is .nil pass0 (pa_cons (pv 5) (pa_cons (pe_ix ix_list (pv 2) pe_int (fun _ _ => rfl)) pa_nil))) (pe_and (pe_call G_l_is (hr.mono (by decide)) (by rfl) T.m_l_is T.F_l_is.kp T.b_l_is .nil pass0 (pa_cons (pv 6) (pa_cons (pe_ix ix_list (pv 2) pe_int (fun _ _ => rfl)) pa_nil))) (pe_one (pe_call G_l_is (hr.mono (by decide)) (by rfl) T.m_l_is T.F_l_is.kp T.b_l_is .nil pass0 (pa_cons (pv 7) (pa_cons (pv 8) pa_nil))))))))))))))))))))))))))))), ?_⟩
    refine ⟨_, rfl, p0, ns0, rfl, hS, fun H1 st sc nst s1 S1 => ?_⟩
    have sm9 : ∀ {n : Nat}, n ≤ 400 → n ≤ sizeLine := fun h => Nat.le_of_lt (small1000 (by omega))
    -- the rows
    refine ⟨3, rfl, by decide, by decide, fun D nD => R1.walk_it (walk_range (lo := 0) (n := 3)) (fun u H' => Kp st H1 H' ∧ Sta sc H' st ∧ ∃ acc dss, H' D = some (.lst acc) ∧ acc.length = u ∧ R1.Al (LI K H' st D) acc dss) ⟨(Kp.refl _ _).new nD, S1.mut nD S1, [], [], upd_same, rfl, R1.Al.nil⟩ (fun _ _ _ _ => True.intro) ?_ ?_⟩
    · rintro u x _ H2 hu ⟨k2, S2, acc, dss, hD2, hl2, hA2⟩ ⟨rfl, rfl⟩
      refine ⟨rfl, .ref st, rfl, sc, st, 6, rfl, S2, by decide, by decide, fun H3 v k3 S3 a0 a1 => ⟨v, rfl, by omega, by omega, fun D2 nD2 => ?_⟩⟩
      have nD2s := S3.nn nD2
      have nDs := S1.nn nD
      have hD3 := k3 _ _ nDs hD2
      have nDD : D2 ≠ D := fun z => by rw [z, hD3] at nD2; cases nD2
      refine R1.walk_it (walk_range (lo := 0) (n := v.toNat)) (fun j H' => Kp st H3 H' ∧ Sta sc H' st ∧ ∃ ds, LsIs K H' D2 ds ∧ ds.length = j ∧ RoA ds) ⟨(Kp.refl _ _).new nD2, S3.mut nD2 S3, [], ⟨[], upd_same, .nil⟩, rfl, fun d h => nomatch h⟩ (fun _ _ _ _ => True.intro) ?_ ?_
      · rintro j x _ H4 hj ⟨k4, S4, ds, hL4, hl4, ro4⟩ ⟨rfl, rfl⟩
        refine ⟨rfl, .ref st, rfl, sc, st, rfl, S4, fun y d H5 k5 S5 hy ro => ?_⟩
        obtain ⟨vs, hv5, hd5⟩ := hL4.kp S4 k5 nD2s ro4.kb
        have tD : Tk H5 (upd H5 D2 (.lst (vs ++ [y]))) := tk_upd hv5 True.intro
        refine ⟨vs, hv5, small1000 (by rw [dps_le hd5]; omega), (k4.trans k5).mut nD2, S3.mut nD2 S5, ds ++ [d], ⟨_, upd_same, dps_app (dps_tk tD hd5 ro4.kb) (.cons (dp_tk tD _ _ hy ro.kb) .nil)⟩, by simp [hl4], ro4.app (roa_one ro)⟩
      · rintro H4 ⟨k4, S4, ds, hL4, hl4, ro4⟩
        have k24 := k3.trans k4
        have hD4 := k24 _ _ nDs hD2
        refine ⟨acc, hD4, small1000 (by omega), (k2.trans k24).mut nD, S1.mut nD S4, acc ++ [.ref D2], dss ++ [ds], upd_same, by simp [hl2], ?_⟩
        refine al_snocL ⟨hA2.1, fun i x r h1 h2 => ((hA2.2 i x r h1 h2).kp S2 k24).put hD4 True.intro⟩ (LI.put hD4 True.intro ⟨⟨D2, rfl, hL4, nD2s, nDD⟩, ro4, by omega⟩)
    rintro H2 ⟨k2, S2, acc, dss, hD2, hl2, hA2⟩
    obtain ⟨x0, x1, x2, rfl⟩ : ∃ x0 x1 x2, acc = [x0, x1, x2] := by
      match acc, hl2 with
      | [a, b, c], _ => exact ⟨a, b, c, rfl⟩
    obtain ⟨d0, d1, d2, rfl⟩ : ∃ d0 d1 d2, dss = [d0, d1, d2] := by
      match dss, hA2.1 with
      | [a, b, c], _ => exact ⟨a, b, c, rfl⟩
    obtain ⟨⟨l0, rfl, hl0, n0, _⟩, r0, m0⟩ := hA2.2 0 _ _ rfl rfl
    obtain ⟨⟨l1, rfl, hl1, n1, _⟩, r1, m1⟩ := hA2.2 1 _ _ rfl rfl
    obtain ⟨⟨l2, rfl, hl2, n2, _⟩, r2, m2⟩ := hA2.2 2 _ _ rfl rfl
    have nDs := S1.nn nD
    -- copies
    refine ⟨.ref D, rfl, D, rfl, ⟨_, .of hD2⟩, fun M nM => R1.walk_it (walk_list (xs := [.ref l0, .ref l1, .ref l2])) (fun u H' => Same H2 H' ∧ ∃ acc, H' M = some (.lst acc) ∧ acc.length = u ∧ R1.Al (LH K H2 M H') acc ([d0, d1, d2].take u)) ⟨same_upd nM, [], upd_same, rfl, R1.Al.nil⟩ (fun u H' _ h => .of (h.1 _ _ hD2)) ?_ ?_⟩
    · rintro u x _ H3 hu ⟨s3, acc, hM, hl3, hA3⟩ ⟨rfl, hx⟩
      obtain ⟨ds, gd, ⟨l, rfl, ⟨vs, hv, hd⟩, nl, _⟩, ro, lm⟩ := hA2.at hx
      have hd3 := dps_tk (Same.tk s3) hd ro.kb
      have et : [d0, d1, d2].take (u + 1) = [d0, d1, d2].take u ++ [ds] := by rw [List.take_add_one, gd]; rfl
      refine ⟨rfl, .ref l, rfl, l, vs, rfl, .inl (.of (s3 _ _ hv)), fun m nm => ⟨acc, (same_upd nm) _ _ hM, small1000 (by simp at hu; omega), K28.Same.mut (s3.trans (same_upd nm)) nM, acc ++ [.ref m], upd_same, by simp [hl3], ?_⟩⟩
      have mM : m ≠ M := fun z => by rw [z, hM] at nm; cases nm
      have t1 := tk_new (o' := .lst vs) nm
      have hMm : (upd H3 m (.lst vs)) M = some (.lst acc) := (same_upd nm) _ _ hM
      have t2 : Tk (upd H3 m (.lst vs)) (upd (upd H3 m (.lst vs)) M (.lst (acc ++ [.ref m]))) := tk_upd hMm True.intro
      rw [et]
      refine al_snocL ⟨hA3.1, fun i y r h1 h2 => ?_⟩ ⟨m, rfl, ⟨vs, by rw [upd_ne mM, upd_same], dps_tk (t1.trans t2) hd3 ro.kb⟩, s3.free nm, mM⟩
      obtain ⟨m', rfl, ⟨ws, hw, he⟩, nm', mM'⟩ := hA3.2 i y r h1 h2
      have rr : RoA r := by
        have := List.mem_of_mem_take (List.mem_of_getElem? h2)
        rcases List.mem_cons.mp this with rfl | this
        · exact r0
        rcases List.mem_cons.mp this with rfl | this
        · exact r1
        rw [List.mem_singleton.mp this]; exact r2
      exact ⟨m', rfl, ⟨ws, by rw [upd_ne mM']; exact (same_upd nm) _ _ hw, dps_tk (t1.trans t2) he rr.kb⟩, nm', mM'⟩
    rintro H3 ⟨s3, acc, hM, hl3, hA3⟩
    obtain ⟨y0, y1, y2, rfl⟩ : ∃ y0 y1 y2, acc = [y0, y1, y2] := by
      match acc, hl3 with
      | [a, b, c], _ => exact ⟨a, b, c, rfl⟩
    obtain ⟨q0, rfl, ⟨vs0, hq0, he0⟩, nq0, mq0⟩ := hA3.2 0 _ _ rfl rfl
    obtain ⟨q2, rfl, ⟨vs2, hq2, he2⟩, nq2, mq2⟩ := hA3.2 2 _ _ rfl rfl
    clear hA3 hl3 hA2
    have hD3 := s3 _ _ hD2
    have e0 := dps_le he0
    have e2 := dps_le he2
    -- three certificates
    refine ⟨.ref M, rfl, M, _, ((0 : Nat) : Int), .ref q0, rfl, rfl, .of hM, atI_nat rfl, ?_⟩
    try dsimp only [tNil, List.cons_append, List.nil_append]
    intro o1 dx1 no1 ndx1 ne1
    refine mk_ctx (ds := d0) r0 (.inl (.of hq0)) he0 (nn_of hq0) no1 ndx1 ne1 fun H4 s4 hC1 => ⟨rfl, ?_⟩
    have s24 := s3.trans s4
    obtain ⟨ws1, hw1, hf1⟩ := hl1.same r1 s24
    refine ⟨.ref D, rfl, D, _, ((1 : Nat) : Int), .ref l1, rfl, rfl, .of (s4 _ _ hD3), atI_nat rfl, l1, ws1, rfl, .inl ⟨.of hw1, fun t1 nt1 => ?_⟩⟩
    have s5 := same_upd (o := .tup ws1) nt1
    try dsimp only [tNil, List.cons_append, List.nil_append]
    intro o2 dx2 no2 ndx2 ne2
    refine mk_ctx (ds := d1) r1 (.inr upd_same) (dps_tk (Same.tk s5) hf1 r1.kb) (nn_of upd_same) no2 ndx2 ne2 fun H5 s6 hC2 => ⟨rfl, ?_⟩
    have s45 := s5.trans s6
    have s35 := s4.trans s45
    refine ⟨.ref M, rfl, M, _, ((2 : Nat) : Int), .ref q2, rfl, rfl, .of (s35 _ _ hM), atI_nat rfl, ?_⟩
    try dsimp only [tNil, List.cons_append, List.nil_append]
    intro o3 dx3 no3 ndx3 ne3
    refine mk_ctx (ds := d2) r2 (.inl (.of (s35 _ _ hq2))) (dps_tk (Same.tk s35) he2 r2.kb) (nn_of (s35 _ _ hq2)) no3 ndx3 ne3 fun H6 s7 hC3 => ⟨rfl, ?_⟩
    have s36 := s35.trans s7
    have hC16 := hC1.same r0 (s45.trans s7)
    have hC26 := hC2.same r1 s7
    -- what was handed is changed
    have hq06 := s36 _ _ hq0
    refine ⟨.ref M, rfl, M, _, ((0 : Nat) : Int), .ref q0, rfl, rfl, .of (s36 _ _ hM), atI_nat rfl, .inl ⟨rfl, _, .of hq06⟩, sm9 (by simp), fun t2 nt2 => ⟨q0, vs0, .ref t2, rfl, rfl, (same_upd nt2) _ _ hq06, small1000 (by omega), ?_⟩⟩
    have s8 := same_upd (o := .tup [.str "given", .int 7]) nt2
    have hq08 := s8 _ _ hq06
    have kq0 : Kp q0 (upd H6 t2 (.tup [.str "given", .int 7])) (upd (upd H6 t2 (.tup [.str "given", .int 7])) q0 (.lst (vs0 ++ [.ref t2]))) := (Kp.refl _ _).put
    have hC18 := (hC16.same r0 s8).but hq08 kq0 r0
    have hC28 := (hC26.same r1 s8).but hq08 kq0 r1
    have hC38 := (hC3.same r2 s8).but hq08 kq0 r2
    have hM8 := kq0 _ _ (Ne.symm mq0) (s8 _ _ (s36 _ _ hM))
    have s28 : Same H2 (upd (upd H6 t2 (.tup [.str "given", .int 7])) q0 (.lst (vs0 ++ [.ref t2]))) := K28.Same.mut ((s3.trans s36).trans s8) nq0
    obtain ⟨ws2, hw2, lw2⟩ : ∃ ws, (upd (upd H6 t2 (.tup [.str "given", .int 7])) q0 (.lst (vs0 ++ [.ref t2]))) q2 = some (.lst ws) ∧ ws.length ≤ 10 := by
      by_cases z : q2 = q0
      · rw [z]; exact ⟨_, upd_same, by simp; omega⟩
      · exact ⟨vs2, kq0 _ _ z (s8 _ _ (s36 _ _ hq2)), by omega⟩
    generalize upd (upd H6 t2 (.tup [.str "given", .int 7])) q0 (.lst (vs0 ++ [.ref t2])) = H8 at hC18 hC28 hC38 hM8 s28 hw2 ⊢
    refine ⟨.ref M, rfl, M, _, ((2 : Nat) : Int), .ref q2, rfl, rfl, .of hM8, atI_nat rfl, .inl ⟨rfl, _, .of hw2⟩, q2, ws2, .non, rfl, rfl, hw2, small1000 (by omega), ?_⟩
    have kq2 : Kp q2 H8 (upd H8 q2 (.lst (ws2 ++ [.non]))) := (Kp.refl _ _).put
    have hC19 := hC18.but hw2 kq2 r0
    have hC29 := hC28.but hw2 kq2 r1
    have hC39 := hC38.but hw2 kq2 r2
    have s29 : Same H2 (upd H8 q2 (.lst (ws2 ++ [.non]))) := K28.Same.mut s28 nq2
    generalize upd H8 q2 (.lst (ws2 ++ [.non])) = H9 at hC19 hC29 hC39 s29 ⊢
    have S9 := S2.same s29
    have hD9 := s29 _ _ hD2
    have hl09 := hl0.same r0 s29
    have hl19 := hl1.same r1 s29
    have hl29 := hl2.same r2 s29
    clear hC1 hC2 hC3 hC16 hC26 hC18 hC28 hC38 hM8 hw2 hq08 hq06 hq0 hq2 he0 he2 hl0 hl1 hl2 hD3 hD2 hM kq0 kq2 hw1 hf1 s28 s36 s35 s45 s24 s8 s7 s6 s5 s4
    have B9 : Bd K a.c_Certificate sc st D l0 l1 l2 o1 o2 o3 d0 d1 d2 H9 := ⟨S9, hD9, hl09, hl19, hl29, hC19, hC29, hC39⟩
    clear S9 hD9 hl09 hl19 hl29 hC19 hC29 hC39 s29 s3
    clear S2 k2
    have bsame : ∀ {Ha Hb : Hp}, Same Ha Hb → Bd K a.c_Certificate sc st D l0 l1 l2 o1 o2 o3 d0 d1 d2 Ha → Bd K a.c_Certificate sc st D l0 l1 l2 o1 o2 o3 d0 d1 d2 Hb := fun s b => b.same r0 r1 r2 s
    have r01 := sum_ro r0 r1
    have len01 := sum_len d0 d1
    -- the first sum
    obtain ⟨dxA, tA, hA, _⟩ := id B9.c1
    obtain ⟨dxB, tB, hB, _⟩ := id B9.c2
    refine ⟨.ref o1, rfl, .ref o2, rfl, o1, dxA, _, o2, dxB, _, rfl, rfl, hA, hB, o1, o2, d0, d1, rfl, B9.c1, B9.c2, r0, r1, by omega, by omega, fun ob H10 nob s10 hCb => ?_⟩
    have B10 := bsame s10 B9
    clear hA hB
    -- what is due
    try dsimp only [tSeq, tAsg]
    refine GS.run (K := K) (ds := sumD d0 d1) (mv_cat (gv_ix (j := 0) rfl B10.hD rfl) (gv_ix (j := 1) rfl B10.hD rfl) B10.h0 B10.h1 r0 r1 (by omega) (by omega)) fun pd H11 npd s11 hpd => ?_
    have npds := B10.S.nn npd
    have B11 := bsame s11 B10
    have hCb11 := hCb.same r01 s11
    refine ⟨.ref ob, rfl, .ref pd, rfl, ?_⟩
    try dsimp only [tNil, List.cons_append, List.nil_append]
    refine ⟨ob, pd, sumD d0 d1, rfl, hCb11, hpd, r01, by omega, fun H12 s12 => ⟨true, rfl, iteF ?_⟩⟩
    have B12 := bsame s12 B11
    obtain ⟨dxA, tA, hA, _⟩ := id B12.c1
    have r00 := sum_ro r0 r0
    have len00 := sum_len d0 d0
    refine ⟨.ref o1, rfl, .ref o1, rfl, o1, dxA, _, o1, dxA, _, rfl, rfl, hA, hA, o1, o1, d0, d0, rfl, B12.c1, B12.c1, r0, r0, by omega, by omega, fun oc H13 noc s13 hCc => ?_⟩
    have B13 := bsame s13 B12
    refine GS.run (K := K) (ds := sumD d0 d0) (mv_cat (gv_ix (j := 0) rfl B13.hD rfl) (gv_ix (j := 0) rfl B13.hD rfl) B13.h0 B13.h0 r0 r0 (by omega) (by omega)) fun pe H14 npe s14 hpe => ?_
    try dsimp only [tNil, List.cons_append, List.nil_append]
    refine ⟨oc, pe, sumD d0 d0, rfl, hCc.same r00 s14, hpe, r00, by omega, fun H15 s15 => ⟨true, rfl, iteF ?_⟩⟩
    have s1115 := s12.trans (s13.trans (s14.trans s15))
    have B15 := bsame s1115 B11
    have hCb15 := hCb11.same r01 s1115
    have hpd15 := hpd.same r01 s1115
    have r012 := sum_ro r01 r2
    have len012 := sum_len (sumD d0 d1) d2
    clear hA B12 B13 hCc hpe hCb11 hpd
    -- the whole
    try dsimp only [tSeq, tAsg]
    refine GS.run (K := K) (ds := sumD (sumD d0 d1) d2) (mv_cat (gv_var rfl) (gv_ix (j := 2) rfl B15.hD rfl) hpd15 B15.h2 r01 r2 (by omega) (by omega)) fun pw H16 npw s16 hpw => ?_
    have B16 := bsame s16 B15
    have hCb16 := hCb15.same r01 s16
    obtain ⟨dxb, tb, hb, _⟩ := id hCb16
    obtain ⟨dxc, tc, hc, _⟩ := id B16.c3
    refine ⟨.ref ob, rfl, .ref o3, rfl, ob, dxb, _, o3, dxc, _, rfl, rfl, hb, hc, ob, o3, sumD d0 d1, d2, rfl, hCb16, B16.c3, r01, r2, by omega, by omega, fun oe H17 noe s17 hCe => ⟨.ref pw, rfl, ?_⟩⟩
    try dsimp only [tNil, List.cons_append, List.nil_append]
    refine ⟨oe, pw, sumD (sumD d0 d1) d2, rfl, hCe, hpw.same r012 s17, r012, by omega, fun H18 s18 => ⟨true, rfl, iteF ?_⟩⟩
    have s168 := s17.trans s18
    have B18 := bsame s168 B16
    obtain ⟨dxA, tA, hA, _⟩ := id B18.c1
    obtain ⟨dxB, tB, hB, _⟩ := id B18.c2
    obtain ⟨dxC, tC, hC, _⟩ := id B18.c3
    have r12 := sum_ro r1 r2
    have len12 := sum_len d1 d2
    refine ⟨.ref o1, rfl, .ref o2, rfl, .ref o3, rfl, o2, dxB, _, o3, dxC, _, rfl, rfl, hB, hC, o2, o3, d1, d2, rfl, B18.c2, B18.c3, r1, r2, by omega, by omega, fun of H19 nof s19 hCf => ?_⟩
    have B19 := bsame s19 B18
    obtain ⟨dxF, tF, hF, _⟩ := id hCf
    refine ⟨o1, dxA, _, of, dxF, _, rfl, rfl, s19 _ _ hA, hF, o1, of, d0, sumD d1 d2, rfl, B19.c1, hCf, r0, r12, by omega, by omega, fun og H20 nog s20 hCg => ⟨.ref pw, rfl, ?_⟩⟩
    rw [sum_assoc r2] at hCg
    try dsimp only [tNil, List.cons_append, List.nil_append]
    refine ⟨og, pw, sumD (sumD d0 d1) d2, rfl, hCg, hpw.same r012 (s168.trans (s19.trans s20)), r012, by omega, fun H21 s21 => ⟨true, rfl, iteF ?_⟩⟩
    have s1621 := s168.trans (s19.trans (s20.trans s21))
    have B21 := bsame s1621 B16
    have hCb21 := hCb16.same r01 s1621
    have hpd21 := hpd15.same r01 (s16.trans s1621)
    clear hA hB hC hF hb hc B18 B19 hCe hCf hCg hpw hCb16 hCb15 hpd15 B15 B16
    -- with none
    refine ⟨.ref o1, rfl, Nat.zero_le _, fun t1 nt1 => ?_⟩
    try dsimp only [tNil, List.cons_append, List.nil_append]
    intro x1 dx1 nx1 ndx1 ne1
    have roN : RoA [] := fun d h => nomatch h
    refine mk_ctx (ds := []) roN (.inr upd_same) .nil (nn_of upd_same) nx1 ndx1 ne1 fun H22 s22 hCx => ⟨rfl, ?_⟩
    have s212 := (same_upd (o := .tup []) nt1).trans s22
    have B22 := bsame s212 B21
    obtain ⟨dxA, tA, hA, _⟩ := id B22.c1
    obtain ⟨dxX, tX, hX, _⟩ := id hCx
    refine ⟨o1, dxA, _, x1, dxX, _, rfl, rfl, hA, hX, o1, x1, d0, [], rfl, B22.c1, hCx, r0, roN, by omega, by simp, fun oh H23 noh s23 hCh => ?_⟩
    rw [sum_nil] at hCh
    have B23 := bsame s23 B22
    refine ⟨.ref D, rfl, D, _, ((0 : Nat) : Int), .ref l0, rfl, rfl, .of B23.hD, atI_nat rfl, ?_⟩
    try dsimp only [tNil, List.cons_append, List.nil_append]
    refine ⟨oh, l0, d0, rfl, hCh, B23.h0, r0, by omega, fun H24 s24 => ⟨true, rfl, iteF ?_⟩⟩
    have s2124 := s212.trans (s23.trans s24)
    have B24 := bsame s2124 B21
    clear hA hX hCx hCh B22 B23
    refine ⟨Nat.zero_le _, fun t2 nt2 => ?_⟩
    try dsimp only [tNil, List.cons_append, List.nil_append]
    intro x2 dx2 nx2 ndx2 ne2
    refine mk_ctx (ds := []) roN (.inl (.of upd_same)) .nil (nn_of upd_same) nx2 ndx2 ne2 fun H25 s25 hCx => ⟨rfl, ?_⟩
    have s245 := (same_upd (o := .lst []) nt2).trans s25
    have B25 := bsame s245 B24
    obtain ⟨dxB, tB, hB, _⟩ := id B25.c2
    obtain ⟨dxX, tX, hX, _⟩ := id hCx
    refine ⟨.ref o2, rfl, x2, dxX, _, o2, dxB, _, rfl, rfl, hX, hB, x2, o2, [], d1, rfl, hCx, B25.c2, roN, r1, by simp, by omega, fun oh H26 noh s26 hCh => ?_⟩
    rw [nil_sum r1] at hCh
    have B26 := bsame s26 B25
    refine ⟨.ref D, rfl, D, _, ((1 : Nat) : Int), .ref l1, rfl, rfl, .of B26.hD, atI_nat rfl, ?_⟩
    try dsimp only [tNil, List.cons_append, List.nil_append]
    refine ⟨oh, l1, d1, rfl, hCh, B26.h1, r1, by omega, fun H27 s27 => ⟨true, rfl, iteF ?_⟩⟩
    have s2127 := s2124.trans (s245.trans (s26.trans s27))
    have B27 := bsame s2127 B21
    have hCb27 := hCb21.same r01 s2127
    have hpd27 := hpd21.same r01 s2127
    clear hB hX hCx hCh B25 B26 B24 B21 hCb21 hpd21
    -- a label, a clause
    refine ⟨.ref st, rfl, sc, st, 60, rfl, B27.S, by decide, by decide, fun H28 v28 k28 S28 a0 a1 => ⟨_, _, rfl, rfl, .inl ⟨by omega, by omega⟩, _, _, rfl, rfl, ?_⟩⟩
    have B28 := B27.kp r0 r1 r2 nDs n0 n1 n2 k28 S28
    have hCb28 := hCb27.kp B27.S k28 r01
    have hpd28 := hpd27.kp B27.S k28 npds r01.kb
    obtain ⟨lab, hlab⟩ : ∃ lab, lab = v28 * 16 + 1 := ⟨_, rfl⟩
    dsimp only [gName, tSeq, tAsg]
    refine GD.run (K := K) (d := clauseD) (gd_tup (ga_cons (gd_tup (ga_cons (gd_tup (ga_cons gd_str rfl (ga_cons gd_str rfl (ga_cons gd_int rfl ga_nil))) (by simp)) rfl (ga_cons gd_bl rfl ga_nil)) (by simp)) rfl (ga_cons (gd_tup (ga_cons (gd_tup (ga_cons gd_str rfl (ga_cons gd_str rfl (ga_cons gd_int rfl ga_nil))) (by simp)) rfl (ga_cons gd_bl rfl ga_nil)) (by simp)) rfl ga_nil)) (by simp)) fun cl H29 s29 hcl => ?_
    have B29 := bsame s29 B28
    have hCb29 := hCb28.same r01 s29
    have hpd29 := hpd28.same r01 s29
    clear B27 B28 hCb27 hCb28 hpd27 hpd28
    refine ⟨rfl, .int (v28 * 16 + 1), rfl, ?_⟩
    dsimp only [tNil, List.cons_append, List.nil_append]
    refine ⟨.int (v28 * 16 + 1), .int (v28 * 16 + 1), rfl, .int _, rfl, ro_given _, fun og H30 nog s30 hCg => ?_⟩
    refine GS.run (K := K) (ds := [.tuple [.str "given", .int (v28 * 16 + 1)]]) (gs_lst (ga_cons (gd_tup (ga_cons gd_str rfl (ga_cons (gd_var rfl (.int _) rfl) rfl ga_nil)) (by simp)) rfl ga_nil) (by simp)) fun pg H31 npg s31 hpg => ?_
    try dsimp only [tNil, List.cons_append, List.nil_append]
    have rg := roa_one (ro_given (v28 * 16 + 1))
    refine ⟨og, pg, _, rfl, hCg.same rg s31, hpg, rg, by simp, fun H32 s32 => ⟨true, rfl, iteF ?_⟩⟩
    have s2932 := s30.trans (s31.trans s32)
    have B32 := bsame s2932 B29
    have hCb32 := hCb29.same r01 s2932
    have hpd32 := hpd29.same r01 s2932
    have hcl32 := dp_tk (Same.tk s2932) _ _ hcl (by rfl)
    clear B29 hCb29 hpd29 hcl hCg hpg
    refine ⟨rfl, cl, rfl, ?_⟩
    dsimp only [tNil, List.cons_append, List.nil_append]
    refine ⟨.str "", cl, .str "", clauseD, rfl, .str _, hcl32, rfl, rfl, ro_theory, fun og H33 nog s33 hCg => ?_⟩
    have hcl33 := dp_tk (Same.tk s33) _ _ hcl32 (by rfl)
    refine GS.run (K := K) (ds := [.tuple [.str "theory", .str "", clauseD]]) (gs_lst (ga_cons (gd_tup (ga_cons gd_str rfl (ga_cons gd_str rfl (ga_cons (gd_var rfl hcl33 rfl) rfl ga_nil))) (by simp)) rfl ga_nil) (by simp)) fun pg H34 npg s34 hpg => ?_
    try dsimp only [tNil, List.cons_append, List.nil_append]
    have rt := roa_one ro_theory
    refine ⟨og, pg, _, rfl, hCg.same rt s34, hpg, rt, by simp, fun H35 s35 => ⟨true, rfl, iteF ?_⟩⟩
    have s3235 := s33.trans (s34.trans s35)
    have B35 := bsame s3235 B32
    have hCb35 := hCb32.same r01 s3235
    have hpd35 := hpd32.same r01 s3235
    clear B32 hCb32 hpd32 hcl32 hcl33 hCg hpg
    -- one row more
    refine ⟨.ref st, rfl, sc, st, 9, rfl, B35.S, by decide, by decide, fun H36 v36 k36 S36 a0 a1 => ⟨_, _, rfl, rfl, ?_⟩⟩
    have B36 := B35.kp r0 r1 r2 nDs n0 n1 n2 k36 S36
    have hCb36 := hCb35.kp B35.S k36 r01
    have hpd36 := hpd35.kp B35.S k36 npds r01.kb
    obtain ⟨dxb, tb, hb, _⟩ := id hCb36
    dsimp only [gName]
    refine ⟨.ref ob, rfl, ob, dxb, _, rfl, hb, lkN _, .int (v36 - 2), rfl, .int (v28 * 16 + 1), rfl, sm9 (by simp), fun ta nta => ?_⟩
    have s37 := same_upd (o := .tup [.str "", .str "size", .int 2]) nta
    have hta : Dp K (upd H36 ta (.tup [.str "", .str "size", .int 2])) (.ref ta) (.tuple [.str "", .str "size", .int 2]) := .tup (.of upd_same) (.cons (.str _) (.cons (.str _) (.cons (.int _) .nil)))
    have B37 := bsame s37 B36
    have hCb37 := hCb36.same r01 s37
    have hpd37 := hpd36.same r01 s37
    generalize upd H36 ta (.tup [.str "", .str "size", .int 2]) = H37 at s37 hta B37 hCb37 hpd37 ⊢
    dsimp only [tNil, List.cons_append, List.nil_append]
    have rr := ro_res (v36 - 2) (v28 * 16 + 1)
    refine ⟨ob, .int (v36 - 2), .int (v28 * 16 + 1), .ref ta, sumD d0 d1, .int (v36 - 2), .int (v28 * 16 + 1), .tuple [.str "", .str "size", .int 2], rfl, hCb37, r01, by omega, .int _, .int _, hta, rfl, rfl, rfl, rr, fun og H38 nog s38 hCg => ?_⟩
    have B38 := bsame s38 B37
    have hpd38 := hpd37.same r01 s38
    have rall : RoA (sumD d0 d1 ++ [.tuple [.str "resolve", .int (v36 - 2), .int (v28 * 16 + 1), .tuple [.str "", .str "size", .int 2]]]) := r01.app (roa_one rr)
    refine GS.run (K := K) (gs_vcat (p := pd) (es := [.tuple [.str "resolve", .int (v36 - 2), .int (v28 * 16 + 1), .tuple [.str "", .str "size", .int 2]]]) rfl hpd38 (gs_lst (ga_cons (gd_tup (ga_cons gd_str rfl (ga_cons (gd_var rfl (.int (v36 - 2)) rfl) rfl (ga_cons (gd_var rfl (.int (v28 * 16 + 1)) rfl) rfl (ga_cons (gd_tup (ga_cons gd_str rfl (ga_cons gd_str rfl (ga_cons gd_int rfl ga_nil))) (by simp)) rfl ga_nil)))) (by simp)) rfl ga_nil) (by simp)) r01.kb (roa_one rr).kb (by simp; omega)) fun pg H39 npg s39 hpg => ?_
    try dsimp only [tNil, List.cons_append, List.nil_append]
    refine ⟨og, pg, _, rfl, hCg.same rall s39, hpg, rall, by rw [List.length_append]; simp; omega, fun H40 s40 => ⟨true, rfl, iteF ?_⟩⟩
    have s3740 := s38.trans (s39.trans s40)
    have B40 := bsame s3740 B37
    have hCb40 := hCb37.same r01 s3740
    have hpd40 := hpd37.same r01 s3740
    clear B35 B36 B37 B38 hCb35 hCb36 hCb37 hpd35 hpd36 hpd37 hpd38 hCg hpg hb
    -- nothing has changed
    refine ⟨.ref o1, rfl, .ref D, rfl, D, _, ((0 : Nat) : Int), .ref l0, rfl, rfl, .of B40.hD, atI_nat rfl, ?_⟩
    dsimp only [tNil, List.cons_append, List.nil_append]
    refine ⟨o1, l0, d0, rfl, B40.c1, B40.h0, r0, by omega, fun H41 s41 => ⟨true, rfl, iteT ?_⟩⟩
    have B41 := bsame s41 B40
    refine ⟨.ref o2, rfl, .ref D, rfl, D, _, ((1 : Nat) : Int), .ref l1, rfl, rfl, .of B41.hD, atI_nat rfl, ?_⟩
    dsimp only [tNil, List.cons_append, List.nil_append]
    refine ⟨o2, l1, d1, rfl, B41.c2, B41.h1, r1, by omega, fun H42 s42 => ⟨true, rfl, iteT ?_⟩⟩
    have B42 := bsame s42 B41
    refine ⟨.ref o3, rfl, .ref D, rfl, D, _, ((2 : Nat) : Int), .ref l2, rfl, rfl, .of B42.hD, atI_nat rfl, ?_⟩
    dsimp only [tNil, List.cons_append, List.nil_append]
    refine ⟨o3, l2, d2, rfl, B42.c3, B42.h2, r2, by omega, fun H43 s43 => ⟨true, rfl, iteT ?_⟩⟩
    have s4043 := s41.trans (s42.trans s43)
    refine ⟨.ref ob, rfl, .ref pd, rfl, ?_⟩
    dsimp only [tNil, List.cons_append, List.nil_append]
    exact ⟨ob, pd, sumD d0 d1, rfl, hCb40.same r01 s4043, hpd40.same r01 s4043, r01, by omega, fun H44 _ => q H44⟩
end
end K28

namespace K28
open PySem PySem.Spec PyProof.Rows L2
abbrev init_BadRow := initR
theorem kit_sub {K : PySem.W.Frag} {C L : Addr} {b : Bool} (h1 : PySem.W.isClsIn K L = true) (h2 : PySem.W.typeIn K (.ref L) = some (.type "type")) (h3 : PySem.W.subIn K (.ref C) (.ref L) = some b) : PySem.W.kitCls K (.ref C) (.ref L) = some b := by
  unfold PySem.W.kitCls
  have h1' : (PySem.W.clsIn K L).isSome = true := h1
  simp only [h1', h2, beq_self_eq_true, Bool.and_self, if_true]
  exact h3
theorem kit_one {K : PySem.W.Frag} {t c : Value} (h : PySem.W.kitCls K t c = some true) : PySem.W.kitOne K t c = some true := by
  unfold PySem.W.kitOne
  split
  · rfl
  · exact h
theorem kit_no {K : PySem.W.Frag} {C O : Addr} (s : PySem.W.subIn K (.ref C) (.ref C) = some true) (h : PySem.W.kitCls K (.ref C) (.ref O) = some false) (n : PySem.W.subIn K (.ref C) (.ref O) = some false) : PySem.W.kitOne K (.ref C) (.ref O) = some false := by
  unfold PySem.W.kitOne
  split
  · rename_i e
    have e2 : Value.ref C = Value.ref O := by simpa using e
    rw [← e2, s] at n
    cases n
  · exact h
theorem kit_ve {C : Addr} : PySem.HandSPX.refsVE [.ref C, .type "ValueError", .type "Exception", .type "BaseException", .type "object"] = true := by
  show PySem.HandSPX.refsVE [.type "ValueError", .type "Exception", .type "BaseException", .type "object"] = true
  decide +kernel
theorem kit_bt {K : PySem.W.Frag} {C : Addr} {T : String} {b : Bool} (m : PySem.W.kitMeta T = true) (h : PySem.W.subIn K (.ref C) (.type T) = some b) : PySem.W.kitOne K (.ref C) (.type T) = some b := by
  unfold PySem.W.kitOne
  rw [if_neg (by simp)]
  show (if PySem.W.kitMeta T = true then PySem.W.subIn K (.ref C) (.type T) else none) = some b
  rw [if_pos m]
  exact h
section
theorem all_mk {l : PySem.W.OpenLaw} {w : World} {K : PySem.W.Frag} {h : Heap} {mg : Str → Option Value} {fa : Addr} (X : K.In h) (G : h.Ns mainGlobals mg) (hfa : mg "law" = some (.ref fa))
    {f1 f2 f3 f4 f5 f6 f7 f8 f9 f10 f11 f12 f13 f14 f15 f16 f17 f18 f19 f20 f21 f22 f23 C_LookerError C_BadRow C_BadStep C_Certificate : Addr}
    {od1 an1 od2 an2 od3 an3 od4 an4 od5 an5 od6 an6 od7 an7 od8 an8 od9 an9 od10 an10 od11 an11 od12 an12 od13 an13 od14 an14 od15 an15 od16 an16 od17 an17 od18 an18 od19 an19 od20 an20 od21 an21 od22 an22 od23 an23 : Option Addr} {sl1 sl2 sl3 sl4 sl5 sl6 sl7 sl8 sl9 sl10 sl11 sl12 sl13 sl14 sl15 sl16 sl17 sl18 sl19 sl20 sl21 sl22 sl23 : Array (Option Value)} {oc1 kV1 dc1 pm1 cd1 ct1 oc2 kV2 dc2 pm2 cd2 ct2 oc3 kV3 dc3 pm3 cd3 ct3 oc4 kV4 dc4 pm4 cd4 ct4 oc5 kV5 dc5 pm5 cd5 ct5 oc6 kV6 dc6 pm6 cd6 ct6 oc7 kV7 dc7 pm7 cd7 ct7 oc8 kV8 dc8 pm8 cd8 ct8 oc9 kV9 dc9 pm9 cd9 ct9 oc10 kV10 dc10 pm10 cd10 ct10 oc11 kV11 dc11 pm11 cd11 ct11 oc12 kV12 dc12 pm12 cd12 ct12 oc13 kV13 dc13 pm13 cd13 ct13 oc14 kV14 dc14 pm14 cd14 ct14 oc15 kV15 dc15 pm15 cd15 ct15 oc16 kV16 dc16 pm16 cd16 ct16 oc17 kV17 dc17 pm17 cd17 ct17 oc18 kV18 dc18 pm18 cd18 ct18 oc19 kV19 dc19 pm19 cd19 ct19 oc20 kV20 dc20 pm20 cd20 ct20 oc21 kV21 dc21 pm21 cd21 ct21 oc22 kV22 dc22 pm22 cd22 ct22 oc23 kV23 dc23 pm23 cd23 ct23 : Value}
    (a1 : PySem.W.nsIn K mainGlobals "is_int" = some (some (.ref f1)))
    (l1 : K.lookup f1 = some ⟨oc1, od1, .func (PySem.W.fnOf "is_int" "is_int" (defArgs s_is_int) (defBody s_is_int) (defScope s_is_int) .none kV1 dc1 pm1 an1 cd1 ct1), sl1⟩)
    (c1 : PySem.W.codeIn K cd1 "is_int" = true)
    (k1 : PySem.W.keepIn K (.ref f1) = true)
    (a2 : PySem.W.nsIn K mainGlobals "is_whole" = some (some (.ref f2)))
    (l2 : K.lookup f2 = some ⟨oc2, od2, .func (PySem.W.fnOf "is_whole" "is_whole" (defArgs s_is_whole) (defBody s_is_whole) (defScope s_is_whole) .none kV2 dc2 pm2 an2 cd2 ct2), sl2⟩)
    (c2 : PySem.W.codeIn K cd2 "is_whole" = true)
    (k2 : PySem.W.keepIn K (.ref f2) = true)
    (a3 : PySem.W.nsIn K mainGlobals "_moved" = some (some (.ref f3)))
    (l3 : K.lookup f3 = some ⟨oc3, od3, .func (PySem.W.fnOf "_moved" "_moved" (defArgs s_moved) (defBody s_moved) (defScope s_moved) .none kV3 dc3 pm3 an3 cd3 ct3), sl3⟩)
    (c3 : PySem.W.codeIn K cd3 "_moved" = true)
    (k3 : PySem.W.keepIn K (.ref f3) = true)
    (a4 : PySem.W.nsIn K mainGlobals "_law_state" = some (some (.ref f4)))
    (l4 : K.lookup f4 = some ⟨oc4, od4, .func (PySem.W.fnOf "_law_state" "_law_state" (defArgs s_l_state) (defBody s_l_state) (defScope s_l_state) .none kV4 dc4 pm4 an4 cd4 ct4), sl4⟩)
    (c4 : PySem.W.codeIn K cd4 "_law_state" = true)
    (k4 : PySem.W.keepIn K (.ref f4) = true)
    (a5 : PySem.W.nsIn K mainGlobals "_law_draw" = some (some (.ref f5)))
    (l5 : K.lookup f5 = some ⟨oc5, od5, .func (PySem.W.fnOf "_law_draw" "_law_draw" (defArgs s_l_draw) (defBody s_l_draw) (defScope s_l_draw) .none kV5 dc5 pm5 an5 cd5 ct5), sl5⟩)
    (c5 : PySem.W.codeIn K cd5 "_law_draw" = true)
    (k5 : PySem.W.keepIn K (.ref f5) = true)
    (a6 : PySem.W.nsIn K mainGlobals "_law_alike" = some (some (.ref f6)))
    (l6 : K.lookup f6 = some ⟨oc6, od6, .func (PySem.W.fnOf "_law_alike" "_law_alike" (defArgs s_l_alike) (defBody s_l_alike) (defScope s_l_alike) .none kV6 dc6 pm6 an6 cd6 ct6), sl6⟩)
    (c6 : PySem.W.codeIn K cd6 "_law_alike" = true)
    (k6 : PySem.W.keepIn K (.ref f6) = true)
    (a7 : PySem.W.nsIn K mainGlobals "_law_value" = some (some (.ref f7)))
    (l7 : K.lookup f7 = some ⟨oc7, od7, .func (PySem.W.fnOf "_law_value" "_law_value" (defArgs s_l_value) (defBody s_l_value) (defScope s_l_value) .none kV7 dc7 pm7 an7 cd7 ct7), sl7⟩)
    (c7 : PySem.W.codeIn K cd7 "_law_value" = true)
    (k7 : PySem.W.keepIn K (.ref f7) = true)
    (a8 : PySem.W.nsIn K mainGlobals "_law_is_whole" = some (some (.ref f8)))
    (l8 : K.lookup f8 = some ⟨oc8, od8, .func (PySem.W.fnOf "_law_is_whole" "_law_is_whole" (defArgs s_l_is_whole) (defBody s_l_is_whole) (defScope s_l_is_whole) .none kV8 dc8 pm8 an8 cd8 ct8), sl8⟩)
    (c8 : PySem.W.codeIn K cd8 "_law_is_whole" = true)
    (k8 : PySem.W.keepIn K (.ref f8) = true)
    (a9 : PySem.W.nsIn K mainGlobals "_law_moved" = some (some (.ref f9)))
    (l9 : K.lookup f9 = some ⟨oc9, od9, .func (PySem.W.fnOf "_law_moved" "_law_moved" (defArgs s_l_moved) (defBody s_l_moved) (defScope s_l_moved) .none kV9 dc9 pm9 an9 cd9 ct9), sl9⟩)
    (c9 : PySem.W.codeIn K cd9 "_law_moved" = true)
    (k9 : PySem.W.keepIn K (.ref f9) = true)
    (a10 : PySem.W.nsIn K mainGlobals "_law_item" = some (some (.ref f10)))
    (l10 : K.lookup f10 = some ⟨oc10, od10, .func (PySem.W.fnOf "_law_item" "_law_item" (defArgs s_l_item) (defBody s_l_item) (defScope s_l_item) .none kV10 dc10 pm10 an10 cd10 ct10), sl10⟩)
    (c10 : PySem.W.codeIn K cd10 "_law_item" = true)
    (k10 : PySem.W.keepIn K (.ref f10) = true)
    (a11 : PySem.W.nsIn K mainGlobals "_law_is" = some (some (.ref f11)))
    (l11 : K.lookup f11 = some ⟨oc11, od11, .func (PySem.W.fnOf "_law_is" "_law_is" (defArgs s_l_is) (defBody s_l_is) (defScope s_l_is) .none kV11 dc11 pm11 an11 cd11 ct11), sl11⟩)
    (c11 : PySem.W.codeIn K cd11 "_law_is" = true)
    (k11 : PySem.W.keepIn K (.ref f11) = true)
    (a12 : PySem.W.nsIn K mainGlobals "law" = some (some (.ref f12)))
    (l12 : K.lookup f12 = some ⟨oc12, od12, .func (PySem.W.fnOf "law" "law" (defArgs s_law) (defBody s_law) (defScope s_law) .none kV12 dc12 pm12 an12 cd12 ct12), sl12⟩)
    (c12 : PySem.W.codeIn K cd12 "law" = true)
    (k12 : PySem.W.keepIn K (.ref f12) = true)
    (aC_LookerError : PySem.W.nsIn K mainGlobals "LookerError" = some (some (.ref C_LookerError)))
    (aC_BadRow : PySem.W.nsIn K mainGlobals "BadRow" = some (some (.ref C_BadRow)))
    (aC_BadStep : PySem.W.nsIn K mainGlobals "BadStep" = some (some (.ref C_BadStep)))
    (aC_Certificate : PySem.W.nsIn K mainGlobals "Certificate" = some (some (.ref C_Certificate)))
    (iL : PySem.W.isClsIn K C_LookerError = true)
    (tL : PySem.W.typeIn K (.ref C_LookerError) = some (.type "type"))
    {nm_BadRow q_BadRow : Str} {N_BadRow : Addr} {bs_BadRow : List Value} {sn_BadRow : List Str} {sub_BadRow : List Value} {ab_BadRow : Bool} {col_BadRow : Option Bool} {dd_BadRow : Option Addr} {m0_BadRow m1_BadRow m2_BadRow m3_BadRow m5_BadRow : Option Value}
    (xL_BadRow : K.lookup C_BadRow = some (excClassObj nm_BadRow q_BadRow C_BadRow N_BadRow bs_BadRow [.ref C_LookerError, .type "ValueError", .type "Exception", .type "BaseException", .type "object"] true sn_BadRow sub_BadRow ab_BadRow col_BadRow dd_BadRow m0_BadRow m1_BadRow m2_BadRow m3_BadRow m5_BadRow "ValueError.__new__"))
    (sa_BadRow : PySem.W.findIn K (.ref C_BadRow) "__setattr__" = some (some (.builtin "object.__setattr__")))
    (ga_BadRow : PySem.W.findIn K (.ref C_BadRow) "__getattribute__" = some (some (.builtin "BaseException.__getattribute__")))
    (gg_BadRow : PySem.W.findIn K (.ref C_BadRow) "__getattr__" = some none)
    (no_BadRow : PySem.W.findIn K (.ref C_BadRow) "index" = some none)
    (iC_BadRow : PySem.W.findIn K (.ref C_BadRow) "__init__" = some (some (.ref f13)))
    (tI_BadRow : PySem.W.typeIn K (.ref f13) = some (.type "function"))
    (l13 : K.lookup f13 = some ⟨oc13, od13, .func (PySem.W.fnOf "__init__" "BadRow.__init__" (defArgs init_BadRow) (defBody init_BadRow) (defScope init_BadRow) .none kV13 dc13 pm13 an13 cd13 ct13), sl13⟩)
    (c13 : PySem.W.codeIn K cd13 "BadRow.__init__" = true)
    (k13 : PySem.W.keepIn K (.ref f13) = true)
    (kC_BadRow : PySem.W.keepIn K (.ref C_BadRow) = true)
    (eC_BadRow : PySem.W.subIn K (.ref C_BadRow) (.type "BaseException") = some true)
    (tC_BadRow : PySem.W.typeIn K (.ref C_BadRow) = some (.type "type"))
    (hC_BadRow : PySem.W.hasDictIn K C_BadRow = true)
    (sC_BadRow : PySem.W.subIn K (.ref C_BadRow) (.ref C_BadRow) = some true)
    (su_BadRow : PySem.W.subIn K (.ref C_BadRow) (.ref C_LookerError) = some true)
    (eC_LookerError : PySem.W.subIn K (.ref C_LookerError) (.type "BaseException") = some true)
    (hC_LookerError : PySem.W.hasDictIn K C_LookerError = true)
    (xHn : PySem.W.specialIn K (.builtin "object.__class__") "__get__" = some (some (.builtin "getset_descriptor.__get__")))
    (xHt : PySem.W.takesIn K (.builtin "object.__class__") = some true)
    (xA_BadRow : PySem.W.findIn K (.ref C_BadRow) "__class__" = some (some (.builtin "object.__class__")))
    (xM_BadRow : PySem.W.mroIn K C_BadRow (.type "object") = some true)
    (xI_BadRow : PySem.W.isClsIn K C_BadRow = true)
    (xI_BadStep : PySem.W.isClsIn K C_BadStep = true)
    (tC_BadStep : PySem.W.typeIn K (.ref C_BadStep) = some (.type "type"))
    (xN_BadRow : PySem.W.subIn K (.ref C_BadRow) (.ref C_BadStep) = some false)
    (sv_BadRow : PySem.W.subIn K (.ref C_BadRow) (.type "ValueError") = some true)
    (o_pg : PySem.W.plainGet K C_Certificate Str.empty = true)
    (o_hd : PySem.W.hasDictIn K C_Certificate = true)
    (o_po : PySem.W.plainOver K C_Certificate = true)
    (o_sa : PySem.W.findIn K (.ref C_Certificate) "__setattr__" = some (some (.builtin "object.__setattr__")))
    (o_ha : PySem.W.findIn K (.ref C_Certificate) "__class__" = some (some (.builtin "object.__class__")))
    (o_hm : PySem.W.mroIn K C_Certificate (.type "object") = some true)
    (o_mk : PySem.W.makesIn K C_Certificate = true)
    (o_kp : PySem.W.keepIn K (.ref C_Certificate) = true)
    (o_ic : PySem.W.isClsIn K C_Certificate = true)
    (o_ty : PySem.W.typeIn K (.ref C_Certificate) = some (.type "type"))
    (o_sc : PySem.W.subIn K (.ref C_Certificate) (.ref C_Certificate) = some true)
    (o_nrows : PySem.W.findIn K (.ref C_Certificate) "rows" = some none)
    {pP pG pH : Addr} {restP restG restH : List Value}
    (m_init : PySem.W.findIn K (.ref C_Certificate) "__init__" = some (some (.ref f14)))
    (l14 : K.lookup f14 = some ⟨oc14, od14, .func (PySem.W.fnOf "__init__" "Certificate.__init__" (defArgs s_Certificate_init) (defBody s_Certificate_init) (defScope s_Certificate_init) .none kV14 dc14 pm14 an14 cd14 ct14), sl14⟩)
    (c14 : PySem.W.codeIn K cd14 "Certificate.__init__" = true)
    (k14 : PySem.W.keepIn K (.ref f14) = true)
    (j14 : PySem.W.isFn K (.ref f14) = true)
    (o_atG : PySem.W.findCls K (.ref C_Certificate) (.type "type") "given" = some (.get (.builtin "staticmethod.__get__") (.ref pG) .none (.ref C_Certificate)))
    (o_rcG : PySem.W.recIn K pG "staticmethod" = some (.ref f15 :: restG))
    (l15 : K.lookup f15 = some ⟨oc15, od15, .func (PySem.W.fnOf "given" "Certificate.given" (defArgs s_Certificate_given) (defBody s_Certificate_given) (defScope s_Certificate_given) .none kV15 dc15 pm15 an15 cd15 ct15), sl15⟩)
    (c15 : PySem.W.codeIn K cd15 "Certificate.given" = true)
    (k15 : PySem.W.keepIn K (.ref f15) = true)
    (o_atH : PySem.W.findCls K (.ref C_Certificate) (.type "type") "theory" = some (.get (.builtin "staticmethod.__get__") (.ref pH) .none (.ref C_Certificate)))
    (o_rcH : PySem.W.recIn K pH "staticmethod" = some (.ref f16 :: restH))
    (l16 : K.lookup f16 = some ⟨oc16, od16, .func (PySem.W.fnOf "theory" "Certificate.theory" (defArgs s_Certificate_theory) (defBody s_Certificate_theory) (defScope s_Certificate_theory) .none kV16 dc16 pm16 an16 cd16 ct16), sl16⟩)
    (c16 : PySem.W.codeIn K cd16 "Certificate.theory" = true)
    (k16 : PySem.W.keepIn K (.ref f16) = true)
    (m_eq : PySem.W.findIn K (.ref C_Certificate) "__eq__" = some (some (.ref f17)))
    (l17 : K.lookup f17 = some ⟨oc17, od17, .func (PySem.W.fnOf "__eq__" "Certificate.__eq__" (defArgs s_Certificate_eq) (defBody s_Certificate_eq) (defScope s_Certificate_eq) .none kV17 dc17 pm17 an17 cd17 ct17), sl17⟩)
    (c17 : PySem.W.codeIn K cd17 "Certificate.__eq__" = true)
    (k17 : PySem.W.keepIn K (.ref f17) = true)
    (j17 : PySem.W.isFn K (.ref f17) = true)
    (m_len : PySem.W.findIn K (.ref C_Certificate) "__len__" = some (some (.ref f18)))
    (l18 : K.lookup f18 = some ⟨oc18, od18, .func (PySem.W.fnOf "__len__" "Certificate.__len__" (defArgs s_Certificate_len) (defBody s_Certificate_len) (defScope s_Certificate_len) .none kV18 dc18 pm18 an18 cd18 ct18), sl18⟩)
    (c18 : PySem.W.codeIn K cd18 "Certificate.__len__" = true)
    (k18 : PySem.W.keepIn K (.ref f18) = true)
    (j18 : PySem.W.isFn K (.ref f18) = true)
    (m_iter : PySem.W.findIn K (.ref C_Certificate) "__iter__" = some (some (.ref f19)))
    (l19 : K.lookup f19 = some ⟨oc19, od19, .func (PySem.W.fnOf "__iter__" "Certificate.__iter__" (defArgs s_Certificate_iter) (defBody s_Certificate_iter) (defScope s_Certificate_iter) .none kV19 dc19 pm19 an19 cd19 ct19), sl19⟩)
    (c19 : PySem.W.codeIn K cd19 "Certificate.__iter__" = true)
    (k19 : PySem.W.keepIn K (.ref f19) = true)
    (j19 : PySem.W.isFn K (.ref f19) = true)
    (m_getitem : PySem.W.findIn K (.ref C_Certificate) "__getitem__" = some (some (.ref f20)))
    (l20 : K.lookup f20 = some ⟨oc20, od20, .func (PySem.W.fnOf "__getitem__" "Certificate.__getitem__" (defArgs s_Certificate_getitem) (defBody s_Certificate_getitem) (defScope s_Certificate_getitem) .none kV20 dc20 pm20 an20 cd20 ct20), sl20⟩)
    (c20 : PySem.W.codeIn K cd20 "Certificate.__getitem__" = true)
    (k20 : PySem.W.keepIn K (.ref f20) = true)
    (j20 : PySem.W.isFn K (.ref f20) = true)
    (m_add : PySem.W.findIn K (.ref C_Certificate) "__add__" = some (some (.ref f21)))
    (l21 : K.lookup f21 = some ⟨oc21, od21, .func (PySem.W.fnOf "__add__" "Certificate.__add__" (defArgs s_Certificate_add) (defBody s_Certificate_add) (defScope s_Certificate_add) .none kV21 dc21 pm21 an21 cd21 ct21), sl21⟩)
    (c21 : PySem.W.codeIn K cd21 "Certificate.__add__" = true)
    (k21 : PySem.W.keepIn K (.ref f21) = true)
    (j21 : PySem.W.isFn K (.ref f21) = true)
    (o_pa : PySem.W.findIn K (.ref C_Certificate) "last" = some (some (.ref pP)))
    (o_pg2 : PySem.W.specialIn K (.ref pP) "__get__" = some (some (.builtin "property.__get__")))
    (o_pt : PySem.W.takesIn K (.ref pP) = some true)
    (o_pr : PySem.W.recIn K pP "property" = some (.ref f22 :: restP))
    (l22 : K.lookup f22 = some ⟨oc22, od22, .func (PySem.W.fnOf "last" "Certificate.last" (defArgs s_Certificate_last) (defBody s_Certificate_last) (defScope s_Certificate_last) .none kV22 dc22 pm22 an22 cd22 ct22), sl22⟩)
    (c22 : PySem.W.codeIn K cd22 "Certificate.last" = true)
    (k22 : PySem.W.keepIn K (.ref f22) = true)
    (m_resolve : PySem.W.findIn K (.ref C_Certificate) "resolve" = some (some (.ref f23)))
    (l23 : K.lookup f23 = some ⟨oc23, od23, .func (PySem.W.fnOf "resolve" "Certificate.resolve" (defArgs s_Certificate_resolve) (defBody s_Certificate_resolve) (defScope s_Certificate_resolve) .none kV23 dc23 pm23 an23 cd23 ct23), sl23⟩)
    (c23 : PySem.W.codeIn K cd23 "Certificate.resolve" = true)
    (k23 : PySem.W.keepIn K (.ref f23) = true)
    (j23 : PySem.W.isFn K (.ref f23) = true)
    (jG : PySem.W.fnIn K f20 = true)
    (o_ne : PySem.W.findIn K (.ref C_Certificate) "__ne__" = some (some (.builtin "object.__ne__")))
    (o_sf : PySem.W.selfFirst K C_Certificate = true)
    (o_rd : PySem.W.readsIn K C_Certificate (.type "type") = true)
    (o_gat : PySem.W.specialIn K (.ref C_Certificate) "__getattribute__" = some (some (.builtin "type.__getattribute__")))
    (z_ValueError : PySem.W.nsIn K mainGlobals "ValueError" = some none)
    (z_bool : PySem.W.nsIn K mainGlobals "bool" = some none)
    (z_int : PySem.W.nsIn K mainGlobals "int" = some none)
    (z_isinstance : PySem.W.nsIn K mainGlobals "isinstance" = some none)
    (z_iter : PySem.W.nsIn K mainGlobals "iter" = some none)
    (z_len : PySem.W.nsIn K mainGlobals "len" = some none)
    (z_list : PySem.W.nsIn K mainGlobals "list" = some none)
    (z_range : PySem.W.nsIn K mainGlobals "range" = some none)
    (z_str : PySem.W.nsIn K mainGlobals "str" = some none)
    (z_tuple : PySem.W.nsIn K mainGlobals "tuple" = some none)
    : ∃ fd : FuncData, (∀ (s : Shared) (v : Value), BindsTo s fd ⟨[v], []⟩ [("_law_script", v)]) ∧ ∀ base : Heap, K.In base → base.Ns mainGlobals mg → FnOk l.prog w K mg base CX0 33 fa fd ["_law_script"] (spLaw K) := by
  have e := hfa.symm.trans (PySem.W.mg_of X G a12)
  cases e
  have F1 := fun_mk (st := s_is_int) l1 c1 k1
  have b1 := F1.binds (ps := ["value"]) fun _ _ _ _ _ _ us hl => match us, hl with | [_], _ => rfl
  have F2 := fun_mk (st := s_is_whole) l2 c2 k2
  have b2 := F2.binds (ps := ["value", "least", "most"]) fun _ _ _ _ _ _ us hl => match us, hl with | [_, _, _], _ => rfl
  have F3 := fun_mk (st := s_moved) l3 c3 k3
  have b3 := F3.binds (ps := ["row", "by"]) fun _ _ _ _ _ _ us hl => match us, hl with | [_, _], _ => rfl
  have F4 := fun_mk (st := s_l_state) l4 c4 k4
  have b4 := F4.binds (ps := ["_law_script"]) fun _ _ _ _ _ _ us hl => match us, hl with | [_], _ => rfl
  have F5 := fun_mk (st := s_l_draw) l5 c5 k5
  have b5 := F5.binds (ps := ["_law_state_here", "_law_many"]) fun _ _ _ _ _ _ us hl => match us, hl with | [_, _], _ => rfl
  have F6 := fun_mk (st := s_l_alike) l6 c6 k6
  have b6 := F6.binds (ps := ["_law_actual", "_law_due"]) fun _ _ _ _ _ _ us hl => match us, hl with | [_, _], _ => rfl
  have F7 := fun_mk (st := s_l_value) l7 c7 k7
  have b7 := F7.binds (ps := ["_law_state_here"]) fun _ _ _ _ _ _ us hl => match us, hl with | [_], _ => rfl
  have F8 := fun_mk (st := s_l_is_whole) l8 c8 k8
  have b8 := F8.binds (ps := ["_law_value_here"]) fun _ _ _ _ _ _ us hl => match us, hl with | [_], _ => rfl
  have F9 := fun_mk (st := s_l_moved) l9 c9 k9
  have b9 := F9.binds (ps := ["_law_rows", "_law_steps"]) fun _ _ _ _ _ _ us hl => match us, hl with | [_, _], _ => rfl
  have F10 := fun_mk (st := s_l_item) l10 c10 k10
  have b10 := F10.binds (ps := ["_law_certificate", "_law_at"]) fun _ _ _ _ _ _ us hl => match us, hl with | [_, _], _ => rfl
  have F11 := fun_mk (st := s_l_is) l11 c11 k11
  have b11 := F11.binds (ps := ["_law_certificate", "_law_rows"]) fun _ _ _ _ _ _ us hl => match us, hl with | [_, _], _ => rfl
  have F12 := fun_mk (st := s_law) l12 c12 k12
  have b12 := F12.binds (ps := ["_law_script"]) fun _ _ _ _ _ _ us hl => match us, hl with | [_], _ => rfl
  let ad : Ad := { f_is_int := f1, d_is_int := (PySem.W.fnOf "is_int" "is_int" (defArgs s_is_int) (defBody s_is_int) (defScope s_is_int) .none kV1 dc1 pm1 an1 cd1 ct1), f_is_whole := f2, d_is_whole := (PySem.W.fnOf "is_whole" "is_whole" (defArgs s_is_whole) (defBody s_is_whole) (defScope s_is_whole) .none kV2 dc2 pm2 an2 cd2 ct2), f_moved := f3, d_moved := (PySem.W.fnOf "_moved" "_moved" (defArgs s_moved) (defBody s_moved) (defScope s_moved) .none kV3 dc3 pm3 an3 cd3 ct3), f_l_state := f4, d_l_state := (PySem.W.fnOf "_law_state" "_law_state" (defArgs s_l_state) (defBody s_l_state) (defScope s_l_state) .none kV4 dc4 pm4 an4 cd4 ct4), f_l_draw := f5, d_l_draw := (PySem.W.fnOf "_law_draw" "_law_draw" (defArgs s_l_draw) (defBody s_l_draw) (defScope s_l_draw) .none kV5 dc5 pm5 an5 cd5 ct5), f_l_alike := f6, d_l_alike := (PySem.W.fnOf "_law_alike" "_law_alike" (defArgs s_l_alike) (defBody s_l_alike) (defScope s_l_alike) .none kV6 dc6 pm6 an6 cd6 ct6), f_l_value := f7, d_l_value := (PySem.W.fnOf "_law_value" "_law_value" (defArgs s_l_value) (defBody s_l_value) (defScope s_l_value) .none kV7 dc7 pm7 an7 cd7 ct7), f_l_is_whole := f8, d_l_is_whole := (PySem.W.fnOf "_law_is_whole" "_law_is_whole" (defArgs s_l_is_whole) (defBody s_l_is_whole) (defScope s_l_is_whole) .none kV8 dc8 pm8 an8 cd8 ct8), f_l_moved := f9, d_l_moved := (PySem.W.fnOf "_law_moved" "_law_moved" (defArgs s_l_moved) (defBody s_l_moved) (defScope s_l_moved) .none kV9 dc9 pm9 an9 cd9 ct9), f_l_item := f10, d_l_item := (PySem.W.fnOf "_law_item" "_law_item" (defArgs s_l_item) (defBody s_l_item) (defScope s_l_item) .none kV10 dc10 pm10 an10 cd10 ct10), f_l_is := f11, d_l_is := (PySem.W.fnOf "_law_is" "_law_is" (defArgs s_l_is) (defBody s_l_is) (defScope s_l_is) .none kV11 dc11 pm11 an11 cd11 ct11), f_law := fa, d_law := (PySem.W.fnOf "law" "law" (defArgs s_law) (defBody s_law) (defScope s_law) .none kV12 dc12 pm12 an12 cd12 ct12), c_LookerError := C_LookerError, c_BadRow := C_BadRow, c_BadStep := C_BadStep, c_Certificate := C_Certificate }
  have T : Top K mg ad :=
    { F_is_int := F1,
      m_is_int := PySem.W.mg_of X G a1,
      b_is_int := b1,
      F_is_whole := F2,
      m_is_whole := PySem.W.mg_of X G a2,
      b_is_whole := b2,
      F_moved := F3,
      m_moved := PySem.W.mg_of X G a3,
      b_moved := b3,
      F_l_state := F4,
      m_l_state := PySem.W.mg_of X G a4,
      b_l_state := b4,
      F_l_draw := F5,
      m_l_draw := PySem.W.mg_of X G a5,
      b_l_draw := b5,
      F_l_alike := F6,
      m_l_alike := PySem.W.mg_of X G a6,
      b_l_alike := b6,
      F_l_value := F7,
      m_l_value := PySem.W.mg_of X G a7,
      b_l_value := b7,
      F_l_is_whole := F8,
      m_l_is_whole := PySem.W.mg_of X G a8,
      b_l_is_whole := b8,
      F_l_moved := F9,
      m_l_moved := PySem.W.mg_of X G a9,
      b_l_moved := b9,
      F_l_item := F10,
      m_l_item := PySem.W.mg_of X G a10,
      b_l_item := b10,
      F_l_is := F11,
      m_l_is := PySem.W.mg_of X G a11,
      b_l_is := b11,
      F_law := F12,
      m_law := PySem.W.mg_of X G a12,
      b_law := b12,
      m_LookerError := PySem.W.mg_of X G aC_LookerError,
      m_BadRow := PySem.W.mg_of X G aC_BadRow,
      m_BadStep := PySem.W.mg_of X G aC_BadStep,
      m_Certificate := PySem.W.mg_of X G aC_Certificate,
      z_ValueError := PySem.W.mg_none_of X G z_ValueError,
      z_bool := PySem.W.mg_none_of X G z_bool,
      z_int := PySem.W.mg_none_of X G z_int,
      z_isinstance := PySem.W.mg_none_of X G z_isinstance,
      z_iter := PySem.W.mg_none_of X G z_iter,
      z_len := PySem.W.mg_none_of X G z_len,
      z_list := PySem.W.mg_none_of X G z_list,
      z_range := PySem.W.mg_none_of X G z_range,
      z_str := PySem.W.mg_none_of X G z_str,
      z_tuple := PySem.W.mg_none_of X G z_tuple }
  have FI_BadRow := fun_mk (st := init_BadRow) l13 c13 k13
  have bI_BadRow := FI_BadRow.binds (ps := ["self", "index"]) fun _ _ _ _ _ _ us hl => match us, hl with | [_, _], _ => rfl
  have ox_BadRow : OexC K C_BadRow := ⟨⟨_, _, _, _, _, _, _, _, _, _, _, _, _, _, _, xL_BadRow, kit_ve⟩, sa_BadRow, eC_BadRow, tC_BadRow, kC_BadRow⟩
  have EX : ErS K C_BadRow C_LookerError C_BadStep f13 _ := ⟨ox_BadRow, iC_BadRow, tI_BadRow, no_BadRow, FI_BadRow, bI_BadRow, ⟨ga_BadRow, gg_BadRow, eC_BadRow, hC_BadRow⟩, ⟨ga_BadRow, gg_BadRow, eC_BadRow, hC_BadRow, xA_BadRow, xHn, xHt, xM_BadRow⟩, PySem.W.exm_ref eC_LookerError hC_LookerError tL su_BadRow, kit_one (kit_sub xI_BadRow tC_BadRow sC_BadRow), kit_bt (by decide +kernel) sv_BadRow, kit_no sC_BadRow (kit_sub xI_BadStep tC_BadStep xN_BadRow) xN_BadRow⟩
  have FM_init := fun_mk (st := s_Certificate_init) l14 c14 k14
  have bM_init := FM_init.binds (ps := ["self", "rows"]) fun _ _ _ _ _ _ us hl => match us, hl with | [_, _], _ => rfl
  have FM_given := fun_mk (st := s_Certificate_given) l15 c15 k15
  have bM_given := FM_given.binds (ps := ["label"]) fun _ _ _ _ _ _ us hl => match us, hl with | [_], _ => rfl
  have FM_theory := fun_mk (st := s_Certificate_theory) l16 c16 k16
  have bM_theory := FM_theory.binds (ps := ["owner", "clause"]) fun _ _ _ _ _ _ us hl => match us, hl with | [_, _], _ => rfl
  have FM_eq := fun_mk (st := s_Certificate_eq) l17 c17 k17
  have bM_eq := FM_eq.binds (ps := ["self", "other"]) fun _ _ _ _ _ _ us hl => match us, hl with | [_, _], _ => rfl
  have FM_len := fun_mk (st := s_Certificate_len) l18 c18 k18
  have bM_len := FM_len.binds (ps := ["self"]) fun _ _ _ _ _ _ us hl => match us, hl with | [_], _ => rfl
  have FM_iter := fun_mk (st := s_Certificate_iter) l19 c19 k19
  have bM_iter := FM_iter.binds (ps := ["self"]) fun _ _ _ _ _ _ us hl => match us, hl with | [_], _ => rfl
  have FM_getitem := fun_mk (st := s_Certificate_getitem) l20 c20 k20
  have bM_getitem := FM_getitem.binds (ps := ["self", "at"]) fun _ _ _ _ _ _ us hl => match us, hl with | [_, _], _ => rfl
  have FM_add := fun_mk (st := s_Certificate_add) l21 c21 k21
  have bM_add := FM_add.binds (ps := ["self", "other"]) fun _ _ _ _ _ _ us hl => match us, hl with | [_, _], _ => rfl
  have FM_last := fun_mk (st := s_Certificate_last) l22 c22 k22
  have bM_last := FM_last.binds (ps := ["self"]) fun _ _ _ _ _ _ us hl => match us, hl with | [_], _ => rfl
  have FM_resolve := fun_mk (st := s_Certificate_resolve) l23 c23 k23
  have bM_resolve := FM_resolve.binds (ps := ["self", "first", "second", "atom"]) fun _ _ _ _ _ _ us hl => match us, hl with | [_, _, _, _], _ => rfl
  have B : CrC K C_Certificate (.type "type") ⟨f14, f15, f16, f17, f18, f19, f20, f21, f22, f23, pP, pG, pH, _, _, _, _, _, _, _, _, _, _⟩ := { ins := ⟨⟨o_pg, o_hd, o_po, o_sa⟩, o_ha, xHn, xHt, o_hm, kit_one (kit_sub o_ic o_ty o_sc)⟩, mkr := ⟨o_mk, m_init, j14, o_kp⟩, nR := o_nrows, F_I := FM_init, b_I := bM_init, F_G := FM_given, b_G := bM_given, F_H := FM_theory, b_H := bM_theory, F_E := FM_eq, b_E := bM_eq, F_L := FM_len, b_L := bM_len, F_T := FM_iter, b_T := bM_iter, F_X := FM_getitem, b_X := bM_getitem, F_A := FM_add, b_A := bM_add, F_P := FM_last, b_P := bM_last, F_R := FM_resolve, b_R := bM_resolve, itl := ⟨m_iter, j19, m_len, j18⟩, gs := m_getitem, gf := jG, gn := j20, es := m_eq, en := j17, om := o_hm, ns := o_ne, as_ := m_add, an := j21, sf := o_sf, pr := ⟨o_pa, o_pg2, o_pt, ⟨_, o_pr⟩⟩, mt := ⟨m_resolve, j23, k23⟩, rC := ⟨o_rd, o_gat⟩, sG := ⟨o_atG, ⟨_, o_rcG⟩, k15⟩, sH := ⟨o_atH, ⟨_, o_rcH⟩, k16⟩ }
  exact ⟨_, fun s v => .of_eq rfl, fun base _ _ => ok_law (a := ad) T B EX⟩
end
end K28
open PySem PySem.W PyProof.Rows
set_option maxHeartbeats 0 in
theorem PySem.Challenge.cw_onelooker_k28_sums_of_certificates_holds : PySem.Challenge.rw_onelooker_k28_sums_of_certificates.Holds := by
  w_on; o_law; k_head; (case hw => w_witness2)
  k_fill
  refine L2.walk_of (l := PySem.Challenge.rw_onelooker_k28_sums_of_certificates) (n := 63) (k := 33) (x := "_law_script") (CX := fun _ => L2.CX0) (sp := fun w => K28.spLaw _) rfl (by decide) rfl ⟨rfl, by decide, by decide⟩ (fun w h Y => PySem.W.kIn_of Y) ?F (fun _ _ a ns hl _ hS => ⟨a, ns, rfl, hS, fun _ => rfl⟩) (fun _ _ _ _ _ h => h)
  case F =>
    intro w mg fa h KX G hmg
    refine' K28.all_mk KX G hmg ?a1 ?l1 ?c1 ?k1 ?a2 ?l2 ?c2 ?k2 ?a3 ?l3 ?c3 ?k3 ?a4 ?l4 ?c4 ?k4 ?a5 ?l5 ?c5 ?k5 ?a6 ?l6 ?c6 ?k6 ?a7 ?l7 ?c7 ?k7 ?a8 ?l8 ?c8 ?k8 ?a9 ?l9 ?c9 ?k9 ?a10 ?l10 ?c10 ?k10 ?a11 ?l11 ?c11 ?k11 ?a12 ?l12 ?c12 ?k12 ?aC_LookerError ?aC_BadRow ?aC_BadStep ?aC_Certificate ?iL ?tL ?xL_BadRow ?sa_BadRow ?ga_BadRow ?gg_BadRow ?no_BadRow ?iC_BadRow ?tI_BadRow ?l13 ?c13 ?k13 ?kC_BadRow ?eC_BadRow ?tC_BadRow ?hC_BadRow ?sC_BadRow ?su_BadRow ?eC_LookerError ?hC_LookerError ?xHn ?xHt ?xA_BadRow ?xM_BadRow ?xI_BadRow ?xI_BadStep ?tC_BadStep ?xN_BadRow ?sv_BadRow ?o_pg ?o_hd ?o_po ?o_sa ?o_ha ?o_hm ?o_mk ?o_kp ?o_ic ?o_ty ?o_sc ?o_nrows ?m_init ?l14 ?c14 ?k14 ?j14 ?o_atG ?o_rcG ?l15 ?c15 ?k15 ?o_atH ?o_rcH ?l16 ?c16 ?k16 ?m_eq ?l17 ?c17 ?k17 ?j17 ?m_len ?l18 ?c18 ?k18 ?j18 ?m_iter ?l19 ?c19 ?k19 ?j19 ?m_getitem ?l20 ?c20 ?k20 ?j20 ?m_add ?l21 ?c21 ?k21 ?j21 ?o_pa ?o_pg2 ?o_pt ?o_pr ?l22 ?c22 ?k22 ?m_resolve ?l23 ?c23 ?k23 ?j23 ?jG ?o_ne ?o_sf ?o_rd ?o_gat ?z_ValueError ?z_bool ?z_int ?z_isinstance ?z_iter ?z_len ?z_list ?z_range ?z_str ?z_tuple
    (case a1 => k_is)
    (case l1 => k_is)
    (case c1 => k_is)
    (case k1 => k_is)
    (case a2 => k_is)
    (case l2 => k_is)
    (case c2 => k_is)
    (case k2 => k_is)
    (case a3 => k_is)
    (case l3 => k_is)
    (case c3 => k_is)
    (case k3 => k_is)
    (case a4 => k_is)
    (case l4 => k_is)
    (case c4 => k_is)
    (case k4 => k_is)
    (case a5 => k_is)
    (case l5 => k_is)
    (case c5 => k_is)
    (case k5 => k_is)
    (case a6 => k_is)
    (case l6 => k_is)
    (case c6 => k_is)
    (case k6 => k_is)
    (case a7 => k_is)
    (case l7 => k_is)
    (case c7 => k_is)
    (case k7 => k_is)
    (case a8 => k_is)
    (case l8 => k_is)
    (case c8 => k_is)
    (case k8 => k_is)
    (case a9 => k_is)
    (case l9 => k_is)
    (case c9 => k_is)
    (case k9 => k_is)
    (case a10 => k_is)
    (case l10 => k_is)
    (case c10 => k_is)
    (case k10 => k_is)
    (case a11 => k_is)
    (case l11 => k_is)
    (case c11 => k_is)
    (case k11 => k_is)
    (case a12 => k_is)
    (case l12 => k_is)
    (case c12 => k_is)
    (case k12 => k_is)
    (case aC_LookerError => k_is)
    (case aC_BadRow => k_is)
    (case aC_BadStep => k_is)
    (case aC_Certificate => k_is)
    (case iL => k_is)
    (case tL => k_is)
    (case xL_BadRow => k_is)
    (case sa_BadRow => k_is)
    (case ga_BadRow => k_is)
    (case gg_BadRow => k_is)
    (case no_BadRow => k_is)
    (case iC_BadRow => k_is)
    (case tI_BadRow => k_is)
    (case l13 => k_is)
    (case c13 => k_is)
    (case k13 => k_is)
    (case kC_BadRow => k_is)
    (case eC_BadRow => k_is)
    (case tC_BadRow => k_is)
    (case hC_BadRow => k_is)
    (case sC_BadRow => k_is)
    (case su_BadRow => k_is)
    (case eC_LookerError => k_is)
    (case hC_LookerError => k_is)
    (case xHn => k_is)
    (case xHt => k_is)
    (case xA_BadRow => k_is)
    (case xM_BadRow => k_is)
    (case xI_BadRow => k_is)
    (case xI_BadStep => k_is)
    (case tC_BadStep => k_is)
    (case xN_BadRow => k_is)
    (case sv_BadRow => k_is)
    (case o_pg => k_is)
    (case o_hd => k_is)
    (case o_po => k_is)
    (case o_sa => k_is)
    (case o_ha => k_is)
    (case o_hm => k_is)
    (case o_mk => k_is)
    (case o_kp => k_is)
    (case o_ic => k_is)
    (case o_ty => k_is)
    (case o_sc => k_is)
    (case o_nrows => k_is)
    (case m_init => k_is)
    (case l14 => k_is)
    (case c14 => k_is)
    (case k14 => k_is)
    (case j14 => k_is)
    (case o_atG => k_is)
    (case o_rcG => k_is)
    (case l15 => k_is)
    (case c15 => k_is)
    (case k15 => k_is)
    (case o_atH => k_is)
    (case o_rcH => k_is)
    (case l16 => k_is)
    (case c16 => k_is)
    (case k16 => k_is)
    (case m_eq => k_is)
    (case l17 => k_is)
    (case c17 => k_is)
    (case k17 => k_is)
    (case j17 => k_is)
    (case m_len => k_is)
    (case l18 => k_is)
    (case c18 => k_is)
    (case k18 => k_is)
    (case j18 => k_is)
    (case m_iter => k_is)
    (case l19 => k_is)
    (case c19 => k_is)
    (case k19 => k_is)
    (case j19 => k_is)
    (case m_getitem => k_is)
    (case l20 => k_is)
    (case c20 => k_is)
    (case k20 => k_is)
    (case j20 => k_is)
    (case m_add => k_is)
    (case l21 => k_is)
    (case c21 => k_is)
    (case k21 => k_is)
    (case j21 => k_is)
    (case o_pa => k_is)
    (case o_pg2 => k_is)
    (case o_pt => k_is)
    (case o_pr => k_is)
    (case l22 => k_is)
    (case c22 => k_is)
    (case k22 => k_is)
    (case m_resolve => k_is)
    (case l23 => k_is)
    (case c23 => k_is)
    (case k23 => k_is)
    (case j23 => k_is)
    (case jG => k_is)
    (case o_ne => k_is)
    (case o_sf => k_is)
    (case o_rd => k_is)
    (case o_gat => k_is)
    (case z_ValueError => k_is)
    (case z_bool => k_is)
    (case z_int => k_is)
    (case z_isinstance => k_is)
    (case z_iter => k_is)
    (case z_len => k_is)
    (case z_list => k_is)
    (case z_range => k_is)
    (case z_str => k_is)
    (case z_tuple => k_is)

