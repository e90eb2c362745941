import PyProof.Rows.All
import Wide.All
import OpenK.AllK
import Wide.FinOn
import HandS.ForMost
import HandS.SortKw
import HandS.TupAny
import KE.SortData
import KE.DatumOrd
import HandS.DictComp
import HandS.Conv
import HandS.Walk
import HandS.Star
import HandS.Zip
import HandS.TupSets
import HandS.SetFor
import HandS.ExcIs
import HandS.ExcField
import KE.KExcIs
import KE.GoesEnum
import KE.GoesMore
import KE.KDictZip
import HandS.Wide
import HandS.Style
import KE.KRevSl
import HandS.ClsMeth
import OpenK.KOps
import OpenK.KMeth
import HandS.Codes
import HandS.Words
import HandS.IterNext
import HandS.OwnIter
import PyProof.WalksMore
import PyProof.CollectWalk
import HandS.DictTup
import KE.KDictItemsList
import KE.KDictKeyed
import KE.KeyNested
import KE.KDictPairs
import KE.KDictCopyH
import HandS.Deep
import KE.KEqDict
import PyProof.NeData
import KE.KDictLaw
import HandS.CallSlots
import HandS.Defaults
import HandS.Iter
import KE.KDictWalk
import PyProof.InstEq
import HandS.SlotsOwn
import HandS.Strs
import PyProof.Rows.SeqMore
import HandS.Steps
import HandS.IsInst
import HandS.TryOnly
import HandS.Exc
import KE.LtData
import HandS.Small
import HandS.SetKeys
import PySem.Challenge.RW_onelooker_k20_orders_closed
set_option Elab.async false
set_option linter.all false
set_option maxRecDepth 100000
set_option maxHeartbeats 4000000
namespace R0
open PySem PySem.Spec PyProof.Rows L2
/-! ### sorted(xs), the items any data: the one stable order -/
def sortV (xs : List V) (ds : List PyData) : List V := ((xs.zip ds).mergeSort (PySem.W.dataLe false Prod.snd)).map Prod.fst
def DepLe (n : Nat) (ds : List PyData) : Prop := ∀ d ∈ ds, d.depth ≤ n
theorem dpAll_len {K : PySem.W.Frag} {H : Hp} : ∀ {xs : List V} {ds : List PyData}, DpAll K H xs ds → xs.length = ds.length
  | _, _, .nil => rfl
  | _, _, .cons _ t => congrArg Nat.succ (dpAll_len t)
section
variable {X : Cx} {pins : List (Addr × Obj)} {σ : L2.St} {H : Hp} {s : Shared}
theorem each_rel : ∀ {xs : List V} {its : List Value} {ds : List PyData}, Vals xs its → DpAll X.K H xs ds → PySem.W.EachIs (fun (v : Value) (b : V × PyData) => RelV b.1 v) its (xs.zip ds)
  | _, _, _, .nil, .nil => .nil
  | _, _, _, .cons r t, .cons _ d => .cons r (each_rel t d)
theorem each_reads (I : Inv X pins σ H s) : ∀ {xs : List V} {its : List Value} {ds : List PyData}, Vals xs its → DpAll X.K H xs ds → PySem.W.EachIs (fun (v : Value) (b : V × PyData) => ∃ as, Reads s.heap v b.2 as) its (xs.zip ds)
  | _, _, _, .nil, .nil => .nil
  | _, _, _, .cons r t, .cons h d => .cons (Dp.reads I _ _ _ h r) (each_reads I t d)
theorem each_vals : ∀ {out : List Value} {bs : List (V × PyData)}, PySem.W.EachIs (fun (v : Value) (b : V × PyData) => RelV b.1 v) out bs → Vals (bs.map Prod.fst) out
  | _, _, .nil => .nil
  | _, _, .cons r t => .cons r (each_vals t)
theorem zip_snd : ∀ {xs : List V} {ds : List PyData}, xs.length = ds.length → (xs.zip ds).map Prod.snd = ds
  | [], [], _ => rfl
  | x :: xs, d :: ds, h => congrArg (d :: ·) (zip_snd (Nat.succ.inj h))
def rSortD (K : PySem.W.Frag) : List V → Hp → VK → Prop := fun vs H Q => ∃ (a : Addr) (xs : List V) (ds : List PyData), vs = [.ref a] ∧ SqL K H a xs ∧ DpAll K H xs ds ∧ PySem.W.AllAlike ds ∧ PySem.W.Sortable ds ∧ DepLe 60 ds ∧
  ∀ p, H p = none → Q (.ref p) (upd H p (.lst (sortV xs ds)))
theorem cr_sortD (hu : X.A.units + 64 < cLine) : CallR X (.builtin "sorted") (rSortD X.K) := by
  intro pins s σ H vs us Q I r h
  obtain ⟨a, xs, ds, rfl, hs, hd, hal, hk, hdep, q⟩ := h
  obtain ⟨its, rv, pl, hz⟩ := I.list hs
  obtain ⟨u, rfl, ru⟩ := vals1 r
  obtain rfl : u = Value.ref a := ru
  have el := dpAll_len hd
  have em := zip_snd el
  have ln : (xs.zip ds).length = xs.length := by rw [List.length_zip, ← el, Nat.min_self]
  have lt : its.length = xs.length := rv.length.symm
  refine PySem.W.sorted_data (β := V × PyData) (enc := Prod.snd) (bs := xs.zip ds) (vs := its) (R := fun v b => RelV b.1 v) pl.isList (each_rel rv hd) (each_reads I rv hd) (by rw [em]; exact hal) (by rw [em]; exact hk) (by rw [ln]; exact hz) (fun b hb => ?_) fun out ho hE => ?_
  · have : b.2.depth ≤ 60 := hdep _ (by rw [← em]; exact List.mem_map.mpr ⟨b, hb, rfl⟩)
    omega
  · obtain ⟨e, he⟩ := PyProof.Rows.sortedAll_at s.heap its (List.toArray out)
    have hv := each_vals hE
    refine ⟨.ref (s.heap.objs.size + 1), upd H (s.heap.objs.size + 1) (.lst (sortV xs ds)), I.laid (t' := s.toks) (fun b o z => PyProof.Rows.sortedAll_old z) (Nat.le_succ _) ⟨?_, out, e, hv, he⟩, rfl, q _ (I.hok.fresh (Nat.le_succ _))⟩
    unfold sortV
    rw [List.length_map, List.length_mergeSort, ln]
    exact hz
/-! ### max(t, default=d), t a tuple or a list of ints -/
def maxL (d : Int) : List Int → Int
  | [] => d
  | x :: r => r.foldl (fun a y => if a < y then y else a) x
theorem maxOf_int (x : Int) (r : List Int) : PySem.W.maxOf x r = maxL 0 (x :: r) := by
  unfold PySem.W.maxOf maxL
  congr 1
  funext a y
  by_cases h : a < y
  · rw [if_pos h, if_pos (show PySem.W.DatumOrd.lt a y = true from decide_eq_true h)]
  · rw [if_neg h, if_neg (fun z : PySem.W.DatumOrd.lt a y = true => h (of_decide_eq_true z))]
theorem hold_ints {h : Heap} : ∀ {ns : List Int} {us : List Value}, Vals (ns.map V.int) us → PySem.W.HoldAll h us ns
  | [], _, .nil => ⟨_, .nil⟩
  | n :: ns, _, .cons r t => by
    obtain ⟨k, rfl⟩ := r
    obtain ⟨as, q⟩ := hold_ints t
    exact ⟨_, .cons (.int n k) q⟩
def rMaxD (K : PySem.W.Frag) : List V → List V → Hp → VK → Prop := fun vs zs H Q => ∃ (a : Addr) (ns : List Int) (d : Int), vs = [.ref a] ∧ zs = [.int d] ∧ (SqT K H a (ns.map V.int) ∨ SqL K H a (ns.map V.int)) ∧ Q (.int (maxL d ns)) H
theorem ck_maxD (hc : X.calm = true) (hu : X.A.units + 64 < cLine) : CallRK X (.builtin "max") ["default"] (rMaxD X.K) := by
  intro pins s σ H xs zs us ws Q I r rz h
  obtain ⟨a, ns, d, rfl, rfl, hs, q⟩ := h
  obtain ⟨u, rfl, ru⟩ := vals1 r
  obtain rfl : u = Value.ref a := ru
  obtain ⟨w1, rfl, rw1⟩ := vals1 rz
  have fin : ∀ (i : Nat) (v : Value) (h' : Heap) (tk : Nat) (y : Int) (ys : List Int), ns = y :: ys → PySem.W.Holds h' v (PySem.W.maxOf y ys) → (∀ b o, s.heap.get? b = some o → h'.get? b = some o) → EP X pins σ Q v { s with heap := h', toks := tk } := fun i v h' tk y ys e hv k => by
    obtain ⟨as, hv⟩ := hv
    subst e
    have hv' : Reads h' v (.int (PySem.W.maxOf y ys)) as := hv
    cases hv'
    refine ⟨.int (PySem.W.maxOf y ys), H, I.kept k, ⟨_, rfl⟩, ?_⟩
    rw [maxOf_int]
    exact q
  have fin0 : ns = [] → ∀ (h' : Heap) (tk : Nat), (∀ b o, s.heap.get? b = some o → h'.get? b = some o) → EP X pins σ Q w1 { s with heap := h', toks := tk } := fun e h' tk k => by
    subst e
    exact ⟨.int d, H, I.kept k, rw1, q⟩
  rcases hs with hs | hs
  · obtain ⟨its, rv, ht, hz⟩ := I.tuple hs
    refine PySem.W.max_tuple_datum_default (xs := ns) (vs := its.toArray) (I.ok.hd hc) ht ?_ ?_ fin0 fun y ys i v h' tk e _ hv k => fin i v h' tk y ys e hv k
    · simpa using hold_ints (h := s.heap) rv
    · show X.A.units + 1 + 0 < cLine
      omega
  · obtain ⟨its, rv, pl, hz⟩ := I.list hs
    refine PySem.W.max_list_datum_default (xs := ns) (vs := its.toArray) (I.ok.hd hc) pl.isList ?_ ?_ fin0 fun y ys i v h' tk e _ hv k => fin i v h' tk y ys e hv k
    · simpa using hold_ints (h := s.heap) rv
    · show X.A.units + 1 + 0 < cLine
      omega
end
end R0

/-! a dict comprehension whose keys are tuples of ints and texts -/
namespace R1
open PySem PySem.Spec PyProof.Rows L2
/-- one entry more, the key a tracked tuple -/
theorem tput {X : Cx} {pn : List (Addr × Obj)} {τ : L2.St} {G : Hp} {s : Shared} {E : Value → Shared → Prop} {D b : Addr} {es : List (List Key × V)} {k : List Key} {z : V} {r : Value} {Q : Unit → Shared → Prop} (hu : X.A.units + 1 < cLine) (J : Inv X pn τ G s)
    (gD : G D = some (.dT es)) (gb : G b = some (.tup (k.map kV))) (hn : es.length < sizeLine) (rz : RelV z r) (q : ∀ s', Inv X pn τ (upd G D (.dT (putK es k z))) s' → Q () s') : wpAny (model X.prog X.w) X.A (dictSet D (.ref b) r) Q E s := by
  obtain ⟨e1, e2, ks, rk, dd⟩ := dt_of J.hok gD
  have f1 : ks.length ≤ sizeLine := Paired.length rk ▸ e1
  have f2 := length_putK es k z
  refine wpAny_dictSet_heap (hsz := f1) (Nat.lt_of_succ_lt hu) (key_of J.hok gb) dd fun g' dg sb => q _ ?_
  obtain ⟨w0, w1, w2, a0, a1, a2, a3, _, a4⟩ := dg
  have kt := (rk.put k gb rz).keeps (H' := upd G D (.dT (putK es k z))) fun c ys ec => by
    rw [upd_ne (ne_of ec gD (fun y => nomatch y))]
    exact ec
  exact d_write J (by rw [gD]; trivial) sb ⟨w0, a0⟩ ⟨by omega, e2, _, kt, w0, w1, w2, a0, a1, a2, a3, a4⟩
/-- the reading of {k: v for target in iter if ..} with such keys -/
def tDcT (src : TI) (g : TG) (tt : TT) (tk tv : TE) (own : List Nat) : TE := fun σ H Q => src σ H fun J G => ∀ D, G D = none → ∃ W : Nat → Nat → Hp → Prop, (∃ m, W 0 m (upd G D (.dT []))) ∧ ∀ i m F, W i m F →
  (J.stop i F ∧ Q (.ref D) F) ∨ (J.go i F ∧ ∃ Nx : Hp → Prop, (∀ F', Nx F' → ∃ m', m' < m ∧ W (i + 1) m' F') ∧ ∀ x F', J.yld i F x F' → g x (wipe σ own) F' fun τ F2 => wipe τ own = wipe σ own ∧ tt τ F2 fun c F3 =>
    if c = true then tk τ F3 fun y F4 => tv τ F4 fun z F5 => ∃ es k b, y = .ref b ∧ F5 b = some (.tup (k.map kV)) ∧ F5 D = some (.dT es) ∧ es.length < sizeLine ∧ Nx (upd F5 D (.dT (putK es k z))) else Nx F3)
section
variable {X : Cx} {kx vx tg iter : Expr} {ifs : List Expr} {scope : Scope} {own : List (Str × Nat)} {pos : Pos} {src : TI} {g : TG} {tt : TT} {tk tv : TE}
theorem dcT_core {pins : List (Addr × Obj)} {s : Shared} {σ : L2.St} {H : Hp} {Q : VK} {pos' : Pos} {use : Option (Value → Sem Unit)} {Qf : Value → Shared → Prop} (I : Inv X pins σ H s)
    (hu : X.A.units + 64 < cLine) (hc : X.calm = true) (hN : X.N.Nodup) (hi : PI X tg iter src) (ok : BlkOk X.N X.env.scope scope own)
    (hg : ∀ (s : Shared) (G : Hp) (C : Addr) (cl : List (Str × Addr)) (fp : List Addr), PG (X.blk s G scope (compEnvC scope cl C X.env) fp) tg g)
    (ht : ∀ (s : Shared) (G : Hp) (C : Addr) (cl : List (Str × Addr)) (fp : List Addr), PTs (X.blk s G scope (compEnvC scope cl C X.env) fp) ifs tt)
    (hk : ∀ (s : Shared) (G : Hp) (C : Addr) (cl : List (Str × Addr)) (fp : List Addr), PE (X.blk s G scope (compEnvC scope cl C X.env) fp) kx tk)
    (hv : ∀ (s : Shared) (G : Hp) (C : Addr) (cl : List (Str × Addr)) (fp : List Addr), PE (X.blk s G scope (compEnvC scope cl C X.env) fp) vx tv)
    (hs : ∀ x, foldedSetIterable iter X.env x = pure x) (h : tDcT src g tt tk tv (own.map (·.2)) σ H Q)
    (hR : ∀ D C s' m F, Inv X pins σ F s' → Q (.ref D) F → s'.heap.Ns C m → FpOk X pins F C → compPost (model X.prog X.w) X.A X.xe use Qf (.ref D) C (.ok .next) s') :
    wpAny (model X.prog X.w) X.A (comprehension (.DictComp kx vx [⟨tg, iter, ifs, 0⟩] scope pos) scope X.env pos' newDict false (eval iter X.env) use) Qf X.xe s := by
  have fr : ∀ y ∈ scope.names, y.2 = .free → ∃ c, X.env.cells.lookup y.1 = some c := fun y hy e => (ok.free y hy e).elim (fun z => I.ok.has _ (.inl z)) fun z => I.ok.has _ (.inr z)
  refine wpAny_comprehension_free (use := use) rfl hs (closure_ok fr) ok.kind (fun y hy e => by rw [ok.uniq y hy, e]) (thn (hi.run pins s σ H _ I h) fun xv s1 hx => thn hx fun iv s2 a2 => ?_)
  obtain ⟨it, fp, tn, J, G, rfl, K2, T, t2, p2, q⟩ := a2
  refine wpAny_newObj_type (newEnv_comp ?_)
  obtain ⟨W, ⟨m0, w0⟩, turn⟩ := q s2.heap.objs.size (K2.hok.fresh (Nat.le_refl _))
  generalize eD : s2.heap.objs.size = D at w0 turn
  have nD : G D = none := K2.hok.fresh (Nat.le_of_eq eD)
  -- the new dict
  generalize e3 : ({ s2 with heap := s2.heap.push { cls := .type "dict", data := .dict #[] } } : Shared) = s3
  have K3 : Inv X pins σ (upd G D (.dT [])) s3 := by
    subst e3
    refine K2.laid (t' := s2.toks) (fun b o z => Heap.get?_push_of_some _ z) (Nat.le_of_eq eD) ?_
    subst eD
    exact dt_empty s2.heap K2.big
  have z3 : s3.heap = s2.heap.push { cls := .type "dict", data := .dict #[] } := by subst e3; rfl
  have p3 : ∀ b ∈ fp, FpOk X pins (upd G D (.dT [])) b ∧ b < s3.heap.objs.size := fun b hb => by
    obtain ⟨o, y, _⟩ := T.obj _ _ t2 b hb
    have lt : b < s2.heap.objs.size := Heap.lt_size y
    refine ⟨⟨?_, (p2 b hb).2⟩, by rw [z3, Heap.size_push]; exact Nat.lt_succ_of_lt lt⟩
    rw [upd_ne (by rw [← eD]; exact Nat.ne_of_lt lt)]
    exact (p2 b hb).1
  have t3 : tn 0 s3.heap := T.keep _ _ _ t2 fun b _ o y => by rw [z3]; exact Heap.get?_push_of_some _ y
  have K4 := block_start K3 ok hN p3
  have qg := hg s3 (upd G D (.dT [])) s3.heap.objs.size (cellsFrom (s3.heap.objs.size + 1) scope.names (cloFrom X.env.cells scope.names [])) fp
  have qt := ht s3 (upd G D (.dT [])) s3.heap.objs.size (cellsFrom (s3.heap.objs.size + 1) scope.names (cloFrom X.env.cells scope.names [])) fp
  have qk := hk s3 (upd G D (.dT [])) s3.heap.objs.size (cellsFrom (s3.heap.objs.size + 1) scope.names (cloFrom X.env.cells scope.names [])) fp
  have qv := hv s3 (upd G D (.dT [])) s3.heap.objs.size (cellsFrom (s3.heap.objs.size + 1) scope.names (cloFrom X.env.cells scope.names [])) fp
  have np : ∀ b ∈ fp, (upd G D (.dT [])) b = none := fun b hb => (p3 b hb).1.1
  show codeAny _ _ (.compStart (.DictComp kx vx [⟨tg, iter, ifs, 0⟩] scope pos) 0 (.ref it) (.ref D) (compEnvC scope (cellsFrom (s3.heap.objs.size + 1) scope.names (cloFrom X.env.cells scope.names [])) s3.heap.objs.size X.env)) (compPost (model X.prog X.w) X.A X.xe use _ (.ref D) s3.heap.objs.size) { s3 with heap := pushCells (s3.heap.push { cls := .type "dict", data := .dict #[] }) scope.names }
  generalize ec : compEnvC scope (cellsFrom (s3.heap.objs.size + 1) scope.names (cloFrom X.env.cells scope.names [])) s3.heap.objs.size X.env = ce at K4 qg qt qk qv ⊢
  have eL : ce.locals = s3.heap.objs.size := by subst ec; rfl
  generalize eG : upd G D (.dT []) = G3 at K3 K4 qg qt qk qv w0 np p3
  generalize e4 : ({ s3 with heap := pushCells (s3.heap.push { cls := .type "dict", data := .dict #[] }) scope.names } : Shared) = s4 at K4 ⊢
  have t4 : tn 0 s4.heap := T.keep _ _ _ t3 fun b _ o y => by subst e4; exact pushCells_keeps _ _ _ _ (Heap.get?_push_of_some _ y)
  have still : ∀ {τ : L2.St} {F : Hp} {s' : Shared}, Inv (X.blk s3 G3 scope ce fp) [] τ F s' → (∀ b ∈ fp, F b = none) → ∀ b ∈ fp, FpOk (X.blk s3 G3 scope ce fp) [] F b := fun {τ F s'} L n b hb =>
    ⟨n b hb, (L.ok.exf b hb).1, L.ok.exfs b hb, .inl hb, fun x c y => (L.ok.exf b hb).2 x c y, fun p hp => absurd (show p ∈ ([] : List (Addr × Obj)) ++ [] from hp) (by simp)⟩
  have go : codeAny (model X.prog X.w) X.A (.compLoop (.DictComp kx vx [⟨tg, iter, ifs, 0⟩] scope pos) 0 (.ref it) (.ref D) ce) (compPost (model X.prog X.w) X.A X.xe use Qf (.ref D) s3.heap.objs.size) s4 := by
    refine compLoop_anyD (fun n s' => ∃ i F, Inv (X.blk s3 G3 scope ce fp) [] (wipe σ (own.map (·.2))) F s' ∧ tn i s'.heap ∧ (∀ b ∈ fp, F b = none) ∧ W i n F) ?_ m0 ⟨0, G3, K4, t4, np, w0⟩
    rintro n s5 ⟨i, F, L, t5, n5, w5⟩
    rcases turn i n F w5 with ⟨stop, qq⟩ | ⟨hgo, Nx, hNx, step⟩
    · refine thnF (T.done (X.blk s3 G3 scope ce fp) rfl rfl rfl hc i [] s5 _ F (fun _ _ => False) L (still L n5) t5 stop) fun r s6 ⟨hr, L6⟩ => ?_
      subst hr
      have M : Inv X pins σ F s6 := K3.call' (ch := fp) L6.os L6.base L6.hok L6.bare fun b hb => ⟨(p3 b hb).1.2.2.2.1, (p3 b hb).1.2.1, (p3 b hb).1.2.2.2.2.1, (p3 b hb).1.2.2.2.2.2⟩
      have nC : F s3.heap.objs.size = none := eL ▸ L6.free
      obtain ⟨m, hn, _⟩ := L6.loc
      have hn' : s6.heap.Ns ce.locals m := hn
      rw [eL] at hn'
      exact hR D s3.heap.objs.size s6 m F M qq hn' (K3.fpOk (Nat.le_refl _) nC)
    · refine thnF (T.item (X.blk s3 G3 scope ce fp) rfl rfl rfl hc i [] s5 _ F (fun _ _ => False) L (still L n5) t5 hgo) fun r s6 ⟨u, hr, h6⟩ => ?_
      subst hr
      refine thnF h6 fun _ s7 ⟨x, F7, L7, r7, y7, t7, n7⟩ => ?_
      have L7' := L7.pinned (still L7 n7) (T.obj _ _ t7)
      refine thnF (qg.run _ s7 _ F7 x u _ L7' r7 (step x F7 y7)) fun _ s8 ⟨τ, F8, L8, hw, q8⟩ => ?_
      refine thnF (qt.run _ s8 τ F8 _ L8 q8) fun c s9 ⟨F9, L9, q9⟩ => ?_
      have fin : ∀ {s' : Shared} {F' : Hp}, Inv (X.blk s3 G3 scope ce fp) ([] ++ pinsAt fp s7.heap) τ F' s' → Nx F' → ∃ m, m < n ∧ ∃ i F', Inv (X.blk s3 G3 scope ce fp) [] (wipe σ (own.map (·.2))) F' s' ∧ tn i s'.heap ∧ (∀ b ∈ fp, F' b = none) ∧ W i m F' := fun {s' F'} L' nx => by
        obtain ⟨m', hm, w'⟩ := hNx F' nx
        have pin : ∀ b ∈ fp, ∀ o, s7.heap.get? b = some o → s'.heap.get? b = some o ∧ F' b = none := fun b hb o y =>
          have z := L'.pin (b, o) (List.mem_append_right _ (List.mem_append_right _ (mem_pinsAt hb y)))
          ⟨z.1, z.2.1⟩
        refine ⟨m', hm, i + 1, F', (L'.unpinned (pins := [])).weak (by rw [← hw, wipe_length]) (fun j v y => ?_), T.keep _ _ _ t7 fun b hb o y => (pin b hb o y).1, fun b hb => ?_, w'⟩
        · rw [← hw] at y
          exact (wipe_some y).1
        · obtain ⟨o, y, _⟩ := T.obj _ _ t7 b hb
          exact (pin b hb o y).2
      cases c with
      | false =>
        simp only [Bool.false_eq_true, if_false] at q9 ⊢
        exact fin L9 q9
      | true =>
        simp only [if_true] at q9 ⊢
        refine thnF (qk.run _ s9 τ F9 _ L9 q9) fun a1 s10 ⟨yk, F10, L10, r10, q10⟩ => ?_
        refine thnF (qv.run _ s10 τ F10 _ L10 q10) fun a2 s11 ⟨yv, F11, L11, r11, es, k, b, ek, hb, hD, hz, nx⟩ => ?_
        subst ek
        cases (show a1 = Value.ref b from r10)
        exact tput (X := X.blk s3 G3 scope ce fp) (by show X.A.units + 1 < cLine; omega) L11 hD hb hz r11 fun s12 L12 => fin L12 nx
  exact codeAny_compStart_dict go (T.self X.A 0 _ _ _ t4 go)
theorem pe_dcT (hu : X.A.units + 64 < cLine) (hc : X.calm = true) (hN : X.N.Nodup) (hi : PI X tg iter src) (ok : BlkOk X.N X.env.scope scope own)
    (hg : ∀ (s : Shared) (G : Hp) (C : Addr) (cl : List (Str × Addr)) (fp : List Addr), PG (X.blk s G scope (compEnvC scope cl C X.env) fp) tg g)
    (ht : ∀ (s : Shared) (G : Hp) (C : Addr) (cl : List (Str × Addr)) (fp : List Addr), PTs (X.blk s G scope (compEnvC scope cl C X.env) fp) ifs tt)
    (hk : ∀ (s : Shared) (G : Hp) (C : Addr) (cl : List (Str × Addr)) (fp : List Addr), PE (X.blk s G scope (compEnvC scope cl C X.env) fp) kx tk)
    (hv : ∀ (s : Shared) (G : Hp) (C : Addr) (cl : List (Str × Addr)) (fp : List Addr), PE (X.blk s G scope (compEnvC scope cl C X.env) fp) vx tv)
    (hs : ∀ x, foldedSetIterable iter X.env x = pure x := by intro _; rfl) : PE X (.DictComp kx vx [⟨tg, iter, ifs, 0⟩] scope pos) (tDcT src g tt tk tv (own.map (·.2))) := by
  refine ⟨fun pins s σ H Q I h => ?_⟩
  rw [arm_eval_DictComp]
  refine dcT_core I hu hc hN hi ok hg ht hk hv hs h fun D C s' m F J q hn f => ⟨m, hn, fun h'' sb => ?_⟩
  obtain ⟨y0, y1, y2, y3, y4, y5⟩ := f
  exact ⟨.ref D, F, J.turned (t' := s'.toks) (fun b o hb z => (sb.2 b hb).trans z) y0 y1 y3 y4 y5, rfl, q⟩
/-- what is stored behind a comprehension's frame -/
theorem dc_store {pins : List (Addr × Obj)} {σ : L2.St} {F : Hp} {s' : Shared} {i : Nat} {y : Str} {py : Pos} {D C : Addr} {m : Str → Option Value} {Ds : Ends} (hN : X.N.Nodup) (hy : X.N[i]? = some y) (hl : X.env.scope.names.lookup y = some .local) (J : Inv X pins σ F s')
    (q : gName i (.ref D) σ F Ds.nx) (hn : s'.heap.Ns C m) (f : FpOk X pins F C) :
    compPost (model X.prog X.w) X.A X.xe (some (assign (.Name y py) X.env)) (fun _ s'' => SP X pins Ds .next s'') (.ref D) C (.ok .next) s' := by
  show wpAny _ _ (assign (.Name y py) X.env (.ref D)) _ _ _
  refine wpAny_assign_Name (store_ok2 (v := V.ref D) J hN hy (.inl hl) rfl (fun s2 J2 ⟨a, sb, ha⟩ => ?_) (.inr hl))
  obtain ⟨y0, y1, y2, y3, y4, y5⟩ := f
  have ne : C ≠ a := by
    rcases ha with z | z
    · rw [z]; exact y1
    · exact fun e => y4 y a z e.symm
  exact ⟨m, hn.sameBut sb ne, fun h3 sb3 => ⟨_, F, J2.turned (t' := s2.toks) (fun b o hb z => (sb3.2 b hb).trans z) y0 y1 y3 y4 y5, q⟩⟩
theorem ps_setDcT {i : Nat} {y : Str} {py spos : Pos} (hy : X.N[i]? = some y) (hl : X.env.scope.names.lookup y = some .local) (hsw : swapsWith (.DictComp kx vx [⟨tg, iter, ifs, 0⟩] scope pos) (some (.Name y py)) spos.line X.env = pure true)
    (hu : X.A.units + 64 < cLine) (hc : X.calm = true) (hN : X.N.Nodup) (hi : PI X tg iter src) (ok : BlkOk X.N X.env.scope scope own)
    (hg : ∀ (s : Shared) (G : Hp) (C : Addr) (cl : List (Str × Addr)) (fp : List Addr), PG (X.blk s G scope (compEnvC scope cl C X.env) fp) tg g)
    (ht : ∀ (s : Shared) (G : Hp) (C : Addr) (cl : List (Str × Addr)) (fp : List Addr), PTs (X.blk s G scope (compEnvC scope cl C X.env) fp) ifs tt)
    (hk : ∀ (s : Shared) (G : Hp) (C : Addr) (cl : List (Str × Addr)) (fp : List Addr), PE (X.blk s G scope (compEnvC scope cl C X.env) fp) kx tk)
    (hv : ∀ (s : Shared) (G : Hp) (C : Addr) (cl : List (Str × Addr)) (fp : List Addr), PE (X.blk s G scope (compEnvC scope cl C X.env) fp) vx tv)
    (hs : ∀ x, foldedSetIterable iter X.env x = pure x := by intro _; rfl) : PS X (.Assign [.Name y py] (.DictComp kx vx [⟨tg, iter, ifs, 0⟩] scope pos) spos) (tAsg (tDcT src g tt tk tv (own.map (·.2))) (gName i)) := by
  refine ⟨fun pins s σ H Ds I h => ?_⟩
  rw [exec_Assign_Name_used _ _ _ _ hsw]
  refine wpAny_bind (wpAny_standAt (wpAny_bind ?_))
  show wpAny _ X.A (do let _ ← comprehension (.DictComp kx vx [⟨tg, iter, ifs, 0⟩] scope pos) scope X.env (firstIterPos [⟨tg, iter, ifs, 0⟩] pos) newDict false (eval iter X.env) (some (assign (.Name y py) X.env))) _ _ s
  have h' : tDcT src g tt tk tv (own.map (·.2)) σ H (fun x G => gName i x σ G Ds.nx) := h
  exact wpAny_bind (thn (dcT_core (Qf := fun _ s' => SP X pins Ds .next s') I hu hc hN hi ok hg ht hk hv hs h' fun D C s' m F J q hn f => dc_store hN hy hl J q hn f) fun _ s' hq => wpAny_pure (wpAny_pure hq))
theorem ps_setDcK {i : Nat} {y : Str} {py spos : Pos} (hy : X.N[i]? = some y) (hl : X.env.scope.names.lookup y = some .local) (hsw : swapsWith (.DictComp kx vx [⟨tg, iter, ifs, 0⟩] scope pos) (some (.Name y py)) spos.line X.env = pure true)
    (hc : X.calm = true) (hN : X.N.Nodup) (hi : PI X tg iter src) (ok : BlkOk X.N X.env.scope scope own)
    (hg : ∀ (s : Shared) (G : Hp) (C : Addr) (cl : List (Str × Addr)) (fp : List Addr), PG (X.blk s G scope (compEnvC scope cl C X.env) fp) tg g)
    (ht : ∀ (s : Shared) (G : Hp) (C : Addr) (cl : List (Str × Addr)) (fp : List Addr), PTs (X.blk s G scope (compEnvC scope cl C X.env) fp) ifs tt)
    (hk : ∀ (s : Shared) (G : Hp) (C : Addr) (cl : List (Str × Addr)) (fp : List Addr), PE (X.blk s G scope (compEnvC scope cl C X.env) fp) kx tk)
    (hv : ∀ (s : Shared) (G : Hp) (C : Addr) (cl : List (Str × Addr)) (fp : List Addr), PE (X.blk s G scope (compEnvC scope cl C X.env) fp) vx tv)
    (hs : ∀ x, foldedSetIterable iter X.env x = pure x := by intro _; rfl) : PS X (.Assign [.Name y py] (.DictComp kx vx [⟨tg, iter, ifs, 0⟩] scope pos) spos) (tAsg (tDc src g tt tk tv (own.map (·.2))) (gName i)) := by
  refine ⟨fun pins s σ H Ds I h => ?_⟩
  rw [exec_Assign_Name_used _ _ _ _ hsw]
  refine wpAny_bind (wpAny_standAt (wpAny_bind ?_))
  show wpAny _ X.A (do let _ ← comprehension (.DictComp kx vx [⟨tg, iter, ifs, 0⟩] scope pos) scope X.env (firstIterPos [⟨tg, iter, ifs, 0⟩] pos) newDict false (eval iter X.env) (some (assign (.Name y py) X.env))) _ _ s
  have h' : tDc src g tt tk tv (own.map (·.2)) σ H (fun x G => gName i x σ G Ds.nx) := h
  exact wpAny_bind (thn (dc_core (Qf := fun _ s' => SP X pins Ds .next s') hc hN I hi ok hg ht hk hv hs h' fun D C s' m F J q hn f => dc_store hN hy hl J q hn f) fun _ s' hq => wpAny_pure (wpAny_pure hq))
theorem sw_trueD {py : Pos} {y : Str} {l : Nat} {gs : List Comprehension} {env : Env} (hk : env.scope.kind = .function) (hy : env.scope.names.lookup y = some .local) (hl : (py.line == pos.line) = true)
    (ha : (scope.names.any fun (n, k) => n == y && (k == .local || k == .cell)) = false) : swapsWith (.DictComp kx vx gs scope pos) (some (.Name y py)) l env = pure true := by
  have e1 : env.kindOf y = some .local := hy
  have e2 : env.blockKind = .function := by unfold Env.blockKind; rw [hk]; rfl
  unfold swapsWith
  simp only [e2, e1, ha, Expr.pos, hl]
  rfl
theorem PE.or {e : Expr} {t t' : TE} (h : PE X e t) (h' : PE X e t') : PE X e (fun σ H Q => t σ H Q ∨ t' σ H Q) := ⟨fun pins s σ H Q I q => q.elim (h.run pins s σ H Q I) (h'.run pins s σ H Q I)⟩
theorem PS.or {st : Stmt} {t t' : TS} (h : PS X st t) (h' : PS X st t') : PS X st (fun D σ H => t D σ H ∨ t' D σ H) := ⟨fun pins s σ H D I q => q.elim (h.run pins s σ H D I) (h'.run pins s σ H D I)⟩
theorem PI.or {tg it : Expr} {t t' : TI} (h : PI X tg it t) (h' : PI X tg it t') : PI X tg it (fun σ H R => t σ H R ∨ t' σ H R) := ⟨fun pins s σ H R I q => q.elim (h.run pins s σ H R I) (h'.run pins s σ H R I)⟩
theorem pi_listK {K : PySem.W.Frag} {tg it : Expr} {tl : TE} (e : X.K = K) (h : PE X it tl) : PI X tg it (iList K tl) := by subst e; exact pi_list h
theorem pi_tupK {K : PySem.W.Frag} {tg it : Expr} {tl : TE} (e : X.K = K) (h : PE X it tl) : PI X tg it (iTup K tl) := by subst e; exact pi_tup h
theorem pa_starK {K : PySem.W.Frag} {e : Expr} {es : List Expr} {te : TE} {t : TA} {p : Pos} (hK : X.K = K) (he : PE X e te) (hr : PA X es t) (hs : starEach (.Starred e p :: es) X.env = (true, eval e X.env) :: starEach es X.env := by rfl) : PA X (.Starred e p :: es) (StX.tStar K te t) := by subst hK; exact StX.pa_star he hr hs
theorem pg_tupK {K : PySem.W.Frag} {es : List Expr} {k n : Nat} {p : Pos} {t : TGs} (hK : X.K = K) (hc : X.calm = true) (h : PGs X es t) (hn : (assignEach es X.env).length = n := by rfl) (hst : (assignEach es X.env).findIdx? (·.1) = none := by rfl) : PG X (.Tuple es k p) (gTup K n t) := by subst hK; exact pg_tup hc h hn hst
end
section
variable {J : It} {n : Nat} {G : Hp → Prop} {Y : Nat → Hp → V → Hp → Prop} {g : TG} {tt : TT} {tk tv : TE} {vs : List Nat} {σ : L2.St} {H1 : Hp} {D : Addr} {Qd : Hp → Prop}
theorem dT_it (w : Walk J n G Y) (Pv : Nat → Hp → Prop) (h0 : Pv 0 (upd H1 D (.dT []))) (hG : ∀ i H, i ≤ n → Pv i H → G H)
    (hs : ∀ i x H H', i < n → Pv i H → Y i H x H' → g x (wipe σ vs) H' fun τ F2 => wipe τ vs = wipe σ vs ∧ tt τ F2 fun c F3 =>
      if c = true then tk τ F3 fun y F4 => tv τ F4 fun z F5 => ∃ es k b, y = .ref b ∧ F5 b = some (.tup (k.map kV)) ∧ F5 D = some (.dT es) ∧ es.length < sizeLine ∧ Pv (i + 1) (upd F5 D (.dT (putK es k z))) else Pv (i + 1) F3) (hd : ∀ H, Pv n H → Qd H) :
    ∃ W : Nat → Nat → Hp → Prop, (∃ m, W 0 m (upd H1 D (.dT []))) ∧ ∀ i m F, W i m F → (J.stop i F ∧ Qd F) ∨ (J.go i F ∧ ∃ Nx : Hp → Prop, (∀ F', Nx F' → ∃ m', m' < m ∧ W (i + 1) m' F') ∧ ∀ x F', J.yld i F x F' → g x (wipe σ vs) F' fun τ F2 => wipe τ vs = wipe σ vs ∧ tt τ F2 fun c F3 =>
      if c = true then tk τ F3 fun y F4 => tv τ F4 fun z F5 => ∃ es k b, y = .ref b ∧ F5 b = some (.tup (k.map kV)) ∧ F5 D = some (.dT es) ∧ es.length < sizeLine ∧ Nx (upd F5 D (.dT (putK es k z))) else Nx F3) := by
  refine ⟨fun i m F => i + m = n ∧ Pv i F, ⟨n, by omega, h0⟩, fun i m F hW => ?_⟩
  obtain ⟨hm, p⟩ := hW
  have q := hG i F (by omega) p
  by_cases lt : i < n
  · exact .inr ⟨w.goes i F lt q, Pv (i + 1), fun F' p' => ⟨m - 1, by omega, by omega, p'⟩, fun x F' y => hs i x F F' lt p (w.yields i F x F' lt q y)⟩
  · obtain rfl : i = n := by omega
    exact .inl ⟨w.stops F q, hd F p⟩
theorem dK_it (w : Walk J n G Y) (Pv : Nat → Hp → Prop) (h0 : Pv 0 (upd H1 D (.dK []))) (hG : ∀ i H, i ≤ n → Pv i H → G H)
    (hs : ∀ i x H H', i < n → Pv i H → Y i H x H' → g x (wipe σ vs) H' fun τ F2 => wipe τ vs = wipe σ vs ∧ tt τ F2 fun c F3 =>
      if c = true then tk τ F3 fun y F4 => tv τ F4 fun z F5 => ∃ es k, y = kV k ∧ F5 D = some (.dK es) ∧ es.length < sizeLine ∧ Pv (i + 1) (upd F5 D (.dK (putK es k z))) else Pv (i + 1) F3) (hd : ∀ H, Pv n H → Qd H) :
    ∃ W : Nat → Nat → Hp → Prop, (∃ m, W 0 m (upd H1 D (.dK []))) ∧ ∀ i m F, W i m F → (J.stop i F ∧ Qd F) ∨ (J.go i F ∧ ∃ Nx : Hp → Prop, (∀ F', Nx F' → ∃ m', m' < m ∧ W (i + 1) m' F') ∧ ∀ x F', J.yld i F x F' → g x (wipe σ vs) F' fun τ F2 => wipe τ vs = wipe σ vs ∧ tt τ F2 fun c F3 =>
      if c = true then tk τ F3 fun y F4 => tv τ F4 fun z F5 => ∃ es k, y = kV k ∧ F5 D = some (.dK es) ∧ es.length < sizeLine ∧ Nx (upd F5 D (.dK (putK es k z))) else Nx F3) := by
  refine ⟨fun i m F => i + m = n ∧ Pv i F, ⟨n, by omega, h0⟩, fun i m F hW => ?_⟩
  obtain ⟨hm, p⟩ := hW
  have q := hG i F (by omega) p
  by_cases lt : i < n
  · exact .inr ⟨w.goes i F lt q, Pv (i + 1), fun F' p' => ⟨m - 1, by omega, by omega, p'⟩, fun x F' y => hs i x F F' lt p (w.yields i F x F' lt q y)⟩
  · obtain rfl : i = n := by omega
    exact .inl ⟨w.stops F q, hd F p⟩
end
end R1

namespace R1
open PySem PySem.Spec PyProof.Rows L2
/-! ### one lemma for every loop and comprehension -/
section
variable {J : It} {n : Nat} {G : Hp → Prop} {Y : Nat → Hp → V → Hp → Prop} {H0 : Hp} {Qd : Hp → Prop} {Body : V → Hp → (Hp → Prop) → Prop}
theorem walk_it (w : Walk J n G Y) (Pv : Nat → Hp → Prop) (h0 : Pv 0 H0) (hG : ∀ i H, i ≤ n → Pv i H → G H)
    (hs : ∀ i x H H', i < n → Pv i H → Y i H x H' → Body x H' (Pv (i + 1))) (hd : ∀ H, Pv n H → Qd H) :
    ∃ W : Nat → Nat → Hp → Prop, (∃ m, W 0 m H0) ∧ ∀ i m F, W i m F → (J.stop i F ∧ Qd F) ∨ (J.go i F ∧ ∃ Nx : Hp → Prop, (∀ F', Nx F' → ∃ m', m' < m ∧ W (i + 1) m' F') ∧ ∀ x F', J.yld i F x F' → Body x F' Nx) := by
  refine ⟨fun i m F => i + m = n ∧ Pv i F, ⟨n, by omega, h0⟩, fun i m F hW => ?_⟩
  obtain ⟨hm, p⟩ := hW
  have q := hG i F (by omega) p
  by_cases lt : i < n
  · exact .inr ⟨w.goes i F lt q, Pv (i + 1), fun F' p' => ⟨m - 1, by omega, by omega, p'⟩, fun x F' y => hs i x F F' lt p (w.yields i F x F' lt q y)⟩
  · obtain rfl : i = n := by omega
    exact .inl ⟨w.stops F q, hd F p⟩
end
/-! ### two lists alike, item by item -/
section
variable {α : Type} {R S : V → α → Prop}
def Al (R : V → α → Prop) (xs : List V) (rs : List α) : Prop := xs.length = rs.length ∧ ∀ (i : Nat) (x : V) (r : α), xs[i]? = some x → rs[i]? = some r → R x r
theorem Al.nil : Al R [] [] := ⟨rfl, fun i x r h => by simp at h⟩
theorem Al.mono {xs : List V} {rs : List α} (h : Al R xs rs) (f : ∀ x r, R x r → S x r) : Al S xs rs := ⟨h.1, fun i x r a b => f x r (h.2 i x r a b)⟩
theorem Al.snoc {xs : List V} {rs : List α} {x : V} {r : α} (h : Al R xs rs) (q : R x r) : Al R (xs ++ [x]) (rs ++ [r]) := by
  refine ⟨by simp [h.1], fun i y t hy ht => ?_⟩
  by_cases lt : i < xs.length
  · rw [List.getElem?_append_left lt] at hy
    rw [List.getElem?_append_left (by rw [← h.1]; exact lt)] at ht
    exact h.2 i y t hy ht
  · rw [List.getElem?_append_right (by omega)] at hy
    rw [List.getElem?_append_right (by rw [← h.1]; omega)] at ht
    rw [h.1] at hy
    have e : i - rs.length = 0 := by
      cases z : i - rs.length with
      | zero => rfl
      | succ k => rw [z] at hy; simp at hy
    rw [e] at hy ht
    cases hy; cases ht
    exact q
theorem Al.at {xs : List V} {rs : List α} (h : Al R xs rs) {i : Nat} {x : V} (hx : xs[i]? = some x) : ∃ r, rs[i]? = some r ∧ R x r := by
  have lt : i < xs.length := by
    by_cases z : i < xs.length
    · exact z
    · rw [List.getElem?_eq_none (by omega)] at hx; cases hx
  have e : rs[i]? = some (rs[i]'(by rw [← h.1]; exact lt)) := List.getElem?_eq_getElem _
  exact ⟨_, e, h.2 i x _ hx e⟩
theorem Al.one {x : V} {r : α} (q : R x r) : Al R [x] [r] := (Al.nil (R := R)).snoc q
end
end R1

namespace R1
open PySem PySem.Spec PyProof.Rows L2
/-! ### len(set(x)), x a list or a tuple of ints, any of them twice -/
def dist (ns : List Int) : List Int := ns.foldl step_dedup []
theorem firstMet_dist (ns : List Int) : firstMet (fun i => ns.getD i 0) ns.length = dist ns := by
  unfold firstMet dist
  congr 1
  apply List.ext_getElem?
  intro i
  rw [List.getElem?_map]
  by_cases h : i < ns.length
  · rw [List.getElem?_range h, List.getElem?_eq_getElem h]
    simp [List.getD, List.getElem?_eq_getElem h]
  · rw [List.getElem?_eq_none (by simpa using h), List.getElem?_eq_none (by omega)]
    rfl
theorem dist_go : ∀ (ns acc : List Int), acc.Nodup → ((ns.foldl step_dedup acc).Nodup ∧ ∀ k, k ∈ ns.foldl step_dedup acc ↔ k ∈ acc ∨ k ∈ ns)
  | [], acc, h => ⟨h, fun k => by simp⟩
  | n :: r, acc, h => by
    show ((r.foldl step_dedup (step_dedup acc n)).Nodup ∧ _)
    by_cases z : acc.any (· == n) = true
    · have e : step_dedup acc n = acc := by unfold step_dedup; rw [if_pos z]
      have m : n ∈ acc := by
        obtain ⟨u, hu, q⟩ := List.any_eq_true.mp z
        rw [← eq_of_beq q]; exact hu
      obtain ⟨a, b⟩ := dist_go r acc h
      refine ⟨by rw [e]; exact a, fun k => ?_⟩
      show k ∈ r.foldl step_dedup (step_dedup acc n) ↔ _
      rw [e, b k, List.mem_cons]
      constructor
      · rintro (q | q)
        · exact .inl q
        · exact .inr (.inr q)
      · rintro (q | q | q)
        · exact .inl q
        · exact .inl (q ▸ m)
        · exact .inr q
    · have e : step_dedup acc n = acc ++ [n] := by unfold step_dedup; rw [if_neg z]
      have m : n ∉ acc := fun hm => z (List.any_eq_true.mpr ⟨n, hm, beq_self_eq_true n⟩)
      have h2 : (acc ++ [n]).Nodup := by
        rw [List.nodup_append]
        refine ⟨h, by simp, fun u hu v hv q => m ?_⟩
        rw [← (by simpa using hv : v = n), ← q]; exact hu
      obtain ⟨a, b⟩ := dist_go r (acc ++ [n]) h2
      refine ⟨by rw [e]; exact a, fun k => ?_⟩
      show k ∈ r.foldl step_dedup (step_dedup acc n) ↔ _
      rw [e, b k, List.mem_append, List.mem_cons]
      simp [or_assoc]
theorem dist_nodup (ns : List Int) : (dist ns).Nodup := (dist_go ns [] List.nodup_nil).1
theorem dist_mem (ns : List Int) (k : Int) : k ∈ dist ns ↔ k ∈ ns := by
  have := (dist_go ns [] List.nodup_nil).2 k
  unfold dist
  simpa using this
section
variable {X : Cx}
def tLenSetX (K : PySem.W.Frag) (ta : TE) : TE := fun σ H Q => ta σ H fun x H1 => ∃ (l : Addr) (ns : List Int), x = V.ref l ∧ (SqL K H1 l (ns.map V.int) ∨ SqT K H1 l (ns.map V.int)) ∧ ns.length ≤ 1000 ∧ Q (.int (dist ns).length) H1
theorem pe_lenSetX {a : Expr} {ta : TE} {p p2 q pos : Pos} (hc : X.calm = true) (hg : Gl X "len") (hm : X.mg "len" = none) (hg2 : Gl X "set") (hm2 : X.mg "set" = none) (ha : PE X a ta)
    (na : starEach [a] X.env = (false, eval a X.env) :: starEach [] X.env := by rfl) : PE X (.Call (.Name "len" p) [.Call (.Name "set" p2) [a] [] q] [] pos) (tLenSetX X.K ta) := by
  refine ⟨fun pins s σ H Q I h => ?_⟩
  refine Call_ (ld_blt I hg hm PySem.boot_len ?_)
  refine PyProof.Rows.callWith_builtin1 (PyProof.Rows.args_cons ?_ rfl) rfl rfl
  refine Call_ (ld_blt I hg2 hm2 PyProof.Rows.boot_set ?_)
  refine PyProof.Rows.callWith_type1 (PyProof.Rows.args_cons (thn (ha.run pins s σ H _ I h) fun v s1 ⟨x, H1, I1, r1, q1⟩ => PyProof.Rows.args_nil ?_) na) na rfl
  obtain ⟨l, ns, rfl, hq, h1, q1⟩ := q1
  cases r1
  rcases hq with hq | hq
  · obtain ⟨its, r, pl, hz⟩ := I1.list hq
    have hl : its.toArray.size = ns.length := by rw [List.size_toArray, ← r.length, List.length_map]
    refine call_set_list (I1.ok.hd hc) pl.isList (ns := ns) (by simpa using r.ints) (by unfold scanBound; omega) fun h' tk hS hk => ?_
    rw [hl, firstMet_dist] at hS
    refine PyProof.Rows.args_nil ?_
    obtain ⟨o, es, ep, t, ho, hex, hd, _, _, hb, hf, hn⟩ := hS
    have hle : (dist ns).length ≤ ns.length := by rw [← firstMet_dist]; exact firstMet_length_le _ _
    have I2 : Inv X pins σ H1 { s1 with heap := h', toks := tk } := I1.kept fun b o e => hk b o (Heap.lt_size e) e
    exact call_len_set ho hex hd hf (by rw [hn] <;> omega) ⟨.int (dist ns).length, H1, I2.tok _, ⟨_, by rw [hn]⟩, q1⟩
  · obtain ⟨its, r, pl, hz⟩ := I1.tuple hq
    refine call_set_tupI ns (I1.ok.hd hc) pl (by simpa using r.ints) (by unfold scanBound; omega) fun h' tk c hS hc' hk => ?_
    refine PyProof.Rows.args_nil ?_
    obtain ⟨o, es, ep, t, ho, hex, hd, _, nd, me, _, hf, hn, _⟩ := hS
    have I2 : Inv X pins σ H1 { s1 with heap := h', toks := tk } := I1.kept fun b o e => hk b o e
    have e1 : (es.toList.map keyOf).length = (dist ns).length := by
      refine ((List.perm_ext_iff_of_nodup nd (dist_nodup ns)).mpr fun k => ?_).length_eq
      rw [← me k, dist_mem, decide_eq_true_eq]
    have hn' : es.size = (dist ns).length := by rw [← e1]; simp
    exact call_len_set ho hex hd hf (by omega) ⟨.int (dist ns).length, H1, I2.tok _, ⟨_, by rw [hn']⟩, q1⟩
/-! ### rules that name X.K, for a comprehension's block -/
theorem tuple_ofK {K : PySem.W.Frag} (hK : X.K = K) : CallR X (.type "tuple") (fun xs H Q => ∃ p ys, xs = [V.ref p] ∧ ((SqL K H p ys ∧ ∀ (l : Addr), H l = none → Q (V.ref l) (upd H l (HO.tup ys))) ∨ SqT K H p ys ∧ Q (V.ref p) H)) := by subst hK; exact call_tuple_of
theorem list_ofK {K : PySem.W.Frag} (hK : X.K = K) : CallR X (.type "list") (fun xs H Q => ∃ p ys, xs = [V.ref p] ∧ (SqL K H p ys ∨ SqT K H p ys) ∧ ∀ l, H l = none → Q (V.ref l) (upd H l (HO.lst ys))) := by subst hK; exact call_list_of
theorem op_catTK {K : PySem.W.Frag} (hK : X.K = K) : OpR X (binaryOp .Add) (rCatT K) := by subst hK; exact op_catT
end
end R1

/-! isinstance(e, C), e a caught error with fields: the answer may be False -/
namespace R1
open PySem PySem.Spec PyProof.Rows L2
def rIsX (K : PySem.W.Frag) (D a : Addr) (cls : Value) (d : Option Addr) : List V → Hp → VK → Prop := fun xs H Q => ∃ (c : Addr) (b : Bool) (dd : Addr) (fs : List (Str × V)), cls = .ref D ∧ d = some dd ∧ H dd = some (.xd fs) ∧ xs = [.ref a, .ref c] ∧ PySem.W.kitOne K (.ref D) (.ref c) = some b ∧ Q (.bl b) H
theorem call_isX {X : Cx} {K : PySem.W.Frag} {a D : Addr} {oe : Obj} {cls : Value} {d : Option Addr} {pn : List (Addr × Obj)} (hK : X.K = K) (C : ExcC K D) (hz : Zc cls d oe) (hf : ∃ vs, oe.data = .fields vs) : CallR (X.suite a ((a, oe) :: pn)) (.builtin "isinstance") (rIsX K D a cls d) := by
  subst hK
  intro pins s σ H xs us Q I r h
  obtain ⟨c, b, dd, fs, rfl, rfl, ea, rfl, e, q⟩ := h
  obtain ⟨u1, u2, rfl, r1, r2⟩ := vals2 r
  cases (show u1 = Value.ref a from r1)
  cases (show u2 = Value.ref c from r2)
  obtain ⟨hget, _⟩ := I.pin (a, oe) (List.mem_append.mpr (.inl List.mem_cons_self))
  obtain ⟨vs, hd⟩ := hf
  have hx : ObjOk X.prog X.w H s.heap dd (.xd fs) := I.hok dd _ ea
  obtain ⟨mA, hns, hr⟩ := hx
  obtain ⟨od, ho, hl⟩ := lookIn_ns hns
  have J : PySem.W.InstAt s.heap a oe D (some od) := ⟨hget, hz.1, by unfold PySem.W.notCls; rw [hd] <;> rfl, by rw [hz.2]; exact ho⟩
  obtain ⟨cd, hc, _⟩ := PySem.W.any_some C.hd
  exact PySem.W.kia_one (PySem.W.kitx_exc (by rw [hc]; rfl) C.hg C.hk C.hs C.ha C.hn C.ht C.hm) I.kIn J e (fun z => nomatch z) fun tk => ⟨.bl b, H, I.tok tk, rfl, q⟩
end R1

namespace R1
open PySem PySem.Spec PyProof.Rows L2
section
variable {K : PySem.W.Frag} {a b : Addr} {xs ys : List V}
theorem walk_zipT {n : Nat} (hn : n = min xs.length ys.length) : Walk (RZ.ItzT K a b) n (fun H => SqT K H a xs ∧ SqT K H b ys) (YPair (fun i => xs[i]?) (fun i => ys[i]?)) := by
  subst hn
  refine ⟨fun i _ hi q => ?_, fun _ q => ⟨xs, ys, q.1, q.2, by omega⟩, fun i H v H' _ q y => ?_⟩
  · have h1 : i < xs.length := by omega
    have h2 : i < ys.length := by omega
    exact ⟨xs, ys, xs[i], ys[i], q.1, q.2, by simp [h1], by simp [h2]⟩
  · obtain ⟨T, x, z, h1, h2, h3, h4, h5⟩ := y
    exact ⟨T, x, z, h1, h2, h3, h4 xs q.1, h5 ys q.2⟩
end
end R1

/-! enumerate(t), t a tuple -/
namespace PySem
open PySem.Spec PyProof.Rows PySem.W
theorem meets_enum1 {v : Value} {o : Obj} {H : Heap → Prop} (B : Begins v o H) :
    Meets (Builtin.«enumerate.__new__» ⟨[.type "enumerate", v], []⟩) (fun _ R s => H s.heap ∧
      R (.ok (.ret (.ref (s.heap.push o).objs.size))) { s with heap := (s.heap.push o).push { cls := .type "enumerate", data := .fields #[.none, .bool false, .ref s.heap.objs.size, rawInt 0, .none, .none] } }) :=
  .of_wp fun prog w A R s h => by
    obtain ⟨hp, g, d, tk, os⟩ := s; obtain ⟨h1, h⟩ := h
    have hsub := sub_enumerate
    have q1 : ∀ {A' : Around} {E : Value → Shared → Prop} {Q : Value → Shared → Prop}, Q (.ref hp.objs.size) ⟨hp.push o, g, d, tk, os⟩ → wpAny (model prog w) A' (pyIter v) Q E ⟨hp, g, d, tk, os⟩ :=
      fun q => B.iter prog w _ _ ⟨hp, g, d, tk, os⟩ _ h1 q
    wp_walk using q1
    refine wpAny_stack_any fun st => wpAny_pure ?_
    split
    · rename_i c _ _ _ _ _
      cases (c == Value.type "enumerate")
      · wp_walk using q1
        exact ⟨_, rfl, h⟩
      · wp_walk using q1
        exact ⟨_, rfl, h⟩
    · wp_walk using q1
      exact ⟨_, rfl, h⟩
section
variable {prog : Program} {w : World} {A : Around} {E : Value → Shared → Prop} {s : Shared}
theorem enum1 {v : Value} {o : Obj} {H : Heap → Prop} {Q : Value → Shared → Prop} (B : Begins v o H) (h1 : H s.heap)
    (h : ∀ h', IsEnum h' (s.heap.objs.size + 1) s.heap.objs.size 0 .none → h'.get? s.heap.objs.size = some o → h'.objs.size = s.heap.objs.size + 2 →
      (∀ b o, s.heap.get? b = some o → h'.get? b = some o) → Q (.ref (s.heap.objs.size + 1)) { s with heap := h' }) :
    wpAny (model prog w) A (call (.type "enumerate") [v]) Q E s := by
  refine callType_new F.called_enumerate (by decide) (F.typeCall_enumerate_1 _) (F.newCall_enumerate_1 _) (fun obj => F.args_object_init_2 obj _) F.entry_enumerate_new
    (meets_enum1 B) ⟨h1, ?_⟩
  have hz : (s.heap.push o).objs.size = s.heap.objs.size + 1 := Heap.size_push ..
  show _ ∧ _
  rw [hz]
  have he : IsEnum ((s.heap.push o).push { cls := .type "enumerate", data := .fields #[.none, .bool false, .ref s.heap.objs.size, rawInt 0, .none, .none] }) (s.heap.objs.size + 1) s.heap.objs.size 0 .none := by
    have := Heap.get?_push_size (s.heap.push o) (o := { cls := .type "enumerate", data := .fields #[.none, .bool false, .ref s.heap.objs.size, rawInt 0, .none, .none] }) rfl
    rw [hz] at this; exact this
  exact ⟨⟨_, he, rfl⟩, h _ he (Heap.get?_push_of_some _ (Heap.get?_push_size _ B.free)) (by rw [Heap.size_push, hz]) fun b o x => Heap.get?_push_of_some _ (Heap.get?_push_of_some _ x)⟩
end
end PySem

namespace PySem
section
variable {prog : Program} {w : World} {A : Around} {E : Value → Shared → Prop} {s : Shared}
theorem enum_endT {e it l : Addr} {i : Nat} {items : Array Value} {old : Value} {Q : Option Value → Shared → Prop} (hh : A.handled = none)
    (he : IsEnum s.heap e it i old) (hit : s.heap.IsTupleIter it l i) (hl : s.heap.IsTuple l items) (hx : items[i]? = none)
    (hQ : ∀ h', Heap.ExtBut it s.heap h' → Q none { s with heap := h' }) : wpAny (model prog w) A (pyNext (.ref e)) Q E s := by
  have hT : s.TypeIs (.ref e) "enumerate" := ⟨_, he, rfl⟩
  unfold pyNext
  refine wpAny_bind (wpAny_attempt (wpAny_callSpecial?_slot (name := Str.ofString "__next__") hT F.slot_enumerate_next
    (wpAny_call_entry F.slot_enumerate_next hT F.entry_enumerate_next ?_ (F.args_enumerate_next_1 _))))
  show wpAny _ _ (field (.ref e) 2 >>= _) _ _ _
  refine wpAny_bind (wpAny_field he rfl (x := .ref it) rfl ?_)
  refine wpAny_bind (wpAny_nextOf_tuple_end hh hit hl hx fun h' x he' hx' => ?_)
  obtain ⟨o, ho, hc⟩ := hx'
  refine wpAny_bind (wpAny_isInstance (T := "StopIteration") (b := true) ⟨o, ho, hc⟩ isSubtype_stop ?_)
  exact wpAny_pure (hQ _ he')
end
end PySem
namespace R1
open PySem PySem.Spec PyProof.Rows L2
def IteT (K : PySem.W.Frag) (a : Addr) : It :=
  ⟨fun i H => ∃ (xs : List V) (x : V), SqT K H a xs ∧ xs[i]? = some x, fun i H v H' => ∃ T x, v = .ref T ∧ H T = none ∧ H' = upd H T (.tup [.int (i : Nat), x]) ∧ ∀ xs, SqT K H a xs → xs[i]? = some x, fun i H => ∃ xs : List V, SqT K H a xs ∧ xs.length ≤ i⟩
theorem turn_enumT {P : Program} {w : World} {K : PySem.W.Frag} {elts : List Expr} {kk : Nat} {tpos : Pos} (a e it : Addr) :
    Turn P w K (.Tuple elts kk tpos) (IteT K a) [e, it] e (fun i h => (∃ old, IsEnum h e it ((i : Nat) : Int) old) ∧ h.IsTupleIter it a i ∧ e ≠ it ∧ a ≠ it ∧ a ≠ e) where
  mem := by simp
  obj := fun i h st b hb => by
    obtain ⟨⟨old, he⟩, ⟨o, ho, hc, hd⟩, _⟩ := st
    have e' : b = e ∨ b = it := by simpa using hb
    rcases e' with z | z
    · rw [z]; exact ⟨_, he, fun v q => nomatch q⟩
    · rw [z]; exact ⟨o, ho, fun v q => by rw [hd] at q; cases q⟩
  keep := fun i h h' st k => let ⟨⟨old, he⟩, hi, hne⟩ := st; ⟨⟨old, k e (by simp) _ he⟩, hi.at fun o q => k it (by simp) o q, hne⟩
  item := by
    intro X hP hw hK hc i pins s σ H E I hf st hg
    subst hP hw hK
    obtain ⟨⟨old, he⟩, hit, hne, hai, hae⟩ := st
    obtain ⟨xs, x, hq, hx⟩ := hg
    obtain ⟨its, rv, p, hz⟩ := I.tuple hq
    obtain ⟨u, hu, ru⟩ := rv.get hx
    have hel : e < s.heap.objs.size := Heap.lt_size he
    have hil : it < s.heap.objs.size := by obtain ⟨_, q, _⟩ := hit; exact Heap.lt_size q
    have hli : i < its.toArray.size := by
      have := rv.length
      have h2 : i < xs.length := by
        by_cases z : i < xs.length
        · exact z
        · rw [List.getElem?_eq_none (by omega)] at hx; cases hx
      simp; omega
    refine wpAny_pyNext_enum_itemD (PySem.Draws.tuple (show X.A.in1.handled = none from I.ok.hd hc) it a hai its.toArray) he ⟨hit, p⟩ hli hne (by simp [hne, Ne.symm hae]) fun x' h' tk hP' ho hst' hT hsz hk => ?_
    have ex : x' = u := by
      rw [List.getElem?_toArray, hu] at hP'
      exact (Option.some.inj hP').symm
    subst ex
    refine ⟨_, rfl, wpAny_letOwnedTupleGo_enum (s := { s with heap := h', toks := tk + 1 }) ho fun h'' he' sb => ?_⟩
    have hT2 : h''.get? s.heap.objs.size = some { cls := .type "tuple", data := .seq #[.int i tk, x'] } := (sb.2 _ (Nat.ne_of_gt hel)).trans hT
    have new : ObjOk X.prog X.w (upd H s.heap.objs.size (.tup [.int (i : Nat), x])) h'' s.heap.objs.size (.tup [.int (i : Nat), x]) :=
      ⟨by show 2 ≤ sizeLine; decide, [.int i tk, x'], .cons ⟨_, rfl⟩ (.cons ru .nil), ⟨_, hT2, rfl, _, rfl⟩⟩
    have I1 : Inv X pins σ (upd H s.heap.objs.size (.tup [.int (i : Nat), x])) { s with heap := h'', toks := tk + 1 } :=
      I.turnedNew (ch := [e, it]) (fun b ob hb q => (sb.2 b (fun z => hb (by simp [z]))).trans (hk b ob (fun z => hb (by simp [z])) (fun z => hb (by simp [z])) q)) hf (Nat.le_refl _) new
    refine ⟨.ref s.heap.objs.size, _, I1, rfl, ⟨_, x, rfl, I.hok.fresh (Nat.le_refl _), rfl, fun ys hy => by rw [I.tuple_inj hy hq]; exact hx⟩, ⟨⟨x', ?_⟩, hst'.1.at fun o q => (sb.2 it (Ne.symm hne)).trans q, hne, hai, hae⟩, fun b hb => ?_⟩
    · have e1 : ((i + 1 : Nat) : Int) = (i : Int) + 1 := by omega
      rw [e1]; exact he'
    · have hb' : b < s.heap.objs.size := by
        have e' : b = e ∨ b = it := by simpa using hb
        rcases e' with z | z
        · rw [z]; exact hel
        · rw [z]; exact hil
      rw [upd_ne (Nat.ne_of_lt hb')]
      exact (hf b hb).1
  done := by
    intro X hP hw hK hc i pins s σ H E I hf st hg
    subst hP hw hK
    obtain ⟨⟨old, he⟩, hit, hne, hai, hae⟩ := st
    obtain ⟨xs, hq, hx⟩ := hg
    obtain ⟨its, rv, p, hz⟩ := I.tuple hq
    obtain ⟨f0, f1, f2, f3, f4, f5⟩ := hf it (by simp)
    have hl := rv.length
    exact enum_endT (I.ok.hd hc) he hit p (by simp; omega) fun h' eb => ⟨rfl, I.turned (t' := s.toks) (fun b o hb q => eb b o hb q) f0 f1 f3 f4 f5⟩
  self := fun A i s Q E st h => let ⟨⟨_, he⟩, _⟩ := st; wpAny_pyIter_enum he h
end R1

namespace R1
open PySem PySem.Spec PyProof.Rows L2
def iEnumT (K : PySem.W.Frag) (ta : TA) : TI := fun σ H R => ta σ H fun vs H1 => ∃ a xs, vs = [.ref a] ∧ SqT K H1 a xs ∧ R (IteT K a) H1
theorem pi_enumT {X : Cx} {e : Expr} {ta : TA} {p pos tpos : Pos} {elts : List Expr} {kk : Nat} (hg : Gl X "enumerate") (hm : X.mg "enumerate" = none) (ha : PA X [e] ta) (hs : starEach [e] X.env = [(false, eval e X.env)] := by rfl) :
    PI X (.Tuple elts kk tpos) (.Call (.Name "enumerate" p) [e] [] pos) (iEnumT X.K ta) := by
  refine ⟨fun pins s σ H R I h => ?_⟩
  refine Call_ (ld_blt I hg hm boot_enumerate (PyProof.Rows.callWith_type1 (thn (ha.run pos pins s σ H _ I h) fun us s1 ⟨vs, H1, I1, r1, q1⟩ => ?_) hs rfl))
  obtain ⟨a, xs, ex, hq, q⟩ := q1
  subst ex
  cases r1 with
  | cons r rr =>
    cases rr
    cases r
    obtain ⟨its, rv, p', hz⟩ := I1.tuple hq
    have hla : a < s1.heap.objs.size := by
      obtain ⟨o, ho, _⟩ := id p'
      exact Heap.lt_size ho
    refine enum1 (begins_tuple a its.toArray) p' fun h' he hit hsz hk => wpAny_pyIter_enum he ?_
    have I2 : Inv X pins σ H1 { s1 with heap := h' } := I1.kept (t' := s1.toks) hk
    refine ⟨s1.heap.objs.size + 1, [s1.heap.objs.size + 1, s1.heap.objs.size], _, _, H1, rfl, I2, turn_enumT a (s1.heap.objs.size + 1) s1.heap.objs.size, ⟨⟨.none, he⟩, ⟨_, hit, rfl, rfl⟩, Nat.succ_ne_self _, Nat.ne_of_lt hla, Nat.ne_of_lt (Nat.lt_succ_of_lt hla)⟩, fun b hb => ?_, q⟩
    have e' : b = s1.heap.objs.size + 1 ∨ b = s1.heap.objs.size := by simpa using hb
    have hle : s1.heap.objs.size ≤ b := by
      rcases e' with z | z
      · rw [z]; exact Nat.le_add_right _ _
      · rw [z]; exact Nat.le_refl _
    exact I1.fpOk hle (I1.hok.fresh hle)
section
variable {K : PySem.W.Frag} {a : Addr} {xs : List V}
theorem walk_enumT : Walk (IteT K a) xs.length (fun H => SqT K H a xs) (YPair (fun i => some (.int (i : Nat))) (fun i => xs[i]?)) := by
  refine ⟨fun i _ hi q => ⟨xs, xs[i], q, by simp [hi]⟩, fun _ q => ⟨xs, q, Nat.le_refl _⟩, fun i H v H' _ q y => ?_⟩
  obtain ⟨T, x, h1, h2, h3, h4⟩ := y
  exact ⟨T, .int (i : Nat), x, h1, h2, h3, rfl, h4 xs q⟩
end
end R1

namespace R1
open PySem PySem.Spec PyProof.Rows L2
section
variable {P : Program} {w : World} {K : PySem.W.Frag} {mg : Str → Option Value} {base : Heap} {CX : CXT} {k : Nat} {f : Addr} {fd : FuncData} {ps : List Str}
/-- one def, two contracts -/
theorem fn_or {sp sp' : Sp} (F : FnOk P w K mg base CX k f fd ps sp) (G : FnOk P w K mg base CX k f fd ps sp') : FnOk P w K mg base CX k f fd ps (fun vs H Q E => sp vs H Q E ∨ sp' vs H Q E) :=
  ⟨fun vs H Q E q => q.elim (F.len vs H Q E) (G.len vs H Q E), fun A outer s H args us vs Q E hr he hb hv hs => hs.elim (F.run A outer s H args us vs Q E hr he hb hv) (G.run A outer s H args us vs Q E hr he hb hv)⟩
end
end R1

namespace R1
open PySem PySem.Spec PyProof.Rows L2
/-! ### what sorted leaves, by the items' own rows -/
section
variable {κ : Type} {R : V → κ → Prop} (enc : κ → PyData)
def sortK (rs : List κ) : List κ := rs.mergeSort (PySem.W.dataLe false enc)
theorem zip_al : ∀ {xs : List V} {rs : List κ}, xs.length = rs.length → (xs.zip rs).map Prod.fst = xs ∧ (xs.zip rs).map Prod.snd = rs
  | [], [], _ => ⟨rfl, rfl⟩
  | x :: xs, r :: rs, h => by
    obtain ⟨a, b⟩ := zip_al (Nat.succ.inj h)
    exact ⟨by rw [List.zip_cons_cons, List.map_cons, a], by rw [List.zip_cons_cons, List.map_cons, b]⟩
theorem sort_al {xs : List V} {rs : List κ} (h : Al R xs rs) : Al R (R0.sortV xs (rs.map enc)) (sortK enc rs) := by
  obtain ⟨e1, e2⟩ := zip_al h.1
  obtain ⟨zs, hzs⟩ : ∃ zs, zs = (xs.zip rs).mergeSort (PySem.W.dataLe false fun z : V × κ => enc z.2) := ⟨_, rfl⟩
  have hz : xs.zip (rs.map enc) = (xs.zip rs).map fun z => (z.1, enc z.2) := by
    rw [List.zip_map_right]
    exact List.map_congr_left fun z _ => rfl
  have hs1 : R0.sortV xs (rs.map enc) = zs.map Prod.fst := by
    unfold R0.sortV
    rw [hz, ← List.map_mergeSort (f := fun z : V × κ => (z.1, enc z.2)) (r := PySem.W.dataLe false fun z : V × κ => enc z.2) (s := PySem.W.dataLe false Prod.snd) (fun a _ b _ => rfl), List.map_map, hzs]
    rfl
  have hs2 : sortK enc rs = zs.map Prod.snd := by
    unfold sortK
    rw [hzs, List.map_mergeSort (r := PySem.W.dataLe false fun z : V × κ => enc z.2) (s := PySem.W.dataLe false enc) (fun a _ b _ => rfl), e2]
  rw [hs1, hs2]
  refine ⟨by simp, fun i x r hx hr => ?_⟩
  rw [List.getElem?_map] at hx hr
  cases e : zs[i]? with
  | none => rw [e] at hx; cases hx
  | some z =>
    rw [e] at hx hr
    obtain rfl : z.1 = x := Option.some.inj hx
    obtain rfl : z.2 = r := Option.some.inj hr
    have hm : z ∈ xs.zip rs := by
      have := List.mem_of_getElem? e
      rw [hzs, List.mem_mergeSort] at this
      exact this
    obtain ⟨j, hj⟩ := List.mem_iff_getElem?.mp hm
    have hj' := List.getElem?_zip_eq_some.mp hj
    exact h.2 j z.1 z.2 hj'.1 hj'.2
end
end R1

/-! list(zip(a, b)), a and b tuples of one length -/
namespace R1
open PySem PySem.Spec PyProof.Rows L2
theorem lt1000 {k : Nat} (h : k ≤ 1000) : k < sizeLine := by
  have : (1000 : Nat) < sizeLine := by decide
  omega
theorem zip_has_no_len : typeLookup (.type "zip") "__len__" = pure none := am_miss_of_fast (by decide +kernel)
theorem zip_has_no_hint : typeLookup (.type "zip") "__length_hint__" = pure none := am_miss_of_fast (by decide +kernel)
section
variable {prog : Program} {w : World} {A : Around} {E : Value → Shared → Prop} {s : Shared} {z TI TO T i1 i2 a b S : Addr} {f : Bool} {oT : Obj} {i n : Nat} {xs ys : Array Value} {x y : Value}
theorem zheld_item {Q : Value → Shared → Prop} (D : ZipApart z TI TO i1 i2 a b) (hz : IsZipHeld s.heap z TI TO T f) (hT : s.heap.get? T = some oT) (ti : IsPair s.heap TI (.ref i1) (.ref i2))
    (t1 : s.heap.IsTupleIter i1 a i) (t2 : s.heap.IsTupleIter i2 b i) (ha : s.heap.IsTuple a xs) (hb : s.heap.IsTuple b ys) (hx : xs[i]? = some x) (hy : ys[i]? = some y)
    (q : ∀ h', IsZipHeld h' z TI TO T true → h'.IsTupleIter i1 a (i + 1) → h'.IsTupleIter i2 b (i + 1) → IsPair h' s.heap.objs.size x y →
      (∀ c o, c ≠ z → c ≠ i1 → c ≠ i2 → s.heap.get? c = some o → h'.get? c = some o) → Q (.ref s.heap.objs.size) { s with heap := h' }) :
    wpAny (model prog w) A (Builtin.«zip.__next__» ⟨[.ref z], []⟩) (fun r s2 => ∃ u, r = .done (.ret u) ∧ Q u s2) E s := by
  show wpAny _ _ (field (.ref z) 2 >>= _) _ _ s
  refine wpAny_bind (wpAny_field hz rfl (x := .bool false) rfl ?_); show wpAny _ _ (field (.ref z) 3 >>= _) _ _ s
  refine wpAny_bind (wpAny_field hz rfl (x := .ref TI) rfl ?_); refine wpAny_bind (wpAny_seqItems ti rfl ?_)
  show wpAny _ _ (Builtin.SmallTypes.ownedTupleIsFree (.ref z) >>= _) _ _ s
  refine wpAny_bind (wpAny_tupleHeld_zip hz hT fun g1 z1 k1 => ?_); simp only [Bool.false_eq_true, if_false]
  refine wpAny_bind ?_; rw [← Array.forIn_toList]; simp only [List.forIn_cons, List.forIn_nil]
  refine wpAny_bind (wpAny_bind (wpAny_holding ?_)); show wpAny _ _ (Builtin.SmallTypes.nextOf (.ref i1) >>= _) _ _ _
  refine wpAny_bind (RZ.nextOf_tuple_item (s := { s with heap := g1 }) (t1.extBut k1.extBut D.i1z) (ha.extBut k1.extBut D.l1z) hx fun g2 t1' k2 => wpAny_pure (wpAny_pure ?_))
  refine wpAny_bind (wpAny_bind (wpAny_holding ?_)); show wpAny _ _ (Builtin.SmallTypes.nextOf (.ref i2) >>= _) _ _ _
  refine wpAny_bind (RZ.nextOf_tuple_item (s := { s with heap := g2 }) ((t2.extBut k1.extBut D.i2z).extBut k2.extBut D.i12.symm) ((hb.extBut k1.extBut D.l2z).extBut k2.extBut D.l2i1) hy fun g3 t2' k3 => wpAny_pure (wpAny_pure (wpAny_pure ?_)))
  show wpAny _ _ (newTuple [x, y] >>= _) _ _ _
  refine wpAny_bind (wpAny_newTuple (wpAny_pure ⟨_, rfl, ?_⟩))
  have e0 : g3.objs.size = s.heap.objs.size := by rw [k3.1, k2.1, k1.1]
  have z3 : IsZipHeld g3 z TI TO T true := k3.extBut _ _ D.i2z.symm (k2.extBut _ _ D.i1z.symm z1)
  have up : ∀ c o, c ≠ z → c ≠ i1 → c ≠ i2 → s.heap.get? c = some o → g3.get? c = some o := fun c o n1 n2 n3 e => k3.extBut _ _ n3 (k2.extBut _ _ n2 (k1.extBut _ _ n1 e))
  have t13 : g3.IsTupleIter i1 a (i + 1) := t1'.extBut k3.extBut D.i12
  have new : IsPair (g3.push { cls := .type "tuple", data := .seq #[x, y] }) g3.objs.size x y := Heap.get?_push_size _ rfl
  show Q (.ref g3.objs.size) _
  rw [e0] at new ⊢
  exact q _ (Heap.get?_push_of_some _ z3) (t13.at fun o e => Heap.get?_push_of_some _ e) (t2'.at fun o e => Heap.get?_push_of_some _ e) new fun c o n1 n2 n3 e => Heap.get?_push_of_some _ (up c o n1 n2 n3 e)
theorem zheld_end {Q : Fin → Shared → Prop} (hh : A.handled = none) (D : ZipApart z TI TO i1 i2 a b) (hz : IsZipHeld s.heap z TI TO T f) (hT : s.heap.get? T = some oT) (ti : IsPair s.heap TI (.ref i1) (.ref i2))
    (t1 : s.heap.IsTupleIter i1 a i) (ha : s.heap.IsTuple a xs) (hx : xs[i]? = none)
    (q : ∀ h' e, (∀ c o, c ≠ z → c ≠ i1 → c ≠ i2 → s.heap.get? c = some o → h'.get? c = some o) → (∃ o, h'.get? e = some o ∧ o.cls = .type "StopIteration") → E (.ref e) { s with heap := h' }) :
    wpAny (model prog w) A (Builtin.«zip.__next__» ⟨[.ref z], []⟩) Q E s := by
  show wpAny _ _ (field (.ref z) 2 >>= _) _ _ s
  refine wpAny_bind (wpAny_field hz rfl (x := .bool false) rfl ?_); show wpAny _ _ (field (.ref z) 3 >>= _) _ _ s
  refine wpAny_bind (wpAny_field hz rfl (x := .ref TI) rfl ?_); refine wpAny_bind (wpAny_seqItems ti rfl ?_)
  show wpAny _ _ (Builtin.SmallTypes.ownedTupleIsFree (.ref z) >>= _) _ _ s
  refine wpAny_bind (wpAny_tupleHeld_zip hz hT fun g1 z1 k1 => ?_); simp only [Bool.false_eq_true, if_false]
  refine wpAny_bind ?_; rw [← Array.forIn_toList]; simp only [List.forIn_cons, List.forIn_nil]
  refine wpAny_bind (wpAny_bind (wpAny_holding ?_)); show wpAny _ _ (Builtin.SmallTypes.nextOf (.ref i1) >>= _) _ _ _
  exact wpAny_bind (RZ.nextOf_tuple_end (s := { s with heap := g1 }) hh (t1.extBut k1.extBut D.i1z) (ha.extBut k1.extBut D.l1z) hx fun g2 e k2 he => q g2 e (fun c o n1 n2 _ v => k2 _ _ n2 (k1.extBut _ _ n1 v)) he)
theorem znext_item {Q : Option Value → Shared → Prop} (D : ZipApart z TI TO i1 i2 a b) (hz : IsZipHeld s.heap z TI TO T f) (hT : s.heap.get? T = some oT) (ti : IsPair s.heap TI (.ref i1) (.ref i2))
    (t1 : s.heap.IsTupleIter i1 a i) (t2 : s.heap.IsTupleIter i2 b i) (ha : s.heap.IsTuple a xs) (hb : s.heap.IsTuple b ys) (hx : xs[i]? = some x) (hy : ys[i]? = some y)
    (q : ∀ h', IsZipHeld h' z TI TO T true → h'.IsTupleIter i1 a (i + 1) → h'.IsTupleIter i2 b (i + 1) → IsPair h' s.heap.objs.size x y →
      (∀ c o, c ≠ z → c ≠ i1 → c ≠ i2 → s.heap.get? c = some o → h'.get? c = some o) → Q (some (.ref s.heap.objs.size)) { s with heap := h' }) :
    wpAny (model prog w) A (pyNext (.ref z)) Q E s := by
  have ty : s.TypeIs (.ref z) "zip" := ⟨_, hz, rfl⟩
  unfold pyNext
  exact wpAny_bind (wpAny_attempt (wpAny_callSpecial?_slot (name := Str.ofString "__next__") ty F.slot_zip_next (wpAny_call_entry F.slot_zip_next ty F.entry_zip_next (zheld_item D hz hT ti t1 t2 ha hb hx hy fun h' c1 c2 c3 c4 c5 => wpAny_pure (q h' c1 c2 c3 c4 c5)) (F.args_zip_next_1 _))))
theorem znext_end {Q : Option Value → Shared → Prop} (hh : A.handled = none) (D : ZipApart z TI TO i1 i2 a b) (hz : IsZipHeld s.heap z TI TO T f) (hT : s.heap.get? T = some oT) (ti : IsPair s.heap TI (.ref i1) (.ref i2))
    (t1 : s.heap.IsTupleIter i1 a i) (ha : s.heap.IsTuple a xs) (hx : xs[i]? = none)
    (q : ∀ h', (∀ c o, c ≠ z → c ≠ i1 → c ≠ i2 → s.heap.get? c = some o → h'.get? c = some o) → Q none { s with heap := h' }) : wpAny (model prog w) A (pyNext (.ref z)) Q E s := by
  have ty : s.TypeIs (.ref z) "zip" := ⟨_, hz, rfl⟩
  unfold pyNext
  refine wpAny_bind (wpAny_attempt (wpAny_callSpecial?_slot (name := Str.ofString "__next__") ty F.slot_zip_next (wpAny_call_entry F.slot_zip_next ty F.entry_zip_next (zheld_end hh D hz hT ti t1 ha hx fun h' e k ⟨o, ho, hc⟩ => ?_) (F.args_zip_next_1 _))))
  exact wpAny_bind (wpAny_isInstance (T := "StopIteration") (b := true) ⟨o, ho, hc⟩ isSubtype_stop (wpAny_pure (q _ k)))
/-- where the iterator stands, i pairs given out -/
structure ZAt (h : Heap) (z TI TO i1 i2 a b : Addr) (i : Nat) : Prop where
  ti : IsPair h TI (.ref i1) (.ref i2)
  t1 : h.IsTupleIter i1 a i
  t2 : h.IsTupleIter i2 b i
  out : (IsZip h z TI TO .none ∧ ∃ u v, IsPair h TO u v) ∨ ∃ T f oT, IsZipHeld h z TI TO T f ∧ h.get? T = some oT ∧ T ≠ z ∧ T ≠ i1 ∧ T ≠ i2 ∧ T ≠ S
/-- the pairs given out -/
structure Prs (h : Heap) (lo : Addr) (xs ys : Array Value) (as : List Addr) : Prop where
  rise : as.Pairwise (· < ·)
  above : ∀ c ∈ as, lo ≤ c
  pair : ∀ (j : Nat) (c : Addr), as[j]? = some c → ∃ x y, xs[j]? = some x ∧ ys[j]? = some y ∧ IsPair h c x y
theorem Prs.there {h : Heap} {lo : Addr} {as : List Addr} (g : Prs h lo xs ys as) {c : Addr} (hc : c ∈ as) : c < h.objs.size := by
  obtain ⟨j, hj⟩ := List.mem_iff_getElem?.mp hc
  obtain ⟨_, _, _, _, e⟩ := g.pair j c hj
  exact Heap.lt_size e
theorem zat_item {Q : Option Value → Shared → Prop} (D : ZipApart z TI TO i1 i2 a b) (Z : ZAt (S := S) s.heap z TI TO i1 i2 a b i) (hS : S < s.heap.objs.size) (ha : s.heap.IsTuple a xs) (hb : s.heap.IsTuple b ys) (hx : xs[i]? = some x) (hy : ys[i]? = some y)
    (q : ∀ h', ZAt (S := S) h' z TI TO i1 i2 a b (i + 1) → IsPair h' s.heap.objs.size x y → (∀ c o, c ≠ z → c ≠ TO → c ≠ i1 → c ≠ i2 → s.heap.get? c = some o → h'.get? c = some o) → Q (some (.ref s.heap.objs.size)) { s with heap := h' }) :
    wpAny (model prog w) A (pyNext (.ref z)) Q E s := by
  have l1 : i1 < s.heap.objs.size := by obtain ⟨_, e, _⟩ := Z.t1; exact Heap.lt_size e
  have l2 : i2 < s.heap.objs.size := by obtain ⟨_, e, _⟩ := Z.t2; exact Heap.lt_size e
  rcases Z.out with ⟨hz, u, v, hO⟩ | ⟨T, f, oT, hz, hT, n1, n2, n3, n4⟩
  · have lz : z < s.heap.objs.size := Heap.lt_size hz
    refine RZ.pyNext_zipT_item D hz Z.ti hO Z.t1 Z.t2 ha hb hx hy fun h' z' o' t1' t2' hN _ k => q h' ⟨k _ _ D.TIz D.TITO D.TIi1 D.TIi2 Z.ti, t1', t2', .inr ⟨s.heap.objs.size, false, _, z', hN, Nat.ne_of_gt lz, Nat.ne_of_gt l1, Nat.ne_of_gt l2, Nat.ne_of_gt hS⟩⟩ hN k
  · refine znext_item D hz hT Z.ti Z.t1 Z.t2 ha hb hx hy fun h' z' t1' t2' hN k => q h' ⟨k _ _ D.TIz D.TIi1 D.TIi2 Z.ti, t1', t2', .inr ⟨T, true, oT, z', k _ _ n1 n2 n3 hT, n1, n2, n3, n4⟩⟩ hN fun c o m1 _ m3 m4 e => k c o m1 m3 m4 e
theorem zat_end {Q : Option Value → Shared → Prop} (hh : A.handled = none) (D : ZipApart z TI TO i1 i2 a b) (Z : ZAt (S := S) s.heap z TI TO i1 i2 a b i) (ha : s.heap.IsTuple a xs) (hb : s.heap.IsTuple b ys) (hx : xs[i]? = none)
    (q : ∀ h', (∀ c o, c ≠ z → c ≠ TO → c ≠ i1 → c ≠ i2 → s.heap.get? c = some o → h'.get? c = some o) → Q none { s with heap := h' }) : wpAny (model prog w) A (pyNext (.ref z)) Q E s := by
  rcases Z.out with ⟨hz, u, v, hO⟩ | ⟨T, f, oT, hz, hT, n1, n2, n3, n4⟩
  · exact RZ.pyNext_zipT_end hh D hz Z.ti hO Z.t1 Z.t2 ha hb (.inl hx) fun h' k => q h' k
  · exact znext_end hh D hz hT Z.ti Z.t1 ha hx fun h' k => q h' fun c o m1 _ m3 m4 e => k c o m1 m3 m4 e
theorem ZAt.keep {h h' : Heap} (Z : ZAt (S := S) h z TI TO i1 i2 a b i) (k : ∀ c o, c ≠ S → h.get? c = some o → h'.get? c = some o) (m1 : z ≠ S) (m2 : TI ≠ S) (m3 : TO ≠ S) (m4 : i1 ≠ S) (m5 : i2 ≠ S) : ZAt (S := S) h' z TI TO i1 i2 a b i :=
  ⟨k _ _ m2 Z.ti, Z.t1.at fun o e => k _ o m4 e, Z.t2.at fun o e => k _ o m5 e, Z.out.elim (fun ⟨hz, u, v, hO⟩ => .inl ⟨k _ _ m1 hz, u, v, k _ _ m3 hO⟩) fun ⟨T, f, oT, hz, hT, n1, n2, n3, n4⟩ => .inr ⟨T, f, oT, k _ _ m1 hz, k _ _ n4 hT, n1, n2, n3, n4⟩⟩
/-- all five cells and the list lie below lo -/
structure ZLow (lo S z TI TO i1 i2 a b : Addr) : Prop where
  fs : S < lo
  fz : z < lo
  fo : TO < lo
  f1 : i1 < lo
  f2 : i2 < lo
  nz : z ≠ S
  nI : TI ≠ S
  nO : TO ≠ S
  n1 : i1 ≠ S
  n2 : i2 ≠ S
  na : a ≠ S
  nb : b ≠ S
theorem zloop {R : Result → Shared → Prop} {lo : Addr} {h1 : Heap} (hh : A.handled = none) (D : ZipApart z TI TO i1 i2 a b) (L : ZLow lo S z TI TO i1 i2 a b) (ex : xs.size = n) (ey : ys.size = n) (hn : n ≤ 1000) (res : Value)
    (hR : ∀ h' acc c as, (∀ d o, d ≠ S → d ≠ z → d ≠ TO → d ≠ i1 → d ≠ i2 → h1.get? d = some o → h'.get? d = some o) → h'.get? S = some { cls := .type "list", dict := none, data := .seq acc c, slots := #[] } → as.length = n → Prs h' lo xs ys as →
      acc.toList = as.map Value.ref → R (.ok (.ret res)) { s with heap := h' }) :
    ∀ (k i : Nat) (h : Heap) (c : Nat) (acc : Array Value) (as : List Addr), n - i = k → i ≤ n → ZAt (S := S) h z TI TO i1 i2 a b i → h.IsTuple a xs → h.IsTuple b ys → (∀ d o, d ≠ S → d ≠ z → d ≠ TO → d ≠ i1 → d ≠ i2 → h1.get? d = some o → h.get? d = some o) →
      h.get? S = some { cls := .type "list", dict := none, data := .seq acc c, slots := #[] } → acc.toList = as.map Value.ref → as.length = i → Prs h lo xs ys as → lo ≤ h.objs.size →
      codeAny (model prog w) A (.builtin "list.extend.loop" ⟨[.ref S, .ref z, res], []⟩) R { s with heap := h } := by
  intro k
  induction k with
  | zero =>
    intro i h c acc as hk hi Z ha hb kp hS hacc hal G hlo
    refine codeAny_builtin PySem.F.entry_extend_loop ?_; rw [Around.under_plainId PySem.F.plain_extend_loop _]
    show wpAny _ A.in1 (pyNext (.ref z) >>= _) _ _ _
    refine wpAny_bind (zat_end (s := { s with heap := h }) (A := A.in1) hh D Z ha hb (Array.getElem?_eq_none (by omega)) fun h' k' => wpAny_pure ?_)
    refine hR h' acc c as (fun d o d0 d1 d2 d3 d4 e => k' d o d1 d2 d3 d4 (kp d o d0 d1 d2 d3 d4 e)) (k' _ _ L.nz.symm L.nO.symm L.n1.symm L.n2.symm hS) (by omega) ⟨G.rise, G.above, fun j d hj => ?_⟩ hacc
    obtain ⟨u, v, e1, e2, e3⟩ := G.pair j d hj
    have ge := G.above d (List.mem_of_getElem? hj)
    exact ⟨u, v, e1, e2, k' d _ (Nat.ne_of_gt (Nat.lt_of_lt_of_le L.fz ge)) (Nat.ne_of_gt (Nat.lt_of_lt_of_le L.fo ge)) (Nat.ne_of_gt (Nat.lt_of_lt_of_le L.f1 ge)) (Nat.ne_of_gt (Nat.lt_of_lt_of_le L.f2 ge)) e3⟩
  | succ k ih =>
    intro i h c acc as hk hi Z ha hb kp hS hacc hal G hlo
    have lt : i < n := by omega
    have hx : xs[i]? = some (xs[i]'(by omega)) := Array.getElem?_eq_getElem _
    have hy : ys[i]? = some (ys[i]'(by omega)) := Array.getElem?_eq_getElem _
    have hsz : acc.size = i := by rw [← Array.length_toList, hacc, List.length_map, hal]
    refine codeAny_builtin PySem.F.entry_extend_loop ?_; rw [Around.under_plainId PySem.F.plain_extend_loop _]
    show wpAny _ A.in1 (pyNext (.ref z) >>= _) _ _ _
    refine wpAny_bind (zat_item (s := { s with heap := h }) (S := S) D Z (Heap.lt_size hS) ha hb hx hy fun h' Z' hN k' => ?_)
    dsimp only at hN k' ⊢
    have hS' := k' S _ L.nz.symm L.nO.symm L.n1.symm L.n2.symm hS
    have up : ∀ d o, d ≠ S → h'.get? d = some o → (h'.update S (Obj.mapSeq (·.push (Value.ref h.objs.size)))).get? d = some o := fun d o hd e => (Heap.get?_update_other _ _ (Ne.symm hd)).trans e
    have lS : S < h.objs.size := Heap.lt_size hS
    show wpAny _ A.in1 (updateSeq S (·.push (Value.ref h.objs.size)) >>= _) _ _ _
    refine wpAny_bind (wpAny_updateSeq hS' rfl (wpAny_pure ⟨plainId_quiet PySem.F.plain_extend_loop _, ih (i + 1) _ _ (acc.push (Value.ref h.objs.size)) (as ++ [h.objs.size]) (by omega) lt (Z'.keep up L.nz L.nI L.nO L.n1 L.n2)
      (ha.at fun o e => up a o L.na (k' a o D.l1z D.l1TO D.l1i1 D.l1i2 e)) (hb.at fun o e => up b o L.nb (k' b o D.l2z D.l2TO D.l2i1 D.l2i2 e)) (fun d o d0 d1 d2 d3 d4 e => up d o d0 (k' d o d1 d2 d3 d4 (kp d o d0 d1 d2 d3 d4 e)))
      (Heap.get?_update_self _ hS' rfl) (by rw [Array.toList_push, hacc, List.map_append]; rfl) (by rw [List.length_append, hal]; rfl) ⟨?_, ?_, ?_⟩ ?_⟩) ?_ ?_)
    · exact List.pairwise_append.mpr ⟨G.rise, List.pairwise_singleton _ _, fun u hu v hv => by rw [List.mem_singleton.mp hv]; exact G.there hu⟩
    · intro u hu
      rcases List.mem_append.mp hu with hu | hu
      · exact G.above u hu
      · rw [List.mem_singleton.mp hu]; exact hlo
    · intro j d hj
      by_cases h1 : j < as.length
      · rw [List.getElem?_append_left h1] at hj
        obtain ⟨u, v, e1, e2, e3⟩ := G.pair j d hj
        have ge := G.above d (List.mem_of_getElem? hj)
        exact ⟨u, v, e1, e2, up d _ (Nat.ne_of_gt (Nat.lt_of_lt_of_le L.fs ge)) (k' d _ (Nat.ne_of_gt (Nat.lt_of_lt_of_le L.fz ge)) (Nat.ne_of_gt (Nat.lt_of_lt_of_le L.fo ge)) (Nat.ne_of_gt (Nat.lt_of_lt_of_le L.f1 ge)) (Nat.ne_of_gt (Nat.lt_of_lt_of_le L.f2 ge)) e3)⟩
      · rw [List.getElem?_append_right (by omega)] at hj
        have e0 : j - as.length = 0 := by
          cases e : j - as.length with
          | zero => rfl
          | succ m => rw [e] at hj; simp at hj
        rw [e0] at hj
        have hd : h.objs.size = d := by simpa using hj
        have hji : j = i := by omega
        subst hd
        subst hji
        exact ⟨_, _, hx, hy, up _ _ (Nat.ne_of_gt lS) hN⟩
    · have e : (h'.update S (Obj.mapSeq (·.push (Value.ref h.objs.size)))).get? h.objs.size = _ := up _ _ (Nat.ne_of_gt lS) hN
      exact Nat.le_trans hlo (Nat.le_of_lt (Heap.lt_size e))
    · rw [hsz]; exact Nat.le_of_lt (lt1000 (by omega))
    · show (acc.push (Value.ref h.objs.size)).size ≤ sizeLine + 1
      rw [Array.size_push, hsz]
      have := lt1000 (show i ≤ 1000 by omega)
      omega
end
end R1

namespace R1
open PySem PySem.Spec PyProof.Rows L2
section
variable {prog : Program} {w : World} {A : Around} {E : Value → Shared → Prop} {s : Shared} {z TI TO i1 i2 a b S : Addr} {n : Nat} {xs ys : Array Value} {u v : Value}
theorem zip_hint (hz : s.TypeIs (.ref z) "zip") {Q : Bool → Shared → Prop} (q : Q true s) : wpAny (model prog w) A (Builtin.List.listLengthHint (.ref z)) Q E s := by
  unfold Builtin.List.listLengthHint
  refine wpAny_bind (wpAny_specialOf hz zip_has_no_len ?_)
  show wpAny _ A (specialOf (Value.ref z) (Str.ofString "__length_hint__") >>= _) _ _ _
  exact wpAny_bind (wpAny_specialOf hz zip_has_no_hint (wpAny_pure q))
def ZKept (S z TO i1 i2 : Addr) (h h' : Heap) : Prop := ∀ d o, d ≠ S → d ≠ z → d ≠ TO → d ≠ i1 → d ≠ i2 → h.get? d = some o → h'.get? d = some o
theorem zextend {R : Result → Shared → Prop} {c0 : Nat} (hh : A.handled = none) (D : ZipApart z TI TO i1 i2 a b) (L : ZLow s.heap.objs.size S z TI TO i1 i2 a b) (hz : IsZip s.heap z TI TO .none) (ti : IsPair s.heap TI (.ref i1) (.ref i2)) (hO : IsPair s.heap TO u v)
    (t1 : s.heap.IsTupleIter i1 a 0) (t2 : s.heap.IsTupleIter i2 b 0) (ha : s.heap.IsTuple a xs) (hb : s.heap.IsTuple b ys) (ex : xs.size = n) (ey : ys.size = n) (hn : n ≤ 1000) (res : Value) (hS : s.heap.get? S = some { cls := .type "list", data := .seq #[] c0 })
    (hR : ∀ h' acc c as, ZKept S z TO i1 i2 s.heap h' → h'.get? S = some { cls := .type "list", dict := none, data := .seq acc c, slots := #[] } → as.length = n → Prs h' s.heap.objs.size xs ys as → acc.toList = as.map Value.ref → R (.ok (.ret res)) { s with heap := h' }) :
    wpAny (model prog w) A.in1 (Builtin.List.listExtendWith (.ref S) (.ref z) res)
      (fun r s' => match r with | .done f => R (.ok f) s' | .again c' => c'.quiet = true ∧ codeAny (model prog w) A c' R s') (fun e s' => R (.error e) s') s := by
  have ty : s.TypeIs (.ref z) "zip" := ⟨_, hz, rfl⟩
  have n1 : Builtin.List.listSameRef (.ref S) (.ref z) = false := by simp [Builtin.List.listSameRef, L.nz.symm]
  have n2 : (Value.type "zip" == Value.type "list") = false := by decide
  have n3 : (Value.type "zip" == Value.type "tuple") = false := by decide
  unfold Builtin.List.listExtendWith
  refine wpAny_bind (wpAny_typeOf ty ?_); simp only [n1, n2, n3, Bool.or_false, Bool.false_eq_true, if_false]
  refine wpAny_bind (wpAny_pyIter_zip hz ?_); refine wpAny_bind (wpAny_holding (zip_hint ty ?_)); simp only [Bool.true_or, if_true]
  refine wpAny_bind (wpAny_rule ?_)
  refine wpAny_bind ?_; show wpAny _ A.in1 (updateSeq S (·.push .none) >>= fun _ => updateSeq S (·.pop)) _ _ s
  refine wpAny_bind (wpAny_updateSeq hS rfl ?_)
  have g2 := Heap.get?_update_self (Obj.mapSeq (·.push Value.none)) hS rfl
  refine wpAny_updateSeq (hz := by seq_fits) g2 rfl ?_
  have g3 := Heap.get?_update_self (Obj.mapSeq (·.pop)) g2 rfl
  have ot : ∀ d o, d ≠ S → s.heap.get? d = some o → ((s.heap.update S (Obj.mapSeq (·.push Value.none))).update S (Obj.mapSeq (·.pop))).get? d = some o := fun d o hd e =>
    (Heap.get?_update_other _ _ (Ne.symm hd)).trans ((Heap.get?_update_other _ _ (Ne.symm hd)).trans e)
  generalize eh : (s.heap.update S (Obj.mapSeq (·.push Value.none))).update S (Obj.mapSeq (·.pop)) = hf at g3 ot ⊢
  have sz : s.heap.objs.size ≤ hf.objs.size := by rw [← eh]; simp [Heap.update]
  have Z0 : ZAt (S := S) s.heap z TI TO i1 i2 a b 0 := ⟨ti, t1, t2, .inl ⟨hz, u, v, hO⟩⟩
  exact wpAny_pure ⟨plainId_quiet PySem.F.plain_extend_loop _, zloop (s := s) (h1 := s.heap) hh D L ex ey hn res (fun h' acc c as kp hS' hl G hacc => hR h' acc c as kp hS' hl G hacc) n 0 hf _ _ [] (Nat.sub_zero _) (Nat.zero_le _) (Z0.keep ot L.nz L.nI L.nO L.n1 L.n2)
    (ha.at fun o e => ot a o L.na e) (hb.at fun o e => ot b o L.nb e) (fun d o d0 _ _ _ _ e => ot d o d0 e) g3 rfl rfl ⟨List.Pairwise.nil, (fun _ h => nomatch h), fun j c hj => by simp at hj⟩ sz⟩
theorem zcall {Q : Value → Shared → Prop} (hh : A.handled = none) (D : ZipApart z TI TO i1 i2 a b) (hz : IsZip s.heap z TI TO .none) (ti : IsPair s.heap TI (.ref i1) (.ref i2)) (hO : IsPair s.heap TO u v)
    (t1 : s.heap.IsTupleIter i1 a 0) (t2 : s.heap.IsTupleIter i2 b 0) (ha : s.heap.IsTuple a xs) (hb : s.heap.IsTuple b ys) (ex : xs.size = n) (ey : ys.size = n) (hn : n ≤ 1000)
    (q : ∀ h' acc c as, (∀ d o, d ≠ z → d ≠ TO → d ≠ i1 → d ≠ i2 → s.heap.get? d = some o → h'.get? d = some o) → h'.get? s.heap.objs.size = some { cls := .type "list", dict := none, data := .seq acc c, slots := #[] } → as.length = n → Prs h' (s.heap.objs.size + 1) xs ys as →
      acc.toList = as.map Value.ref → Q (.ref s.heap.objs.size) { s with heap := h' }) : wpAny (model prog w) A (call (.type "list") [.ref z]) Q E s := by
  have lz : z < s.heap.objs.size := Heap.lt_size hz
  have lI : TI < s.heap.objs.size := Heap.lt_size ti
  have lO : TO < s.heap.objs.size := Heap.lt_size hO
  have l1 : i1 < s.heap.objs.size := by obtain ⟨_, e, _⟩ := t1; exact Heap.lt_size e
  have l2 : i2 < s.heap.objs.size := by obtain ⟨_, e, _⟩ := t2; exact Heap.lt_size e
  have la : a < s.heap.objs.size := by obtain ⟨_, e, _⟩ := id ha; exact Heap.lt_size e
  have lb : b < s.heap.objs.size := by obtain ⟨_, e, _⟩ := id hb; exact Heap.lt_size e
  refine callType_codes (Q₁ := fun obj s2 => obj = .ref s.heap.objs.size ∧ s2 = { s with heap := s.heap.push { cls := .type "list", data := .seq #[] } }) PySem.F.called_list (PySem.F.typeCall_list_1 _) PySem.F.entry_list_init (code_list_new _ ⟨rfl, rfl⟩) fun obj s2 h2 => ?_
  obtain ⟨rfl, rfl⟩ := h2
  have hS : (s.heap.push { cls := .type "list", data := .seq #[] }).get? s.heap.objs.size = some { cls := .type "list", data := .seq #[] } := Heap.get?_push_size _ rfl
  have pz : (s.heap.push { cls := .type "list", data := .seq #[] }).objs.size = s.heap.objs.size + 1 := Heap.size_push ..
  have up : ∀ d o, s.heap.get? d = some o → (s.heap.push { cls := .type "list", data := .seq #[] }).get? d = some o := fun d o e => Heap.get?_push_of_some _ e
  generalize eg : s.heap.push { cls := .type "list", data := .seq #[] } = g at hS pz up ⊢
  refine ⟨⟨_, hS, rfl⟩, PySem.F.args_list_init_2 _ _, ?_⟩
  show wpAny _ _ (do let old ← Builtin.List.listItems (.ref s.heap.objs.size); Builtin.List.listUpdate (.ref s.heap.objs.size) (fun _ => #[]); letGo old.toList.reverse; Builtin.List.listExtendWith (.ref s.heap.objs.size) (.ref z) .none) _ _ _
  refine wpAny_bind ?_; unfold Builtin.List.listItems
  refine wpAny_bind (wpAny_seqItems hS rfl (wpAny_pure ?_))
  show wpAny _ _ (updateSeq s.heap.objs.size (fun _ => #[]) >>= fun _ => letGo (#[] : Array Value).toList.reverse >>= fun _ => Builtin.List.listExtendWith (.ref s.heap.objs.size) (.ref z) .none) _ _ _
  refine wpAny_bind (wpAny_updateSeq hS rfl ?_)
  have hS2 := Heap.get?_update_self (Obj.mapSeq (fun _ => (#[] : Array Value))) hS rfl
  have ot : ∀ d o, d ≠ s.heap.objs.size → g.get? d = some o → (g.update s.heap.objs.size (Obj.mapSeq (fun _ => (#[] : Array Value)))).get? d = some o := fun d o hd e => (Heap.get?_update_other _ _ (Ne.symm hd)).trans e
  have sz2 : (g.update s.heap.objs.size (Obj.mapSeq (fun _ => (#[] : Array Value)))).objs.size = s.heap.objs.size + 1 := by rw [← pz]; simp [Heap.update]
  refine wpAny_bind (wpAny_letGo ?_)
  generalize g.update s.heap.objs.size (Obj.mapSeq (fun _ => (#[] : Array Value))) = g2 at hS2 ot sz2 ⊢
  have k2 : ∀ d o, s.heap.get? d = some o → g2.get? d = some o := fun d o e => ot d o (Nat.ne_of_lt (Heap.lt_size e)) (up d o e)
  refine zextend (A := A.in1) (R := wants (fun r s₂ => r = Value.none ∧ Q (Value.ref s.heap.objs.size) s₂) E) (s := { s with heap := g2 }) (n := n) hh D ⟨?_, ?_, ?_, ?_, ?_, Nat.ne_of_lt lz, Nat.ne_of_lt lI, Nat.ne_of_lt lO, Nat.ne_of_lt l1, Nat.ne_of_lt l2, Nat.ne_of_lt la, Nat.ne_of_lt lb⟩ (k2 _ _ hz) (k2 _ _ ti) (k2 _ _ hO)
    (t1.at fun o e => k2 _ o e) (t2.at fun o e => k2 _ o e) (ha.at fun o e => k2 _ o e) (hb.at fun o e => k2 _ o e) ex ey hn .none hS2 fun h' acc c as kp hS' hl G hacc => ⟨rfl, q h' acc c as (fun d o d1 d2 d3 d4 e => kp d o (Nat.ne_of_lt (Heap.lt_size e)) d1 d2 d3 d4 (k2 d o e)) hS' hl (by rw [← sz2]; exact G) hacc⟩
  all_goals (show _ < g2.objs.size; rw [sz2])
  · exact Nat.lt_succ_self _
  · exact Nat.lt_succ_of_lt lz
  · exact Nat.lt_succ_of_lt lO
  · exact Nat.lt_succ_of_lt l1
  · exact Nat.lt_succ_of_lt l2
end
/-! ### tracked -/
def putP : Hp → List Addr → List (V × V) → Hp
  | H, c :: cs, p :: ps => putP (upd H c (.tup [p.1, p.2])) cs ps
  | H, _, _ => H
theorem putP_off {d : Addr} : ∀ (cs : List Addr) (ps : List (V × V)) (H : Hp), d ∉ cs → putP H cs ps d = H d
  | [], _, _, _ => rfl
  | _ :: _, [], _, _ => rfl
  | c :: cs, p :: ps, H, h => by
    have h2 : d ≠ c ∧ d ∉ cs := ⟨fun e => h (e ▸ List.mem_cons_self), fun e => h (List.mem_cons_of_mem _ e)⟩
    show putP (upd H c (.tup [p.1, p.2])) cs ps d = H d
    rw [putP_off cs ps _ h2.2, upd_ne h2.1]
theorem putP_at : ∀ (cs : List Addr) (ps : List (V × V)) (H : Hp), cs.Nodup → ∀ (j : Nat) (c : Addr) (p : V × V), cs[j]? = some c → ps[j]? = some p → putP H cs ps c = some (.tup [p.1, p.2])
  | [], _, _, _, _, _, _, h, _ => by simp at h
  | _ :: _, [], _, _, _, _, _, _, h => by simp at h
  | c :: cs, p :: ps, H, nd, 0, d, r, h1, h2 => by
    cases h1; cases h2
    show putP (upd H c (.tup [p.1, p.2])) cs ps c = _
    rw [putP_off cs ps _ (List.nodup_cons.mp nd).1, upd_same]
  | c :: cs, p :: ps, H, nd, j + 1, d, r, h1, h2 => putP_at cs ps _ (List.nodup_cons.mp nd).2 j d r (by simpa using h1) (by simpa using h2)
theorem refs_vals : ∀ as : List Addr, Vals (as.map V.ref) (as.map Value.ref)
  | [] => .nil
  | _ :: as => .cons rfl (refs_vals as)
theorem LiI_get : ∀ {vs : List V} {us : List Value}, Vals vs us → ∀ {j : Nat} {u : Value}, us[j]? = some u → ∃ v, vs[j]? = some v ∧ RelV v u
  | _, _, .nil, j, u, h => by simp at h
  | _, _, .cons r t, 0, u, h => by cases h; exact ⟨_, rfl, r⟩
  | _, _, .cons r t, j + 1, u, h => by simpa using LiI_get t (by simpa using h)
section
variable {X : Cx}
theorem zip_laid {pins : List (Addr × Obj)} {σ : L2.St} {H : Hp} {s : Shared} {h' : Heap} {l : Addr} {acc : Array Value} {c tk : Nat} {as : List Addr} {vs ws : List V} {us rs : List Value} (I : Inv X pins σ H s) (rv : Vals vs us) (rw' : Vals ws rs) (hl : as.length ≤ 1000) (hk : ∀ d o, s.heap.get? d = some o → h'.get? d = some o)
    (ll : s.heap.objs.size ≤ l) {lw : Addr} (hlw : l < lw) (hS : h'.get? l = some { cls := .type "list", dict := none, data := .seq acc c, slots := #[] }) (G : Prs h' lw us.toArray rs.toArray as) (hacc : acc.toList = as.map Value.ref) :
    ∃ H' : Hp, Same H H' ∧ H l = none ∧ H' l = some (.lst (as.map V.ref)) ∧ (∀ (j : Nat) (d : Addr) (x y : V), as[j]? = some d → vs[j]? = some x → ws[j]? = some y → H' d = some (.tup [x, y])) ∧ Inv X pins σ H' { s with heap := h', toks := tk } := by
  have nd : as.Nodup := List.Pairwise.imp (fun {d e} (h : d < e) => Nat.ne_of_lt h) G.rise
  have lo : ∀ d ∈ as, s.heap.objs.size ≤ d ∧ d ≠ l := fun d hd => by
    have q : l < d := Nat.lt_of_lt_of_le hlw (G.above d hd)
    exact ⟨Nat.le_of_lt (Nat.lt_of_le_of_lt ll q), Nat.ne_of_gt q⟩
  have nl : H l = none := I.hok.fresh ll
  have nw : ∀ d ∈ as, H d = none := fun d hd => I.hok.fresh (lo d hd).1
  have zl : (vs.zip ws).length = min vs.length ws.length := List.length_zip
  have gz : ∀ (j : Nat) (x y : V), vs[j]? = some x → ws[j]? = some y → (vs.zip ws)[j]? = some (x, y) := fun j x y h1 h2 => List.getElem?_zip_eq_some.mpr ⟨h1, h2⟩
  generalize eH : putP (upd H l (.lst (as.map V.ref))) as (vs.zip ws) = H'
  have off : ∀ d, d ∉ as → d ≠ l → H' d = H d := fun d h1 h2 => by rw [← eH, putP_off as _ _ h1, upd_ne h2]
  have atl : H' l = some (.lst (as.map V.ref)) := by rw [← eH, putP_off as _ _ (fun z => (lo l z).2 rfl), upd_same]
  have att : ∀ (j : Nat) (d : Addr) (x y : V), as[j]? = some d → vs[j]? = some x → ws[j]? = some y → H' d = some (.tup [x, y]) := fun j d x y h1 h2 h3 => by
    rw [← eH]; exact putP_at as _ _ nd j d (x, y) h1 (gz j x y h2 h3)
  have kp : Same H H' := fun d o e => by
    rw [off d (fun z => by rw [nw d z] at e; cases e) (fun z => by rw [z, nl] at e; cases e)]; exact e
  refine ⟨H', kp, nl, atl, att, I.call' (ch := []) rfl ⟨fun d o e _ _ _ => hk d o e, fun d o e _ _ _ => ⟨o.slots, hk d o e⟩, fun d o e n _ => ?_, fun d o e _ => ⟨o, hk d o e⟩, fun d r e => kp d _ e, fun d o r e => kp d _ e, fun d r e => ⟨#[], by rw [kp d _ e]; simp⟩⟩ (fun d o e => ?_) I.bare fun d z => by simp at z⟩
  · have q := Heap.lt_size e
    rw [off d (fun z => absurd q (Nat.not_lt.mpr (lo d z).1)) (fun z => absurd q (Nat.not_lt.mpr (z ▸ ll)))]; exact n
  · by_cases hd : d ∈ as
    · obtain ⟨j, hj⟩ := List.mem_iff_getElem?.mp hd
      obtain ⟨x, y, e1, e2, e3⟩ := G.pair j d hj
      obtain ⟨p, hp, rp⟩ := LiI_get rv (by simpa using e1)
      obtain ⟨r, hr, rr⟩ := LiI_get rw' (by simpa using e2)
      rw [att j d p r hj hp hr] at e
      cases e
      exact ⟨by show 2 ≤ sizeLine; decide, [x, y], .cons rp (.cons rr .nil), ⟨_, e3, rfl, _, rfl⟩⟩
    · by_cases h2 : d = l
      · subst h2
        rw [atl] at e
        cases e
        refine ⟨by rw [List.length_map]; exact Nat.le_of_lt (lt1000 hl), acc.toList, c, by rw [hacc]; exact refs_vals as, ?_⟩
        rw [Array.toArray_toList]; exact hS
      · rw [off d hd h2] at e
        exact (I.hok d o e).stay (fun g v _ y => hk g v y) (fun g y => kp g _ y) fun g r y => kp g _ y
def tListZip (K : PySem.W.Frag) (ta : TA) : TE := fun σ H Q => ta σ H fun vs H1 => ∃ a b xs ys, vs = [.ref a, .ref b] ∧ SqT K H1 a xs ∧ SqT K H1 b ys ∧ xs.length = ys.length ∧ xs.length ≤ 1000 ∧
  ∀ (H2 : Hp) (l : Addr) (as : List Addr), Same H1 H2 → H1 l = none → as.length = xs.length → H2 l = some (.lst (as.map V.ref)) → (∀ (j : Nat) (d : Addr) (x y : V), as[j]? = some d → xs[j]? = some x → ys[j]? = some y → H2 d = some (.tup [x, y])) → Q (.ref l) H2
theorem pe_listZip {e e2 : Expr} {ta : TA} {p p2 pos pos2 : Pos} (hc : X.calm = true) (hg : Gl X "list") (hm : X.mg "list" = none) (hg2 : Gl X "zip") (hm2 : X.mg "zip" = none) (ha : PA X [e, e2] ta)
    (na : starEach [.Call (.Name "zip" p2) [e, e2] [] pos2] X.env = (false, eval (.Call (.Name "zip" p2) [e, e2] [] pos2) X.env) :: starEach [] X.env := by rfl)
    (hs : starEach [e, e2] X.env = (false, eval e X.env) :: starEach [e2] X.env := by rfl) (hpl : (backTo pos2 (starEach [e2] X.env)).any (·.1) = false := by rfl) :
    PE X (.Call (.Name "list" p) [.Call (.Name "zip" p2) [e, e2] [] pos2] [] pos) (tListZip X.K ta) := by
  refine ⟨fun pins s σ H Q I h => ?_⟩
  refine Call_ (ld_blt I hg hm PyProof.Rows.boot_list ?_)
  refine PyProof.Rows.callWith_type1 (PyProof.Rows.args_cons ?_ na) na rfl
  refine Call_ (ld_blt I hg2 hm2 PyProof.Rows.boot_zip (PyProof.Rows.callWith_type1 (thn (ha.run pos2 pins s σ H _ I h) fun us s1 ⟨vs, H1, I1, r1, q1⟩ => ?_) hs hpl))
  obtain ⟨a, b, xs, ys, rfl, hqx, hqy, hl, hl2, q⟩ := q1
  obtain ⟨u1, u2, rfl, e1, e2⟩ := vals2 r1
  obtain rfl : u1 = Value.ref a := e1
  obtain rfl : u2 = Value.ref b := e2
  obtain ⟨its, rv, p1, _⟩ := I1.tuple hqx
  obtain ⟨its2, rv2, p2', _⟩ := I1.tuple hqy
  obtain ⟨o1, ho1, _⟩ := id p1
  obtain ⟨o2, ho2, _⟩ := id p2'
  have y1 := rv.length
  have y2 := rv2.length
  refine RZ.call_zipT (show s1.heap.IsTuple a its.toArray from p1) (show s1.heap.IsTuple b its2.toArray from p2') fun h' hz hTI hTO h1 h2 hsz hk => ?_
  refine PyProof.Rows.args_nil ?_
  refine zcall (s := { s1 with heap := h' }) (n := xs.length) (xs := its.toArray) (ys := its2.toArray) (I1.ok.hd hc) (PySem.W.ktu_apart s1.heap.objs.size a b (Heap.lt_size ho1) (Heap.lt_size ho2)) hz hTI hTO h1 h2 (let ⟨o, ho, r⟩ := p1; ⟨o, hk a o ho, r⟩) (let ⟨o, ho, r⟩ := p2'; ⟨o, hk b o ho, r⟩) (by rw [List.size_toArray]; omega) (by rw [List.size_toArray]; omega) hl2 fun h3 acc c as k3 hS hal G hacc => ?_
  have I2 : Inv X pins σ H1 { s1 with heap := h' } := I1.kept (t' := s1.toks) hk
  have ne : ∀ d o, s1.heap.get? d = some o → h3.get? d = some o := fun d o e => by
    have q := Heap.lt_size e
    have nq : ∀ m : Nat, d ≠ s1.heap.objs.size + m := fun m z => absurd q (Nat.not_lt.mpr (z ▸ Nat.le_add_right _ _))
    exact k3 d o (nq 4) (nq 3) (nq 0) (nq 1) (hk d o e)
  obtain ⟨H2, sm, n0, at0, att, J⟩ := zip_laid (tk := s1.toks) I1 rv rv2 (by omega) ne (by rw [hsz]; omega) (Nat.lt_succ_self _) hS G hacc
  exact ⟨.ref h'.objs.size, H2, J, rfl, q H2 _ as sm n0 hal at0 att⟩
end
end R1

/-! text * int, the int any count -/
namespace R1
open PySem PySem.Spec PyProof.Rows L2
def repT (n : Nat) (z : List Nat) : List Nat := (List.replicate n z).flatten
theorem rep_fold (z : Array Nat) : ∀ (n : Nat) (b : Array Nat), ((List.replicate n z).foldl (· ++ ·) b).toList = b.toList ++ (List.replicate n z.toList).flatten
  | 0, b => by simp
  | n + 1, b => by
    rw [List.replicate_succ, List.foldl_cons, rep_fold z n, Array.toList_append, List.replicate_succ, List.flatten_cons, List.append_assoc]
theorem rep_len (z : List Nat) : ∀ n : Nat, (repT n z).length = n * z.length
  | 0 => by simp [repT]
  | n + 1 => by
    have := rep_len z n
    unfold repT at *
    rw [List.replicate_succ, List.flatten_cons, List.length_append, this, Nat.add_mul]
    omega
theorem op_rep {X : Cx} : OpR X (binaryOp .Mult) (fun x y H Q => ∃ (z : List Nat) (n : Nat), x = .str ⟨z.toArray⟩ ∧ y = .int n ∧ n ≤ 1000 ∧ 1 ≤ z.length ∧ z.length ≤ 1000 ∧ Q (.str ⟨(repT n z).toArray⟩) H) := by
  intro pins s σ H x y v u Q I rx ry h
  obtain ⟨z, n, rfl, rfl, h2, h3, h4, q⟩ := h
  obtain ⟨t, rfl⟩ := rx
  obtain ⟨t', rfl⟩ := ry
  have ez : (⟨z.toArray⟩ : Str).length = z.length := by show z.toArray.size = _; simp
  have e24 : sizeLine = 16777216 := by decide
  have hm : z.length * n ≤ 1000 * 1000 := Nat.mul_le_mul h4 h2
  refine PySem.P.mul_str ?_ (fun h1 _ => ?_) (fun _ _ => ?_) ?_
  · rw [decide_eq_false (by omega), decide_eq_false (by omega)]
    rfl
  · have : (1000 : Int) ≤ (2 ^ 63 - 1) / (n : Int) := by
      rw [Int.le_ediv_iff_mul_le (by omega)]
      omega
    rw [ez]
    omega
  · refine decide_eq_false ?_
    rw [e24, ez, Int.toNat_natCast]
    omega
  · have fin : ∀ s' : Shared, s' = { s with toks := s.toks + 1 } → EP X pins σ Q (.str ⟨(repT n z).toArray⟩ s.toks) s' := fun s' e => by
      subst e
      exact ⟨.str ⟨(repT n z).toArray⟩, H, I.tok _, ⟨_, rfl⟩, q⟩
    by_cases h0 : n = 0
    · subst h0
      rw [if_pos (by decide)]
      exact ⟨by decide, fin _ rfl⟩
    · rw [if_neg (by omega)]
      by_cases h1 : n = 1
      · subst h1
        rw [if_pos (by rfl)]
        have e1 : repT 1 z = z := by simp [repT]
        rw [e1] at q
        exact ⟨.str ⟨z.toArray⟩, H, I, ⟨_, rfl⟩, q⟩
      · have c1 : ((n : Int) == 1 || (⟨z.toArray⟩ : Str).length == 0) = false := by
          rw [Bool.or_eq_false_iff, ez]
          exact ⟨by rw [beq_eq_false_iff_ne]; omega, by rw [beq_eq_false_iff_ne]; omega⟩
        rw [c1, if_neg Bool.false_ne_true]
        have eq : (⟨(List.replicate (n : Int).toNat (⟨z.toArray⟩ : Str).cps).foldl (· ++ ·) #[]⟩ : Str) = ⟨(repT n z).toArray⟩ := by
          congr 1
          apply Array.toList_inj.mp
          rw [rep_fold, Int.toNat_natCast]
          simp [repT]
        rw [eq]
        refine ⟨?_, fin _ rfl⟩
        show (repT n z).toArray.size ≤ sizeLine
        rw [e24, List.size_toArray, rep_len, Nat.mul_comm]
        omega
end R1

/-! t[::-1], t a tuple -/
namespace R1
open PySem PySem.Spec PyProof.Rows L2 HT
section
variable {prog : Program} {w : World} {A : Around} {E : Value → Shared → Prop} {s : Shared}
theorem adjust_rev (n : Nat) : Builtin.Slice.sliceAdjust none none (-1) (n : Int) = ((n : Int) - 1, -1) := by
  unfold Builtin.Slice.sliceAdjust
  simp
theorem places_rev (n : Nat) : Builtin.Slice.slicePlaces ((n : Int) - 1) (-1) (-1) = n := by
  unfold Builtin.Slice.slicePlaces
  have h1 : ¬ ((-1 : Int) > 0) := by decide
  simp only [h1, if_false]
  split
  · rw [show (-(-1 : Int)) = 1 by decide, Int.ediv_one]
    omega
  · omega
theorem applied_rev {sl : Addr} {v : Value} {n : Nat} {Q : Int × Int × Nat → Shared → Prop} (hs : s.heap.IsSliceOf sl .none .none v) (p : IsPart v (some (-1))) (q : Q ((n : Int) - 1, -1, n) s) : wpAny (model prog w) A (Builtin.Slice.sliceApplied (.ref sl) (pure (n : Int))) Q E s := by
  obtain ⟨os, hos, hcs, hds⟩ := id hs
  unfold Builtin.Slice.sliceApplied Builtin.Slice.sliceFields
  refine wpAny_bind (wpAny_bind (wpAny_field hos hds (x := .none) rfl (wpAny_bind (wpAny_field hos hds (x := .none) rfl (wpAny_bind (wpAny_field hos hds (x := v) rfl (wpAny_pure ?_)))))))
  refine wpAny_bind (slicePart_ p ?_)
  show wpAny _ _ (if ((-1 : Int) == 0) = true then _ else _) _ _ s
  rw [if_neg (by decide)]
  refine wpAny_bind (slicePart_none (wpAny_bind (slicePart_none (wpAny_bind (wpAny_pure ?_)))))
  show wpAny _ _ (match Builtin.Slice.sliceAdjust none none (-1) (n : Int) with | (l, u) => pure (l, (-1 : Int), Builtin.Slice.slicePlaces l u (-1))) _ _ s
  rw [adjust_rev n]
  show wpAny _ _ (pure ((n : Int) - 1, (-1 : Int), Builtin.Slice.slicePlaces ((n : Int) - 1) (-1) (-1))) _ _ s
  rw [places_rev]
  exact wpAny_pure q
theorem pick_rev (xs : Array Value) : ((List.range xs.size).filterMap fun (m : Nat) => xs[(((xs.size : Int) - 1) + (m : Int) * (-1)).toNat]?).toArray = xs.toList.reverse.toArray := by
  congr 1
  have e : (fun (m : Nat) => xs[(((xs.size : Int) - 1) + (m : Int) * (-1)).toNat]?) = fun m => xs[xs.size - 1 - m]? := by
    funext m
    have : (((xs.size : Int) - 1) + (m : Int) * (-1)).toNat = xs.size - 1 - m := by omega
    rw [this]
  rw [e]
  have f : (List.range xs.size).filterMap (fun m => xs[xs.size - 1 - m]?) = ((List.range xs.size).map fun k => xs.size - 1 - k).filterMap (xs[·]?) := by
    rw [List.filterMap_map]; rfl
  rw [f, PySem.W.krv_range, List.filterMap_reverse, PySem.W.krv_all]
theorem getItem_rev {t sl : Addr} {items : Array Value} {v : Value} {Q : Value → Shared → Prop} (ht : IsTup s.heap t items) (hs : s.heap.IsSliceOf sl .none .none v) (p : IsPart v (some (-1)))
    (h : Q (.ref s.heap.objs.size) { s with heap := s.heap.push { cls := .type "tuple", data := .seq items.toList.reverse.toArray } }) (hz : items.size ≤ sizeLine) : wpAny (model prog w) A (getItem (.ref t) (.ref sl)) Q E s := by
  have hz2 : sizeOk (.seq items.toList.reverse.toArray) := by
    show items.toList.reverse.toArray.size ≤ sizeLine
    rw [List.size_toArray, List.length_reverse, Array.length_toList]; exact hz
  obtain ⟨os, hos, hcs, hds⟩ := id hs
  have ty : s.TypeIs (.ref sl) "slice" := ⟨os, hos, hcs⟩
  unfold getItem
  try with_reducible refine wpAny_holding ?_
  first | refine wpAny_bind (wpAny_pure ?_) | skip
  refine wpAny_bind (wpAny_sequenceKey ht.typeIs (by decide) ?_)
  refine wpAny_bind (wpAny_callSpecial?_slot (name := Str.ofString "__getitem__") ht.typeIs PyProof.Rows.slot_tuple_getitem (wpAny_call_entry PyProof.Rows.slot_tuple_getitem ht.typeIs entry_tuple_getitem ?_ (args_tuple_getitem _ _)))
  show wpAny _ _ (Builtin.Tuple.tupleItemsOf (.ref t) >>= _) _ _ s
  refine wpAny_bind (tupleItemsOf_ ht ?_)
  refine wpAny_bind (wpAny_typeOf ty ?_)
  rw [if_pos (by decide)]
  refine wpAny_bind (applied_rev hs p ?_)
  have hno : ¬ ((((items.size : Int) - 1) == 0 && (-1 : Int) == 1 && items.size == items.size) = true) := by
    rw [show ((-1 : Int) == 1) = false from by decide]
    simp
  show wpAny _ _ (if (((items.size : Int) - 1) == 0 && (-1 : Int) == 1 && items.size == items.size) = true then _ else _) _ _ s
  rw [if_neg hno, pick_rev]
  first
    | exact wpAny_bind (m := Builtin.Tuple.tupleExact _) (wpAny_newObj_type (wpAny_pure ⟨_, rfl, wpAny_pure h⟩) hz2)
    | exact wpAny_bind (m := Builtin.Tuple.tupleExact _) (wpAny_newObj_type (wpAny_bind (wpAny_pure (wpAny_pure ⟨_, rfl, wpAny_pure h⟩))) hz2)
    | exact wpAny_bind (wpAny_bind (m := Builtin.Tuple.tupleExact _) (wpAny_newObj_type (wpAny_pure (wpAny_pure ⟨_, rfl, wpAny_pure h⟩)) hz2))
    | exact wpAny_bind (wpAny_bind (m := Builtin.Tuple.tupleExact _) (wpAny_newObj_type (wpAny_pure ⟨_, rfl, wpAny_pure h⟩) hz2))
end
def tRevT (K : PySem.W.Frag) (te : TE) : TE := fun σ H Q => te σ H fun x H1 => ∃ a xs, x = .ref a ∧ SqT K H1 a xs ∧ ∀ p, H1 p = none → Q (.ref p) (upd H1 p (.tup xs.reverse))
theorem pe_revT {X : Cx} {e : Expr} {te : TE} {k : Nat} {p1 p2 p3 pos : Pos} (he : PE X e te) : PE X (.Subscript e (.Slice none none (some (.UnaryOp .USub (.Constant (.int 1) k p1) p2)) p3) pos) (tRevT X.K te) := by
  refine ⟨fun pins s σ H Q I h => Subscript_ (thn (he.run pins s σ H _ I h) fun v s1 ⟨x, H1, I1, r1, a, xs, ex, hx, q⟩ => ?_)⟩
  subst ex
  cases r1
  have ps : PO X (some (.UnaryOp .USub (.Constant (.int 1) k p1) p2)) (tPart (tUn (rU fun i => .int (-i)) (tC (.int 1)))) := po_some (pe_un un_neg pe_int)
  refine wpAny_Slice (thn (po_none.run pins s1 σ H1 (fun o F => o = none ∧ F = H1) I1 ⟨rfl, rfl⟩) fun vl s2 ⟨l, H2, I2, pl, el, e2⟩ => ?_)
  subst el e2
  refine thn (po_none.run pins s2 σ H2 (fun o F => o = none ∧ F = H2) I2 ⟨rfl, rfl⟩) fun vu s3 ⟨u, H3, I3, pu, eu, e3⟩ => ?_
  subst eu e3
  refine thn (ps.run pins s3 σ H3 (fun o F => o = some (-1) ∧ F = H3) I3 ⟨1, rfl, -1, rfl, rfl, rfl⟩) fun vs s4 ⟨o, H4, I4, pp, eo, e4⟩ => ?_
  subst eo e4
  cases pl
  cases pu
  have J : Inv X pins σ H4 { s4 with heap := s4.heap.push { cls := .type "slice", data := .fields #[.none, .none, vs] } } := I4.kept (t' := s4.toks) fun b ob q => Heap.get?_push_of_some _ q
  obtain ⟨its, r, ht, hz⟩ := J.tuple hx
  have hl := r.length
  show wpAny (model X.prog X.w) X.A (subscriptTail e (.Slice none none (some (.UnaryOp .USub (.Constant (.int 1) k p1) p2)) p3) (.ref a) (.ref s4.heap.objs.size)) (EP X pins σ Q) X.xe { s4 with heap := s4.heap.push { cls := .type "slice", data := .fields #[.none, .none, vs] } }
  refine tail_any (ops := [.ref a, .ref s4.heap.objs.size]) ht.typeIs (PyProof.Rows.slot_tuple_getitem.lookup) ?_ (by with_unfolding_all rfl)
  refine getItem_rev ht (Heap.IsSliceOf.new _ .none .none vs) pp ?_ (by rw [List.size_toArray]; omega)
  refine ⟨.ref _, _, J.laid (t' := s4.toks) (o := .tup xs.reverse) (fun b ob q => Heap.get?_push_of_some _ q) (Nat.le_refl _) ?_, rfl, q _ (J.hok.fresh (Nat.le_refl _))⟩
  exact ⟨by rw [List.length_reverse]; exact hz, _, r.reverse, IsTup.new _ _⟩
end R1

/-! dict(d), a copy -/
namespace R1
open PySem PySem.Spec PyProof.Rows L2
theorem call_dict_of {X : Cx} : CallR X (.type "dict") (fun xs H Q => ∃ (a : Addr) (kvs : List (Key × V)), xs = [.ref a] ∧ H a = some (.dK kvs) ∧ ∀ p, H p = none → Q (.ref p) (upd H p (.dK kvs))) := by
  intro pins s σ H xs us Q I r h
  obtain ⟨a, kvs, rfl, ha, q⟩ := h
  obtain ⟨u, rfl, rx⟩ := vals1 r
  cases rx
  exact d_copyOf I (.inl ha) fun p s' np J => ⟨.ref p, _, J, rfl, q p np⟩
end R1

/-! C.m(..), m a staticmethod of the class at C -/
namespace R1
open PySem PySem.Spec PyProof.Rows L2 ClX
structure SMet (K : PySem.W.Frag) (C : Addr) (mc : Value) (m : Str) (p g : Addr) : Prop where
  at_ : PySem.W.findCls K (.ref C) mc m = some (.get (.builtin "staticmethod.__get__") (.ref p) .none (.ref C))
  rc : ∃ rest, PySem.W.recIn K p "staticmethod" = some (.ref g :: rest)
  kp : PySem.W.keepIn K (.ref g) = true
section
variable {X : Cx} {pins : List (Addr × Obj)} {σ : L2.St} {H : Hp} {s : Shared} {C p g : Addr} {mc : Value} {m : Str} {A : Around} {E : Value → Shared → Prop}
theorem getmethsm_ok {pl : Sem Bool} {Q : Value × List Value → Shared → Prop} (I : Inv X pins σ H s) (r : CRead X.K C mc) (k : SMet X.K C mc m p g) (h : ∀ s', Inv X pins σ H s' → Q (.ref g, []) s') : wpAny (model X.prog X.w) A (getMethod (.ref C) m pl) Q E s := by
  obtain ⟨rest, hp⟩ := k.rc
  refine PySem.W.method_cls I.kIn r.ga (PySem.W.cls_bind I.kIn r.rd k.at_ (wpAny_call (PySem.W.sm_get (s := { s with toks := s.toks + 1 }) I.kIn hp (PySem.W.handed_on rfl ?_))))
  exact h _ (I.tok _)
end
def tSMeth (C : Addr) (sp : Sp) (E : XK) (ta : TE) (t : TA) : TE := fun σ H Q => ta σ H fun x H1 => x = .ref C ∧ t σ H1 fun vs H2 => sp vs H2 Q E
section
variable {X : Cx} {CX : CXT} {k : Nat} {C p g : Addr} {mc : Value} {sp : Sp} {E : XK} {o e : Expr} {es : List Expr} {f m : Str} {pos apos : Pos} {ta : TE} {t : TA} {pl : Sem Bool}
theorem pe_smeth (he : PE X o ta) (r : CRead X.K C mc) (c : SMet X.K C mc m p g) (F : FnR X.prog X.w X.K X.mg X.base CX k g sp) (hr : Room k X.A) (hx : Passes CX X E) (ha : PA X (e :: es) t)
    (hst : starEach (e :: es) X.env = (false, eval e X.env) :: starEach es X.env := by rfl) (hpl : (backTo pos (starEach es X.env)).any (·.1) = false := by rfl)
    (ht : eval (.Call (.Attribute o m apos) (e :: es) [] pos) X.env = (do
      let ov ← eval o X.env
      standAt apos.atName
      let (f, first) ← holding [ov] (getMethod ov m pl)
      callWith pos f first (backTo pos (starEach (e :: es) X.env)) (backToKw pos (keywordEach [] X.env))) := by rfl) :
    PE X (.Call (.Attribute o m apos) (e :: es) [] pos) (tSMeth C sp E ta t) := by
  refine ⟨fun pins s σ H Q I h => ?_⟩
  refine PySem.W.methodCall_KW (pl := pl) (thn (he.run pins s σ H _ I h) fun u s1 ⟨x, H1, I1, rx, ex, q⟩ => ?_) ht
  subst ex
  obtain rfl : u = Value.ref C := rx
  refine getmethsm_ok I1 r c fun s2 I2 => ?_
  refine PySem.W.callWith_K (first := []) (h₀ := X.base) I.ok.mod.kin c.kp (thn (ha.run pos pins s2 σ H1 _ I2 q) fun us s3 ⟨vs, H2, I3, rv, q2⟩ => ⟨I3.kIn, ?_⟩) hst hpl
  exact wpAny_call (run_fnR F hr hx I3 rv q2)
theorem pe_smeth0 (he : PE X o ta) (r : CRead X.K C mc) (c : SMet X.K C mc m p g) (F : FnR X.prog X.w X.K X.mg X.base CX k g sp) (hr : Room k X.A) (hx : Passes CX X E)
    (ht : eval (.Call (.Attribute o m apos) [] [] pos) X.env = (do
      let ov ← eval o X.env
      standAt apos.atName
      let (f, first) ← holding [ov] (getMethod ov m pl)
      callWith pos f first (backTo pos (starEach [] X.env)) (backToKw pos (keywordEach [] X.env))) := by rfl) :
    PE X (.Call (.Attribute o m apos) [] [] pos) (tSMeth C sp E ta tNil) := by
  refine ⟨fun pins s σ H Q I h => ?_⟩
  refine PySem.W.methodCall_KW (pl := pl) (thn (he.run pins s σ H _ I h) fun u s1 ⟨x, H1, I1, rx, ex, q⟩ => ?_) ht
  subst ex
  obtain rfl : u = Value.ref C := rx
  refine getmethsm_ok I1 r c fun s2 I2 => ?_
  exact PySem.W.callWith_K0 (first := []) I2.kIn c.kp (wpAny_call (run_fnR (us := []) (vs := []) F hr hx I2 .nil q))
end
end R1

/-! len(x), k in x, x[k] by the own defs of x's class -/
namespace R1
open PySem PySem.Spec PyProof.Rows L2
section
variable {X : Cx} {CX : CXT} {n : Nat} {C g : Addr} {sp : Sp} {E : XK}
theorem run_fnR1 {pins : List (Addr × Obj)} {σ : L2.St} {H : Hp} {s : Shared} {Q : VK} {us : List Value} {vs : List V} (F : FnR X.prog X.w X.K X.mg X.base CX n g sp) (hr : Room (n + 1) X.A) (hx : Passes CX X E) (I : Inv X pins σ H s) (r : Vals vs us) (h : sp vs H Q E) :
    codeAny (model X.prog X.w) X.A.in1 (.call (.ref g) ⟨us, []⟩) (fun r s' => match r with | .ok (.ret v) => EP X pins σ Q v s' | .ok _ => False | .error e => X.xe e s') s := by
  refine codeAny_mono (F X.A.in1 X.stack s H us vs Q E hr.in1 I.env0.in1 r h) fun r s' hq => ?_
  cases r with
  | error e => exact hx pins σ H s e s' I hq
  | ok fl =>
    cases fl with
    | ret u => exact I.after hq
    | next => exact False.elim hq
    | brk => exact False.elim hq
    | cont => exact False.elim hq
def rLenO (C : Addr) (sp : Sp) (E : XK) : List V → Hp → VK → Prop := fun xs H Q => ∃ a dx fs, xs = [.ref a] ∧ H a = some (.ins C dx fs) ∧ sp [.ref a] H (fun v H' => ∃ k : Nat, v = .int k ∧ k < 1000000 ∧ Q (.int k) H') E
theorem call_lenO (hs : PySem.W.findIn X.K (.ref C) "__len__" = some (some (.ref g))) (hf : PySem.W.isFn X.K (.ref g) = true) (F : FnR X.prog X.w X.K X.mg X.base CX n g sp) (hr : Room (n + 1) X.A) (hx : Passes CX X E) : CallR X (.builtin "len") (rLenO C sp E) := by
  intro pins s σ H xs us Q I r h
  obtain ⟨a, dx, fs, rfl, ha, q⟩ := h
  obtain rfl := Vals.ref1 r
  obtain ⟨mA, O, _, _, _, _⟩ := ins_get I.hok ha
  obtain ⟨od, J, _⟩ := O.look
  obtain ⟨m, hF⟩ := I.fr
  refine PySem.W.len_K hF I.ok.mod.kin J hs hf (wpAny_mono (wpAny_call (run_fnR1 (us := [.ref a]) (vs := [.ref a]) F hr hx I (.cons rfl .nil) q)) (fun v s' z => ?_) fun _ _ x => x)
  obtain ⟨x, H', I', rx, k, rfl, hk, q'⟩ := z
  obtain ⟨t, rfl⟩ := rx
  exact ⟨⟨by omega, by omega⟩, .int k, H', I'.tok _, ⟨_, rfl⟩, q'⟩
def rInO (C : Addr) (sp : Sp) (E : XK) (neg : Bool) : R2 := fun x y H Q => ∃ a dx fs, y = .ref a ∧ H a = some (.ins C dx fs) ∧ sp [.ref a, x] H (fun v H' => ∃ b, v = .bl b ∧ Q (.bl (if neg then !b else b)) H') E
theorem op_inO (hs : PySem.W.findIn X.K (.ref C) "__contains__" = some (some (.ref g))) (hf : PySem.W.isFn X.K (.ref g) = true) (F : FnR X.prog X.w X.K X.mg X.base CX n g sp) (hr : Room n X.A) (hx : Passes CX X E) : OpR X (compareOp .In) (rInO C sp E false) := by
  intro pins s σ H x y v u Q I rx ry h
  obtain ⟨a, dx, fs, rfl, ha, q⟩ := h
  cases (show u = Value.ref a from ry)
  obtain ⟨mA, O, _, _, _, _⟩ := ins_get I.hok ha
  obtain ⟨od, J, _⟩ := O.look
  obtain ⟨m, hF⟩ := I.fr
  refine PySem.W.in_K hF I.ok.mod.kin J hs hf (wpAny_mono (wpAny_call (run_fnR (us := [.ref a, v]) (vs := [.ref a, x]) F hr hx I (.cons rfl (.cons rx .nil)) q)) (fun w s' z => ?_) fun _ _ x => x)
  obtain ⟨z', H', I', rz, b, rfl, q'⟩ := z
  cases (show w = Value.bool b from rz)
  exact wpAny_pure ⟨.bl b, H', I', rfl, q'⟩
theorem op_notInO (hs : PySem.W.findIn X.K (.ref C) "__contains__" = some (some (.ref g))) (hf : PySem.W.isFn X.K (.ref g) = true) (F : FnR X.prog X.w X.K X.mg X.base CX n g sp) (hr : Room n X.A) (hx : Passes CX X E) : OpR X (compareOp .NotIn) (rInO C sp E true) := by
  intro pins s σ H x y v u Q I rx ry h
  obtain ⟨a, dx, fs, rfl, ha, q⟩ := h
  cases (show u = Value.ref a from ry)
  obtain ⟨mA, O, _, _, _, _⟩ := ins_get I.hok ha
  obtain ⟨od, J, _⟩ := O.look
  obtain ⟨m, hF⟩ := I.fr
  refine PySem.W.notIn_K hF I.ok.mod.kin J hs hf (wpAny_mono (wpAny_call (run_fnR (us := [.ref a, v]) (vs := [.ref a, x]) F hr hx I (.cons rfl (.cons rx .nil)) q)) (fun w s' z => ?_) fun _ _ x => x)
  obtain ⟨z', H', I', rz, b, rfl, q'⟩ := z
  cases (show w = Value.bool b from rz)
  exact wpAny_pure ⟨.bl (!b), H', I', rfl, q'⟩
/-- x[k] -/
def rIxO (C : Addr) (sp : Sp) (E : XK) : R2 := fun x y H Q => ∃ a dx fs, x = .ref a ∧ H a = some (.ins C dx fs) ∧ sp [.ref a, y] H Q E
theorem op_ixO (hq : PySem.W.noSeq X.K C = true) (hs : PySem.W.findIn X.K (.ref C) "__getitem__" = some (some (.ref g))) (hf : PySem.W.isFn X.K (.ref g) = true) (F : FnR X.prog X.w X.K X.mg X.base CX n g sp) (hr : Room n X.A) (hx : Passes CX X E) : OpR X getItem (rIxO C sp E) := by
  intro pins s σ H x y v u Q I rx ry h
  obtain ⟨a, dx, fs, rfl, ha, q⟩ := h
  cases (show v = Value.ref a from rx)
  obtain ⟨mA, O, _, _, _, _⟩ := ins_get I.hok ha
  obtain ⟨od, J, _⟩ := O.look
  obtain ⟨m, hF⟩ := I.fr
  exact PySem.W.getItem_K hF I.ok.mod.kin J hq hs hf (wpAny_call (run_fnR (us := [.ref a, u]) (vs := [.ref a, y]) F hr hx I (.cons rfl (.cons ry .nil)) q))
end
end R1

/-! iter(t) of a tuple; list(o), o of a class whose __iter__ gives such an iterator and whose __len__ gives a number -/
namespace RI
open PySem PySem.Spec PyProof.Rows L2
/-- an iterator over the tuple at t, at its first place -/
def ItTO (t it : Addr) : HO := .ext fun h => h.IsTupleIter it t 0
theorem itTO_ok {P : Program} {w : World} {H : Hp} {h : Heap} {t it : Addr} (e : h.IsTupleIter it t 0) (e2 : ∃ o, h.get? it = some o) : ObjOk P w H h it (ItTO t it) := ⟨e, e2, fun h1 h2 q k => q.at k⟩
/-- whatever stands there -/
def AnyO (it : Addr) : HO := .ext fun h => ∃ o, h.get? it = some o
theorem anyO_ok {P : Program} {w : World} {H : Hp} {h : Heap} {it : Addr} (e : ∃ o, h.get? it = some o) : ObjOk P w H h it (AnyO it) := ⟨e, e, fun h1 h2 q k => let ⟨o, z⟩ := q; ⟨o, k o z⟩⟩
section
variable {X : Cx}
theorem call_iterT : CallR X (.builtin "iter") (fun xs H Q => ∃ (t : Addr) (zs : List V), xs = [.ref t] ∧ SqT X.K H t zs ∧ ∀ it, H it = none → Q (.ref it) (upd H it (ItTO t it))) := by
  intro pins s σ H xs us Q I r h
  obtain ⟨t, zs, rfl, hq, q⟩ := h
  obtain ⟨u, rfl, rx⟩ := vals1 r
  cases rx
  obtain ⟨its, rv, pl, hz⟩ := I.tuple hq
  refine Calls.call_function_entry (by decide +kernel) (by decide +kernel) PySem.W.kdk_entry_iter (PySem.W.kdk_args_iter _) ?_
  unfold Builtin.«iter»
  refine wpAny_bind (m := someArgs "iter" 1 2 _) (wpAny_of_eq (a := [Value.ref t]) (by first | rfl | kernel_rfl!) ?_)
  show wpAny _ _ (pyIter (.ref t) >>= _) _ _ _
  refine wpAny_bind (wpAny_pyIter_tuple pl ?_)
  have hI : (s.heap.push { cls := .type "tuple_iterator", data := .fields #[.ref t, .int 0 0] }).IsTupleIter s.heap.objs.size t 0 := ⟨_, Heap.get?_push_size _ rfl, rfl, rfl⟩
  exact wpAny_pure ⟨_, rfl, .ref s.heap.objs.size, _, I.laid (t' := s.toks) (fun b u e => Heap.get?_push_of_some _ e) (Nat.le_refl _) (itTO_ok hI ⟨_, Heap.get?_push_size _ rfl⟩), rfl, q _ (I.hok.fresh (Nat.le_refl _))⟩
end
/-- what the class must have -/
structure ItL (K : PySem.W.Frag) (C fi fl : Addr) : Prop where
  it : PySem.W.findIn K (.ref C) "__iter__" = some (some (.ref fi))
  itF : PySem.W.isFn K (.ref fi) = true
  ln : PySem.W.findIn K (.ref C) "__len__" = some (some (.ref fl))
  lnF : PySem.W.isFn K (.ref fl) = true
/-- the heap behind the walk: the list is filled, the iterator is done -/
def behind (H : Hp) (q it : Addr) (xs : List V) : Hp := upd (upd H q (.lst xs)) it (AnyO it)
def rListO (K : PySem.W.Frag) (C : Addr) (spI spL : Sp) : List V → Hp → VK → Prop := fun vs H Q => ∃ (a dx : Addr) (fs : List (Str × V)), vs = [.ref a] ∧ H a = some (.ins C dx fs) ∧
  ∀ q, H q = none → spI [.ref a] (upd H q (.lst [])) (fun v H1 => ∃ (it t : Addr) (xs : List V), v = .ref it ∧ H1 it = some (ItTO t it) ∧ it ≠ t ∧ H1 q = some (.lst []) ∧ H1 a = some (.ins C dx fs) ∧
    spL [.ref a] H1 (fun v H2 => ∃ k : Nat, v = .int k ∧ k < 1000000 ∧ H2 it = some (ItTO t it) ∧ SqT K H2 t xs ∧ xs.length ≤ 1000 ∧ H2 q = some (.lst []) ∧ Q (.ref q) (behind H2 q it xs)) (fun _ _ _ => False)) (fun _ _ _ => False)
section
variable {X : Cx} {C fi fl : Addr} {spI spL : Sp} {n : Nat} {pins : List (Addr × Obj)} {σ : L2.St} {H : Hp} {s : Shared} {a q dx : Addr} {fs : List (Str × V)}
/-- the heap in which one object is given -/
theorem put_mid {h h' : Heap} {q it : Addr} {o : Obj} {o1 : Obj} (hq : h.get? q = some o1) (hne : q ≠ it) (hq' : h'.get? q = some o) (hk : ∀ b u, b ≠ q → b ≠ it → h.get? b = some u → h'.get? b = some u) :
    ∃ m : Heap, m.get? q = some o ∧ Heap.SameBut q h m ∧ ∀ b u, b ≠ it → m.get? b = some u → h'.get? b = some u := by
  have hf : o.isFreed = false := (Heap.get?_some_iff.mp hq').2
  refine ⟨h.update q (fun _ => o), Heap.get?_update_self (fun _ => o) hq hf, Heap.SameBut.update .., fun b u hb e => ?_⟩
  by_cases c : b = q
  · subst c
    have e2 : (h.update b (fun _ => o)).get? b = some o := Heap.get?_update_self (fun _ => o) hq hf
    rw [e2] at e
    cases e
    exact hq'
  · exact hk b u c hb ((Heap.get?_update_other _ _ (Ne.symm c)).symm.trans e)
theorem tup_done {it t : Addr} {i : Nat} {its : Array Value} {A : Around} {prog : Program} {w : World} {E : Value → Shared → Prop} {Qn : Option Value → Shared → Prop} (hA : A.handled = none)
    (hI : s.heap.IsTupleIter it t i) (hT : s.heap.IsTuple t its) (hn : its[i]? = none)
    (hq : ∀ h', (∀ b o, b ≠ it → s.heap.get? b = some o → h'.get? b = some o) → (∃ o, h'.get? it = some o) → Qn none { s with heap := h' }) : wpAny (model prog w) A (pyNext (.ref it)) Qn E s := by
  have hI2 := hI
  obtain ⟨⟨oc, od, odat, osl⟩, a1, a2, a3⟩ := hI2
  have a2' : oc = .type "tuple_iterator" := a2
  have a3' : odat = .fields #[.ref t, .int i 0] := a3
  subst a2' a3'
  obtain ⟨ot, b1, b2, nt, b3⟩ := hT
  have up := Heap.get?_update_self (Obj.mapFields (·.setIfInBounds 0 Value.none)) a1 (by first | rfl | simp [Obj.isFreed, Obj.mapFields])
  unfold pyNext; refine wpAny_bind (wpAny_attempt (wpAny_callSpecial?_slot (name := Str.ofString "__next__") hI.typeIs PySem.F.slot_tuple_iterator_next (wpAny_call_entry PySem.F.slot_tuple_iterator_next hI.typeIs PySem.F.entry_tuple_iterator_next ?_ (PySem.F.args_tuple_iterator_next_1 _))))
  show wpAny _ _ (field (.ref it) 0 >>= _) _ _ _; refine wpAny_bind (wpAny_field a1 a3 (x := .ref t) rfl ?_)
  show wpAny _ _ (if (Value.ref t == Value.none) = true then _ else _) _ _ _; refine PySem.W.KFB.if_not rfl ?_
  show wpAny _ _ (field (.ref it) 1 >>= _) _ _ _; refine wpAny_bind (wpAny_field a1 a3 (x := .int i 0) rfl ?_)
  show wpAny _ _ (seqItems? (.ref t) >>= _) _ _ _; refine wpAny_bind (wpAny_seqItems b1 b3 ?_); simp only [Int.toNat_natCast, hn]
  refine wpAny_bind (wpAny_rule (wpAny_bind (wpAny_setField a1 a3 (by simp) ?_)))
  show wpAny _ _ (newExc (.type "StopIteration") [] >>= _) _ _ _; refine wpAny_bind ?_; simp only [newExc, newTuple]
  refine wpAny_bind (wpAny_newObj_type ?_ (by size_fits)); refine wpAny_bind (m := firstArgMember _ _) (wpAny_of_eq (a := Value.none) (by first | rfl | (simp only [firstArgMember]; rfl)) ?_)
  refine wpAny_newObj_type ?_ (by size_fits); simp only [raiseNew]; refine wpAny_bind (wpAny_handled ?_); rw [show A.in1.handled = none from hA]
  refine wpAny_bind (wpAny_pure (wpAny_throw ?_)); refine wpAny_bind (wpAny_isInstance (T := "StopIteration") (b := true) ⟨_, Heap.get?_push_size _ rfl, rfl⟩ isSubtype_stop ?_)
  exact wpAny_pure (hq _ (fun b o hb e => Heap.get?_push_of_some _ (Heap.get?_push_of_some _ ((Heap.get?_update_other _ _ (Ne.symm hb)).trans e))) ⟨_, Heap.get?_push_of_some _ (Heap.get?_push_of_some _ up)⟩)
/-- the rest of the tuple is put behind the list at q -/
theorem tup_rest {it t q : Addr} {its : List Value} {A : Around} {prog : Program} {w : World} {Rs : Result → Shared → Prop} {h0 : Heap} (hA : A.handled = none) (hqi : q ≠ it) (hti : t ≠ it) (htq : t ≠ q) (hz : its.length ≤ 1000) (res : Value)
    (hq : ∀ h' c, (∀ b o, b ≠ q → b ≠ it → h0.get? b = some o → h'.get? b = some o) → (∃ o, h'.get? it = some o) → h'.get? q = some { cls := .type "list", dict := none, data := .seq its.toArray c, slots := #[] } → ∀ tk, Rs (.ok (.ret res)) { s with heap := h', toks := tk }) :
    ∀ (k i : Nat) (h : Heap) (tk c : Nat), its.length - i = k → i ≤ its.length → h.IsTupleIter it t i → h.IsTuple t its.toArray → (∀ b o, b ≠ q → b ≠ it → h0.get? b = some o → h.get? b = some o) →
      h.get? q = some { cls := .type "list", dict := none, data := .seq (its.take i).toArray c, slots := #[] } → codeAny (model prog w) A (.builtin "list.extend.loop" ⟨[.ref q, .ref it, res], []⟩) Rs { s with heap := h, toks := tk } := by
  intro k
  induction k with
  | zero =>
    intro i h tk c hk hi hI hT kp hS
    obtain rfl : i = its.length := by omega
    refine codeAny_builtin PySem.F.entry_extend_loop ?_; rw [Around.under_plainId PySem.F.plain_extend_loop _]; show wpAny _ A.in1 (pyNext (.ref it) >>= _) _ _ _
    refine wpAny_bind (tup_done (s := { s with heap := h, toks := tk }) (A := A.in1) hA hI hT (by simp) fun h' kp2 ex => ?_)
    rw [List.take_length] at hS
    exact wpAny_pure (hq h' c (fun b o h1 h2 e => kp2 b o h2 (kp b o h1 h2 e)) ex (kp2 q _ hqi hS) tk)
  | succ k ih =>
    intro i h tk c hk hi hI hT kp hS
    have lt : i < its.length := by omega
    have gx : its[i]? = some its[i] := List.getElem?_eq_getElem lt
    refine codeAny_builtin PySem.F.entry_extend_loop ?_; rw [Around.under_plainId PySem.F.plain_extend_loop _]; show wpAny _ A.in1 (pyNext (.ref it) >>= _) _ _ _
    refine wpAny_bind (wpAny_pyNext_tuple_item (s := { s with heap := h, toks := tk }) hI hT (x := its[i]) (by simpa using gx) fun h' hI' sb => ?_)
    have hS' : h'.get? q = _ := (sb.2 q hqi).trans hS
    show wpAny _ A.in1 (updateSeq q (·.push its[i]) >>= _) _ _ _
    have et : ((its.take i).toArray.push its[i]) = (its.take (i + 1)).toArray := by
      rw [List.take_add_one, gx]
      simp
    obtain ⟨c', z⟩ : ∃ c', (h'.update q (Obj.mapSeq (·.push its[i]))).get? q = some { cls := .type "list", dict := none, data := .seq (its.take (i + 1)).toArray c', slots := #[] } := ⟨_, by rw [← et]; exact Heap.get?_update_self (Obj.mapSeq (·.push its[i])) hS' rfl⟩
    refine wpAny_bind (wpAny_updateSeq hS' rfl (wpAny_pure ⟨plainId_quiet PySem.F.plain_extend_loop _, ih (i + 1) _ tk c' (by omega) lt ?_ ?_ (fun b o h1 h2 e => ?_) z⟩) (by rw [List.size_toArray, List.length_take, sizeLine_eq]; omega) (by show ((its.take i).toArray.push its[i]).size ≤ sizeLine + 1; rw [et, List.size_toArray, List.length_take, sizeLine_eq]; omega))
    · exact hI'.at fun o e => (Heap.get?_update_other _ _ hqi).trans e
    · obtain ⟨o, e, r⟩ := hT
      exact ⟨o, (Heap.get?_update_other _ _ (Ne.symm htq)).trans ((sb.2 t hti).trans e), r⟩
    · exact (Heap.get?_update_other _ _ (Ne.symm h1)).trans ((sb.2 b h2).trans (kp b o h1 h2 e))
theorem ext_listO {Qh : Hp → Prop} {Rs : Result → Shared → Prop} (hc : X.calm = true) (c : ItL X.K C fi fl) (FI : FnR X.prog X.w X.K X.mg X.base CX0 n fi spI) (FL : FnR X.prog X.w X.K X.mg X.base CX0 n fl spL) (hr : Room (n + 4) X.A)
    (I : Inv X pins σ H s) (ha : H a = some (.ins C dx fs)) (hq : H q = some (.lst []))
    (hsp : spI [.ref a] H (fun v H1 => ∃ (it t : Addr) (xs : List V), v = .ref it ∧ H1 it = some (ItTO t it) ∧ it ≠ t ∧ H1 q = some (.lst []) ∧ H1 a = some (.ins C dx fs) ∧
      spL [.ref a] H1 (fun v H2 => ∃ k : Nat, v = .int k ∧ k < 1000000 ∧ H2 it = some (ItTO t it) ∧ SqT X.K H2 t xs ∧ xs.length ≤ 1000 ∧ H2 q = some (.lst []) ∧ Qh (behind H2 q it xs)) (fun _ _ _ => False)) (fun _ _ _ => False))
    (hR : ∀ s' H', Inv X pins σ H' s' → Qh H' → Rs (.ok (.ret .none)) s') :
    wpAny (model X.prog X.w) X.A.in1.in1 (Builtin.List.listExtendWith (.ref q) (.ref a) .none)
      (fun fin s' => match fin with | .done f => Rs (.ok f) s' | .again c' => c'.quiet = true ∧ codeAny (model X.prog X.w) X.A.in1 c' Rs s') (fun e s' => Rs (.error e) s') s := by
  have hne : q ≠ a := ne_of hq ha (fun z => nomatch z)
  obtain ⟨mA, J, _⟩ := ins_get I.hok ha
  obtain ⟨od, J, _⟩ := J.look
  obtain ⟨m0, hF⟩ := I.fr
  unfold Builtin.List.listExtendWith
  refine wpAny_bind (J.type.here ?_)
  have h1 : Builtin.List.listSameRef (.ref q) (.ref a) = false := by simp [Builtin.List.listSameRef, hne]
  have h2 : (Value.ref C == Value.type "list") = false := rfl
  have h3 : (Value.ref C == Value.type "tuple") = false := rfl
  simp only [h1, h2, h3, Bool.or_false, Bool.false_eq_true, if_false]
  refine wpAny_bind (PySem.W.owit_iter hF I.ok.mod.kin J c.it c.itF ?_)
  have r4 : Room n X.A.in1.in1 := ((hr.mono (Nat.le_refl _)).in1.in1).mono (by omega)
  refine wpAny_call (codeAny_mono (FI X.A.in1.in1 X.stack s H [.ref a] [.ref a] _ _ r4 I.env0.in1.in1 (.cons rfl .nil) hsp) fun r s' hq' => ?_)
  cases r with
  | error e => exact False.elim hq'
  | ok f =>
    cases f with
    | next => exact False.elim hq'
    | brk => exact False.elim hq'
    | cont => exact False.elim hq'
    | ret u =>
      obtain ⟨v, H1, I1, rv, it, t, xs, ev, hit, hnt, hq1, ha1, hl⟩ := I.after hq'
      subst ev
      cases rv
      have hI : s'.heap.IsTupleIter it t 0 := (I1.hok it _ hit).1
      show PySem.W.OwitIt _ _ _ _ _ _
      unfold PySem.W.OwitIt
      refine wpAny_specialOf hI.typeIs PySem.F.slot_tuple_iterator_next.lookup ?_
      obtain ⟨mA1, J1, _⟩ := ins_get I1.hok ha1
      obtain ⟨od1, J1, _⟩ := J1.look
      obtain ⟨m1, hF1⟩ := I1.fr
      refine wpAny_bind (wpAny_holding ?_)
      unfold Builtin.List.listLengthHint
      refine wpAny_bind (wpAny_bind (J1.type.here ((PySem.W.looks_findIn I1.kIn c.ln).here ?_)))
      refine PySem.W.KFB.if_not rfl ?_
      refine PySem.W.KFB.if_so rfl ?_
      refine wpAny_bind (wpAny_rule ?_)
      have r5 : Room n X.A.in1.in1.in1 := ((hr.mono (Nat.le_refl _)).in1.in1.in1).mono (by omega)
      refine wpAny_bind (wpAny_attempt (PySem.W.len_K hF1 I1.ok.mod.kin J1 c.ln c.lnF ?_))
      refine wpAny_call (codeAny_mono (FL X.A.in1.in1.in1 X.stack s' H1 [.ref a] [.ref a] _ _ r5 I1.env0.in1.in1.in1 (.cons rfl .nil) hl) fun r s2 hq2 => ?_)
      cases r with
      | error e => exact False.elim hq2
      | ok f =>
        cases f with
        | next => exact False.elim hq2
        | brk => exact False.elim hq2
        | cont => exact False.elim hq2
        | ret u2 =>
          obtain ⟨v2, H2, I2, rv2, k, ev2, hk, hit2, ht2, hl2, hq2', hQ⟩ := I1.after hq2
          subst ev2
          obtain ⟨tk, rfl⟩ := rv2
          refine ⟨⟨by omega, by omega⟩, ?_⟩
          refine wpAny_bind (wpAny_pure ?_)
          refine PySem.W.KFB.if_not (decide_eq_false (by rw [sizeLine_eq]; omega)) (wpAny_pure ?_)
          have I3 := I2.tok (s2.toks + 1)
          have hqi : q ≠ it := ne_of hq2' hit2 (fun z => nomatch z)
          have key : ∀ (s4 : Shared), Inv X pins σ H2 s4 → codeAny (model X.prog X.w) X.A.in1 (.builtin "list.extend.loop" ⟨[.ref q, .ref it, .none], []⟩) Rs s4 := by
            intro s4 I4
            obtain ⟨z, its0, c0, r3, hl3, e3⟩ := I4.lstM hq2'
            cases r3
            have hI4 : s4.heap.IsTupleIter it t 0 := (I4.hok it _ hit2).1
            obtain ⟨its, rvt, plt, hzt⟩ := I4.tuple ht2
            have lz := rvt.length
            have htq : t ≠ q := by
              rintro rfl
              obtain ⟨o, e, f, _⟩ := plt
              rw [e3] at e
              cases e
              exact nomatch (show Value.type "list" = Value.type "tuple" from f)
            refine tup_rest (A := X.A.in1) (s := s4) (h0 := s4.heap) (its := its) (I4.ok.hd hc) hqi (Ne.symm hnt) htq (by omega) .none (fun h' c kp ex hS tk => ?_) its.length 0 s4.heap s4.toks c0 (by omega) (Nat.zero_le _) hI4 plt (fun b o _ _ e => e) (by simpa using e3)
            obtain ⟨m, e1, sb, kp2⟩ := put_mid e3 hqi hS kp
            have I5 : Inv X pins σ (upd H2 q (.lst xs)) { s4 with heap := m, toks := s4.toks } := I4.write (x := q) (e := q) (by rw [hq2']; exact True.intro) (.inl rfl) (fun b u hb e => (sb.2 b hb).trans e) ⟨_, e1⟩ ⟨hzt, its, c, rvt, e1⟩
            have g : upd H2 q (.lst xs) it = some (ItTO t it) := by rw [upd_ne (Ne.symm hqi)]; exact hit2
            have I6 : Inv X pins σ (behind H2 q it xs) { s4 with heap := h', toks := tk } := I5.write (x := it) (e := it) (by rw [g]; exact True.intro) (.inl rfl) kp2 ex (anyO_ok ex)
            exact hR _ _ I6 hQ
          refine wpAny_ite_split (fun _ => ?_) (fun _ => wpAny_pure ⟨plainId_quiet PySem.F.plain_extend_loop _, key _ I3⟩)
          obtain ⟨z, its0, c0, r3, hl3, e3⟩ := I3.lstM hq2'
          cases r3
          refine wpAny_bind (wpAny_rule (wpAny_bind ?_)); show wpAny _ _ (updateSeq q (·.push .none) >>= fun _ => updateSeq q (·.pop)) _ _ _
          have J2 := I3.lset (f := (·.push Value.none)) (its' := [Value.none]) (ys := [.non]) (t' := s2.toks + 1) hq2' e3 (by simp) (.cons rfl .nil) (by show 1 ≤ sizeLine; rw [sizeLine_eq]; decide)
          obtain ⟨z4, its4, k4, r4', hl4, e4⟩ := J2.lstM upd_same
          obtain ⟨u4, rfl, ru4⟩ := r4'.one
          refine wpAny_bind (wpAny_updateSeq e3 rfl (wpAny_updateSeq e4 rfl (wpAny_pure ⟨plainId_quiet PySem.F.plain_extend_loop _, key _ ?_⟩) (by show 1 ≤ sizeLine; rw [sizeLine_eq]; decide) (by show 0 ≤ sizeLine + 1; exact Nat.zero_le _)))
          have J3 := J2.lset (f := (·.pop)) (its := [u4]) (its' := []) (ys := []) (t' := s2.toks + 1) upd_same e4 (by rfl) .nil (Nat.zero_le _)
          have eH : upd (upd H2 q (.lst [.non])) q (.lst []) = H2 := by
            funext b
            by_cases hb : b = q
            · rw [hb, upd_same, hq2']
            · rw [upd_ne hb, upd_ne hb]
          rw [eH] at J3
          exact J3
/-- list(o) -/
theorem call_listO (hc : X.calm = true) (c : ItL X.K C fi fl) (FI : FnR X.prog X.w X.K X.mg X.base CX0 n fi spI) (FL : FnR X.prog X.w X.K X.mg X.base CX0 n fl spL) (hr : Room (n + 4) X.A) : CallR X (.type "list") (rListO X.K C spI spL) := by
  intro pins s σ H vs us Q I r h
  obtain ⟨a, dx, fs, rfl, ha, hq⟩ := h
  obtain ⟨u, rfl, ru⟩ := vals1 r
  cases ru
  have fr : H s.heap.objs.size = none := I.hok.fresh (Nat.le_refl _)
  have hp := hq _ fr
  have I1 : Inv X pins σ (upd H s.heap.objs.size (.lst [])) { s with heap := s.heap.push { cls := .type "list", data := .seq #[] } } := I.lnew (its := []) (t' := s.toks) .nil (Nat.zero_le _)
  have ha1 : upd H s.heap.objs.size (.lst []) a = some (.ins C dx fs) := by rw [upd_ne (ne_of_none ha fr)]; exact ha
  have hS : (s.heap.push { cls := .type "list", data := .seq #[] }).get? s.heap.objs.size = some { cls := .type "list", data := .seq #[] } := Heap.get?_push_size _ rfl
  refine callType_codes (Q₁ := fun obj s₁ => obj = .ref s.heap.objs.size ∧ s₁ = { s with heap := s.heap.push { cls := .type "list", data := .seq #[] } }) PySem.F.called_list (PySem.F.typeCall_list_1 _) PySem.F.entry_list_init (code_list_new _ ⟨rfl, rfl⟩) fun obj s₁ h₁ => ?_
  obtain ⟨rfl, rfl⟩ := h₁
  refine ⟨⟨_, hS, rfl⟩, PySem.F.args_list_init_2 _ _, ?_⟩
  show wpAny _ _ (do let old ← Builtin.List.listItems (.ref s.heap.objs.size); Builtin.List.listUpdate (.ref s.heap.objs.size) (fun _ => #[]); letGo old.toList.reverse; Builtin.List.listExtendWith (.ref s.heap.objs.size) (.ref a) .none) _ _ _
  refine wpAny_bind ?_; unfold Builtin.List.listItems; refine wpAny_bind (wpAny_seqItems hS rfl (wpAny_pure ?_))
  show wpAny _ _ (updateSeq s.heap.objs.size (fun _ => #[]) >>= fun _ => letGo (#[] : Array Value).toList.reverse >>= fun _ => Builtin.List.listExtendWith (.ref s.heap.objs.size) (.ref a) .none) _ _ _
  have J1 := I1.lset (f := fun _ => #[]) (its := []) (its' := []) (ys := []) (t' := s.toks) upd_same hS rfl .nil (Nat.zero_le _)
  rw [upd_upd] at J1
  refine wpAny_bind (wpAny_updateSeq hS rfl (wpAny_bind (wpAny_letGo ?_)))
  exact ext_listO (Qh := fun H' => Q (.ref s.heap.objs.size) H') (Rs := wants (fun r s₂ => r = .none ∧ EP X pins σ Q (.ref s.heap.objs.size) s₂) X.xe) hc c FI FL hr J1 ha1 upd_same hp fun s' H' I' hR => ⟨rfl, .ref s.heap.objs.size, H', I', rfl, hR⟩
end
end RI

/-! dicts whose keys are nested tuples: what stands in the heap -/
namespace RN
open PySem PySem.Spec PyProof.Rows L2
/-! ### data as keys -/
mutual
def nk : PyData → NestedKey
  | .none => .none
  | .bool b => .num (if b = true then 1 else 0)
  | .int i => .num i
  | .str x => .text x
  | .tuple ds => .tup (nks ds)
  | .list _ => .none
  | .dict _ => .none
def nks : List PyData → List NestedKey
  | [] => []
  | d :: ds => nk d :: nks ds
end
mutual
def kb : PyData → Bool
  | .tuple ds => kbs ds
  | .list _ => false
  | .dict _ => false
  | _ => true
def kbs : List PyData → Bool
  | [] => true
  | d :: ds => kb d && kbs ds
end
section
variable {X : Cx} {pins : List (Addr × Obj)} {σ : L2.St} {H : Hp} {s : Shared}
mutual
theorem nested_of (I : Inv X pins σ H s) : ∀ (d : PyData) (v : V) (u : Value), Dp X.K H v d → RelV v u → kb d = true → NestedIs s.heap (nk d) u
  | .none, _, _, h, r, _ => by cases h; cases r; exact .none
  | .bool b, _, _, h, r, _ => by cases h; cases r; exact .bool rfl
  | .int i, _, _, h, r, _ => by cases h; obtain ⟨t, rfl⟩ := r; exact .int i t
  | .str x, _, _, h, r, _ => by cases h; obtain ⟨t, rfl⟩ := r; exact .text x t
  | .tuple ds, _, _, h, r, k => by
    cases h with
    | tup hs ha =>
      cases r
      obtain ⟨its, rv, ⟨o, ho, hc, n, hd⟩, _⟩ := I.tuple hs
      exact .tup ho hc hd (by simpa using nesteds_of I ds _ its ha rv k)
  | .list _, _, _, _, _, k => by cases k
  | .dict _, _, _, _, _, k => by cases k
theorem nesteds_of (I : Inv X pins σ H s) : ∀ (ds : List PyData) (vs : List V) (us : List Value), DpAll X.K H vs ds → Vals vs us → kbs ds = true → NestedAll s.heap (nks ds) us
  | [], _, _, h, r, _ => by cases h; cases r; exact .nil
  | d :: ds, _, _, h, r, k => by
    cases h with
    | cons h1 h2 =>
      cases r with
      | cons r1 r2 =>
        have k' : (kb d && kbs ds) = true := k
        rw [Bool.and_eq_true] at k'
        exact .cons (nested_of I d _ _ h1 r1 k'.1) (nesteds_of I ds _ _ h2 r2 k'.2)
end
end
/-- the key k is at b -/
def KeyAt (K : PySem.W.Frag) (H : Hp) (k : NestedKey) (b : Addr) : Prop := ∃ d, Dp K H (.ref b) d ∧ kb d = true ∧ nk d = k ∧ k.depth ≤ 8
theorem key_is {X : Cx} {pins : List (Addr × Obj)} {σ : L2.St} {H : Hp} {s : Shared} {k : NestedKey} {b : Addr} (I : Inv X pins σ H s) (h : KeyAt X.K H k b) : (nestedKind X.prog X.w).is s.heap k b := by
  obtain ⟨d, h1, h2, rfl, h4⟩ := h
  exact ⟨nested_of I d _ _ h1 rfl h2, h4⟩
/-! ### entries: key, where it stands, value -/
abbrev Ent := NestedKey × Addr × V
def getN (es : List Ent) (k : NestedKey) : Option V := (es.find? fun p => decide (p.1 = k)).map fun p => p.2.2
def putN (es : List Ent) (k : NestedKey) (b : Addr) (v : V) : List Ent :=
  if (getN es k).isSome = true then es.map fun p => if p.1 = k then (p.1, p.2.1, v) else p else es ++ [(k, b, v)]
theorem putN_len (es : List Ent) (k : NestedKey) (b : Addr) (v : V) : (putN es k b v).length ≤ es.length + 1 := by
  unfold putN
  split
  · rw [List.length_map]; omega
  · rw [List.length_append]; exact Nat.le_refl _
abbrev RE : List Ent → List (NestedKey × Addr × Value) → Prop := Paired fun p q => p.1 = q.1 ∧ p.2.1 = q.2.1 ∧ RelV p.2.2 q.2.2
theorem re_get {es : List Ent} {xs : List (NestedKey × Addr × Value)} (r : RE es xs) (k : NestedKey) : RelO (getN es k) ((atKey xs k).map (·.2)) := by
  induction r with
  | nil => exact True.intro
  | @cons p q ps qs h t ih =>
    by_cases e : p.1 = k
    · have e2 : q.1 = k := h.1.symm.trans e
      have a1 : getN (p :: ps) k = some p.2.2 := by simp [getN, List.find?_cons, e]
      have a2 : atKey (q :: qs) k = some q.2 := by simp [atKey, List.find?_cons, e2]
      rw [a1, a2]
      exact h.2.2
    · have e2 : ¬ q.1 = k := fun z => e (h.1.trans z)
      have a1 : getN (p :: ps) k = getN ps k := by simp [getN, List.find?_cons, e]
      have a2 : atKey (q :: qs) k = atKey qs k := by simp [atKey, List.find?_cons, e2]
      rw [a1, a2]
      exact ih
theorem re_some {es : List Ent} {xs : List (NestedKey × Addr × Value)} (r : RE es xs) (k : NestedKey) : (getN es k).isSome = (atKey xs k).isSome := by
  rw [(re_get r k).isSome_eq, Option.isSome_map]
theorem re_map {es : List Ent} {xs : List (NestedKey × Addr × Value)} (r : RE es xs) (k : NestedKey) {v : V} {u : Value} (rv : RelV v u) :
    RE (es.map fun p => if p.1 = k then (p.1, p.2.1, v) else p) (xs.map (putAt k u)) := by
  induction r with
  | nil => exact .nil
  | @cons p q ps qs h t ih =>
    refine .cons ?_ ih
    unfold putAt
    dsimp only
    by_cases e : p.1 = k
    · rw [if_pos e, if_pos (h.1.symm.trans e)]
      exact ⟨h.1, h.2.1, rv⟩
    · rw [if_neg e, if_neg fun z => e (h.1.trans z)]
      exact h
theorem re_put {es : List Ent} {xs : List (NestedKey × Addr × Value)} (r : RE es xs) (k : NestedKey) (b : Addr) {v : V} {u : Value} (rv : RelV v u) : RE (putN es k b v) (storedH xs k b u) := by
  unfold putN storedH
  rw [re_some r k]
  by_cases q : (atKey xs k).isSome = true
  · rw [if_pos q, if_pos q]
    exact re_map r k rv
  · rw [if_neg q, if_neg q]
    exact Paired.snoc r ⟨rfl, rfl, rv⟩
theorem re_keys {es : List Ent} {xs : List (NestedKey × Addr × Value)} (r : RE es xs) {P : NestedKey → Addr → Prop} (h : ∀ p ∈ es, P p.1 p.2.1) : ∀ x ∈ xs, P x.1 x.2.1 := by
  induction r with
  | nil => intro x hx; cases hx
  | @cons p q ps qs e t ih =>
    intro x hx
    rcases List.mem_cons.mp hx with rfl | hx
    · have := h p List.mem_cons_self
      rw [e.1, e.2.1] at this
      exact this
    · exact ih (fun p hp => h p (List.mem_cons_of_mem _ hp)) x hx
theorem putN_keys {P : NestedKey → Addr → Prop} {es : List Ent} {k : NestedKey} {b : Addr} {v : V} (h : ∀ p ∈ es, P p.1 p.2.1) (hb : P k b) : ∀ p ∈ putN es k b v, P p.1 p.2.1 := by
  intro p hp
  unfold putN at hp
  split at hp
  · obtain ⟨q, hq, rfl⟩ := List.mem_map.mp hp
    split
    · exact h q hq
    · exact h q hq
  · rcases List.mem_append.mp hp with hp | hp
    · exact h p hp
    · rw [List.mem_singleton.mp hp]
      exact hb
/-! ### the object -/
def phiN (w : World) (d : Addr) (es : List Ent) (h : Heap) : Prop := es.length ≤ sizeLine ∧ (d == sysModules) = false ∧ ∃ xs : List (NestedKey × Addr × Value), RE es xs ∧ (xs.map (·.1)).Nodup ∧
  ∃ (o : Obj) (arr : Array DictEntry) (ep : Nat), h.get? d = some o ∧ o.ExactDict ∧ o.data = .dict arr ep ∧ arr.toList = xs.map fun x => (⟨x.1.hash w, .ref x.2.1, x.2.2⟩ : DictEntry)
def dN (w : World) (d : Addr) (es : List Ent) : HO := .ext (phiN w d es)
def KeysAt (K : PySem.W.Frag) (H : Hp) (es : List Ent) : Prop := ∀ p ∈ es, KeyAt K H p.1 p.2.1
theorem dN_ok {P : Program} {w : World} {H : Hp} {h : Heap} {d : Addr} {es : List Ent} (x : phiN w d es h) : ObjOk P w H h d (dN w d es) := by
  obtain ⟨_, _, _, _, _, o, _, _, ho, _⟩ := id x
  refine ⟨x, ⟨o, ho⟩, fun h1 h2 y k => ?_⟩
  obtain ⟨a1, a2, xs, a3, a4, o, arr, ep, b1, b2, b3, b4⟩ := y
  exact ⟨a1, a2, xs, a3, a4, o, arr, ep, k o b1, b2, b3, b4⟩
theorem dN_empty {P : Program} {w : World} {H : Hp} (h : Heap) (hb : sysModules < h.objs.size) : ObjOk P w H (h.push { cls := .type "dict", data := .dict #[] }) h.objs.size (dN w h.objs.size []) :=
  dN_ok ⟨Nat.zero_le _, beq_eq_false_iff_ne.mpr (Ne.symm (Nat.ne_of_lt hb)), [], .nil, List.nodup_nil, _, #[], 0, Heap.get?_push_size _ rfl, ⟨rfl, rfl, rfl⟩, rfl, rfl⟩
section
variable {X : Cx} {pins : List (Addr × Obj)} {σ : L2.St} {H : Hp} {s : Shared} {d b : Addr} {es : List Ent} {k : NestedKey} {A : Around} {E : Value → Shared → Prop}
theorem dN_of (I : Inv X pins σ H s) (hd : H d = some (dN X.w d es)) (hk : KeysAt X.K H es) :
    es.length ≤ sizeLine ∧ (d == sysModules) = false ∧ ∃ xs, RE es xs ∧ s.heap.DictOfH (nestedKind X.prog X.w) d xs := by
  obtain ⟨⟨a1, a2, xs, a3, a4, o, arr, ep, b1, b2, b3, b4⟩, _, _⟩ := (show ObjOk X.prog X.w H s.heap d (dN X.w d es) from I.hok d _ hd)
  exact ⟨a1, a2, xs, a3, o, arr, ep, b1, b2, b3, b4, re_keys a3 (P := fun k b => (nestedKind X.prog X.w).is s.heap k b) fun p hp => key_is I (hk p hp), a4⟩
end
/-! ### tuples stay -/
def Tk (H H' : Hp) : Prop := ∀ a xs, Rd H a (.tup xs) → Rd H' a (.tup xs)
theorem Tk.rfl' {H : Hp} : Tk H H := fun _ _ h => h
theorem Tk.trans {H H1 H2 : Hp} (h : Tk H H1) (g : Tk H1 H2) : Tk H H2 := fun a xs z => g a xs (h a xs z)
theorem tk_all {H H' : Hp} (h : ∀ a o, H a = some o → H' a = some o) : Tk H H' := fun a xs z => by
  rcases z with z | ⟨o, z⟩
  · exact .inl (h _ _ z)
  · exact .inr ⟨o, h _ _ z⟩
/-- not a tuple -/
def NoTup : HO → Prop
  | .tup _ => False
  | .frz _ (.tup _) => False
  | _ => True
theorem tk_but {H H' : Hp} {d : Addr} {o : HO} (hd : H d = some o) (ho : NoTup o) (h : ∀ a o, a ≠ d → H a = some o → H' a = some o) : Tk H H' := fun a xs z => by
  have ne : a ≠ d := by
    rintro rfl
    rcases z with z | ⟨o', z⟩
    · rw [hd] at z; cases z; exact ho
    · rw [hd] at z; cases z; exact ho
  rcases z with z | ⟨o', z⟩
  · exact .inl (h _ _ ne z)
  · exact .inr ⟨o', h _ _ ne z⟩
theorem tk_upd {H : Hp} {d : Addr} {o o' : HO} (hd : H d = some o) (ho : NoTup o) : Tk H (upd H d o') := tk_but hd ho fun a u ne z => by rw [upd_ne ne]; exact z
theorem tk_new {H : Hp} {d : Addr} {o' : HO} (hd : H d = none) : Tk H (upd H d o') := tk_all fun a o z => by rw [upd_ne (ne_of_none z hd)]; exact z
theorem sqT_tk {K : PySem.W.Frag} {H H' : Hp} {a : Addr} {xs : List V} (t : Tk H H') (h : SqT K H a xs) : SqT K H' a xs := by
  rcases h with h | h
  · exact .inl (t _ _ h)
  · exact .inr h
section
variable {K : PySem.W.Frag} {H H' : Hp}
mutual
theorem dp_tk (t : Tk H H') : ∀ (d : PyData) (v : V), Dp K H v d → kb d = true → Dp K H' v d
  | .none, _, h, _ => by cases h; exact .non
  | .bool _, _, h, _ => by cases h; exact .bl _
  | .int _, _, h, _ => by cases h; exact .int _
  | .str _, _, h, _ => by cases h; exact .str _
  | .tuple ds, _, h, k => by
    cases h with
    | tup hs ha => exact .tup (sqT_tk t hs) (dps_tk t ds _ ha k)
  | .list _, _, _, k => by cases k
  | .dict _, _, _, k => by cases k
theorem dps_tk (t : Tk H H') : ∀ (ds : List PyData) (vs : List V), DpAll K H vs ds → kbs ds = true → DpAll K H' vs ds
  | [], _, h, _ => by cases h; exact .nil
  | d :: ds, _, h, k => by
    cases h with
    | cons h1 h2 =>
      have k' : (kb d && kbs ds) = true := k
      rw [Bool.and_eq_true] at k'
      exact .cons (dp_tk t d _ h1 k'.1) (dps_tk t ds _ h2 k'.2)
end
theorem KeyAt.tk {k : NestedKey} {b : Addr} (t : Tk H H') (h : KeyAt K H k b) : KeyAt K H' k b := by
  obtain ⟨d, h1, h2, h3⟩ := h
  exact ⟨d, dp_tk t d _ h1 h2, h2, h3⟩
theorem KeysAt.tk {es : List Ent} (t : Tk H H') (h : KeysAt K H es) : KeysAt K H' es := fun p hp => (h p hp).tk t
end
/-! ### one entry more, and the reads -/
section
variable {X : Cx} {pins : List (Addr × Obj)} {σ : L2.St} {H : Hp} {s : Shared} {d b : Addr} {es : List Ent} {k : NestedKey} {A : Around} {E : Value → Shared → Prop} {z : V} {r : Value}
theorem room_n {A : Around} {w : World} {P : Program} (hu : A.units + 16 < cLine) : (nestedKind P w).room A := by show A.units + 8 < cLine; omega
theorem room_n1 {A : Around} {w : World} {P : Program} (hu : A.units + 16 < cLine) : (nestedKind P w).room A.in1 := by
  show A.in1.units + 8 < cLine
  simp only [Around.in1_units]
  omega
/-- what is written back -/
theorem back_n {h' : Heap} {tk : Nat} {xs : List (NestedKey × Addr × Value)} (I : Inv X pins σ H s) (hd : H d = some (dN X.w d es)) (hz : es.length < sizeLine) (hm : (d == sysModules) = false) (re : RE es xs) (rz : RelV z r)
    (dd : h'.DictOfH (nestedKind X.prog X.w) d (storedH xs k b r)) (sb : Heap.SameBut d s.heap h') : Inv X pins σ (upd H d (dN X.w d (putN es k b z))) { s with heap := h', toks := tk } := by
  obtain ⟨o, arr, ep, b1, b2, b3, b4, _, b5⟩ := dd
  have := putN_len es k b z
  exact d_write (t' := tk) I (by rw [hd]; exact True.intro) sb ⟨o, b1⟩ (dN_ok ⟨by omega, hm, _, re_put re k b rz, b5, o, arr, ep, b1, b2, b3, b4⟩)
theorem set_n {Q : Unit → Shared → Prop} (hu : X.A.units + 16 < cLine) (I : Inv X pins σ H s) (hd : H d = some (dN X.w d es)) (hk : KeysAt X.K H es) (hb : KeyAt X.K H k b) (hz : es.length < sizeLine) (rz : RelV z r)
    (h : ∀ s', Inv X pins σ (upd H d (dN X.w d (putN es k b z))) s' → Q () s') : wpAny (model X.prog X.w) X.A (dictSet d (.ref b) r) Q E s := by
  obtain ⟨z1, z2, xs, re, dd⟩ := dN_of I hd hk
  have hl : xs.length ≤ sizeLine := by rw [← Paired.length re]; exact z1
  exact wpAny_dictSet_heap (hsz := hl) (room_n hu) (key_is I hb) dd fun h' d' sb => h _ (back_n I hd hz z2 re rz d' sb)
theorem setItem_n {Q : Unit → Shared → Prop} (hu : X.A.units + 16 < cLine) (I : Inv X pins σ H s) (hd : H d = some (dN X.w d es)) (hk : KeysAt X.K H es) (hb : KeyAt X.K H k b) (hz : es.length < sizeLine) (rz : RelV z r)
    (h : ∀ s', Inv X pins σ (upd H d (dN X.w d (putN es k b z))) s' → Q () s') : wpAny (model X.prog X.w) X.A (setItem (.ref d) (.ref b) r) Q E s := by
  obtain ⟨z1, z2, xs, re, dd⟩ := dN_of I hd hk
  have hl : xs.length ≤ sizeLine := by rw [← Paired.length re]; exact z1
  exact wpAny_setItem_heap (hsz := hl) (room_n1 hu) (key_is I hb) dd fun h' d' sb => h _ (back_n I hd hz z2 re rz d' sb)
/-- x in d, x not in d -/
def rInN (K : PySem.W.Frag) (w : World) (neg : Bool) : R2 := fun x y H Q => ∃ (b d : Addr) (es : List Ent) (k : NestedKey), x = .ref b ∧ y = .ref d ∧ H d = some (dN w d es) ∧ KeysAt K H es ∧ KeyAt K H k b ∧ Q (.bl (if neg then !(getN es k).isSome else (getN es k).isSome)) H
theorem op_inN {K : PySem.W.Frag} {w : World} (hu : X.A.units + 16 < cLine) (hK : X.K = K) (hW : X.w = w) : OpR X (compareOp .In) (rInN K w false) := by
  subst hK hW
  intro pins s σ H x y v u Q I rx ry h
  obtain ⟨b, d, es, k, rfl, rfl, hd, hk, hb, q⟩ := h
  cases rx
  cases ry
  obtain ⟨z1, z2, xs, re, dd⟩ := dN_of I hd hk
  refine wpAny_in_heap (room_n1 hu) (key_is I hb) z2 dd ?_
  rw [← re_some re]
  exact ⟨.bl (getN es k).isSome, H, I.tok _, rfl, q⟩
theorem op_notInN {K : PySem.W.Frag} {w : World} (hu : X.A.units + 16 < cLine) (hK : X.K = K) (hW : X.w = w) : OpR X (compareOp .NotIn) (rInN K w true) := by
  subst hK hW
  intro pins s σ H x y v u Q I rx ry h
  obtain ⟨b, d, es, k, rfl, rfl, hd, hk, hb, q⟩ := h
  cases rx
  cases ry
  obtain ⟨z1, z2, xs, re, dd⟩ := dN_of I hd hk
  refine wpAny_notIn_heap (room_n1 hu) (key_is I hb) z2 dd ?_
  rw [← re_some re]
  exact ⟨.bl (!(getN es k).isSome), H, I.tok _, rfl, q⟩
/-- d[x], there -/
def tIxN (K : PySem.W.Frag) (w : World) (td ty : TE) : TE := fun σ H Q => td σ H fun y H1 => ty σ H1 fun x H2 => ∃ (b d : Addr) (es : List Ent) (k : NestedKey) (v : V), x = .ref b ∧ y = .ref d ∧ H2 d = some (dN w d es) ∧ KeysAt K H2 es ∧ KeyAt K H2 k b ∧ getN es k = some v ∧ Q v H2
theorem pe_ixN {o i : Expr} {td ty : TE} {pos : Pos} {K : PySem.W.Frag} {w : World} (hu : X.A.units + 16 < cLine) (hK : X.K = K) (hW : X.w = w) (ho : PE X o td) (hi : PE X i ty) (hs : NoSl i) : PE X (.Subscript o i pos) (tIxN K w td ty) := by
  subst hK hW
  refine ⟨fun pins s σ H Q I h => ?_⟩
  refine subD_of PySem.F.slot_dict_getitem.lookup hs (thn (ho.run pins s σ H _ I h) fun u s1 ⟨y, H1, I1, ry, q1⟩ => thn (hi.run pins s1 σ H1 _ I1 q1) fun iv s2 ⟨x, H2, I2, rx, b, d, es, k, v, ex, ey, hd, hk, hb, hv, q⟩ => ?_)
  subst ex ey
  cases rx
  cases ry
  obtain ⟨z1, z2, xs, re, dd⟩ := dN_of I2 hd hk
  have g := re_get re k
  rw [hv] at g
  obtain ⟨w', hw, rw'⟩ := RelO.some_of g
  obtain ⟨p, hp, hp2⟩ := Option.map_eq_some_iff.mp hw
  refine ⟨dd.typeIs, wpAny_getItem_heap (room_n1 hu) (key_is I2 hb) dd hp ?_⟩
  rw [hp2]
  exact ⟨v, H2, I2.tok _, rw', q⟩
/-- d[x] = v -/
def rSetN (K : PySem.W.Frag) (w : World) : TSet := fun o i v H Q => ∃ (b d : Addr) (es : List Ent) (k : NestedKey), i = .ref b ∧ o = .ref d ∧ H d = some (dN w d es) ∧ KeysAt K H es ∧ KeyAt K H k b ∧ es.length < sizeLine ∧ Q (upd H d (dN w d (putN es k b v)))
theorem set_dictN (hu : X.A.units + 16 < cLine) : PSet X (rSetN X.K X.w) := by
  intro pins s σ H o i v ov iv u Q I ro ri rv h
  obtain ⟨b, d, es, k, rfl, rfl, hd, hk, hb, hz, q⟩ := h
  cases ro
  cases ri
  exact setItem_n hu I hd hk hb hz rv fun s' I' => ⟨_, I', q⟩
end
end RN

/-! a dict comprehension whose keys are nested tuples -/
namespace RN
open PySem PySem.Spec PyProof.Rows L2
/-- the reading of {k: v for target in iter if ..} with such keys -/
def tDcN (K : PySem.W.Frag) (w : World) (src : TI) (g : TG) (tt : TT) (tk tv : TE) (own : List Nat) : TE := fun σ H Q => src σ H fun J G => ∀ D, G D = none → ∃ W : Nat → Nat → Hp → Prop, (∃ m, W 0 m (upd G D (dN w D []))) ∧ ∀ i m F, W i m F →
  (J.stop i F ∧ Q (.ref D) F) ∨ (J.go i F ∧ ∃ Nx : Hp → Prop, (∀ F', Nx F' → ∃ m', m' < m ∧ W (i + 1) m' F') ∧ ∀ x F', J.yld i F x F' → g x (wipe σ own) F' fun τ F2 => wipe τ own = wipe σ own ∧ tt τ F2 fun c F3 =>
    if c = true then tk τ F3 fun y F4 => tv τ F4 fun z F5 => ∃ es k b, y = .ref b ∧ KeyAt K F5 k b ∧ F5 D = some (dN w D es) ∧ KeysAt K F5 es ∧ es.length < sizeLine ∧ Nx (upd F5 D (dN w D (putN es k b z))) else Nx F3)
section
variable {X : Cx} {kx vx tg iter : Expr} {ifs : List Expr} {scope : Scope} {own : List (Str × Nat)} {pos : Pos} {src : TI} {g : TG} {tt : TT} {tk tv : TE}
theorem dcN_core {pins : List (Addr × Obj)} {s : Shared} {σ : L2.St} {H : Hp} {Q : VK} {pos' : Pos} {use : Option (Value → Sem Unit)} {Qf : Value → Shared → Prop} (I : Inv X pins σ H s)
    (hu : X.A.units + 64 < cLine) (hc : X.calm = true) (hN : X.N.Nodup) (hi : PI X tg iter src) (ok : BlkOk X.N X.env.scope scope own)
    (hg : ∀ (s : Shared) (G : Hp) (C : Addr) (cl : List (Str × Addr)) (fp : List Addr), PG (X.blk s G scope (compEnvC scope cl C X.env) fp) tg g)
    (ht : ∀ (s : Shared) (G : Hp) (C : Addr) (cl : List (Str × Addr)) (fp : List Addr), PTs (X.blk s G scope (compEnvC scope cl C X.env) fp) ifs tt)
    (hk : ∀ (s : Shared) (G : Hp) (C : Addr) (cl : List (Str × Addr)) (fp : List Addr), PE (X.blk s G scope (compEnvC scope cl C X.env) fp) kx tk)
    (hv : ∀ (s : Shared) (G : Hp) (C : Addr) (cl : List (Str × Addr)) (fp : List Addr), PE (X.blk s G scope (compEnvC scope cl C X.env) fp) vx tv)
    (hs : ∀ x, foldedSetIterable iter X.env x = pure x) (h : tDcN X.K X.w src g tt tk tv (own.map (·.2)) σ H Q)
    (hR : ∀ D C s' m F, Inv X pins σ F s' → Q (.ref D) F → s'.heap.Ns C m → FpOk X pins F C → compPost (model X.prog X.w) X.A X.xe use Qf (.ref D) C (.ok .next) s') :
    wpAny (model X.prog X.w) X.A (comprehension (.DictComp kx vx [⟨tg, iter, ifs, 0⟩] scope pos) scope X.env pos' newDict false (eval iter X.env) use) Qf X.xe s := by
  have fr : ∀ y ∈ scope.names, y.2 = .free → ∃ c, X.env.cells.lookup y.1 = some c := fun y hy e => (ok.free y hy e).elim (fun z => I.ok.has _ (.inl z)) fun z => I.ok.has _ (.inr z)
  refine wpAny_comprehension_free (use := use) rfl hs (closure_ok fr) ok.kind (fun y hy e => by rw [ok.uniq y hy, e]) (thn (hi.run pins s σ H _ I h) fun xv s1 hx => thn hx fun iv s2 a2 => ?_)
  obtain ⟨it, fp, tn, J, G, rfl, K2, T, t2, p2, q⟩ := a2
  refine wpAny_newObj_type (newEnv_comp ?_)
  obtain ⟨W, ⟨m0, w0⟩, turn⟩ := q s2.heap.objs.size (K2.hok.fresh (Nat.le_refl _))
  generalize eD : s2.heap.objs.size = D at w0 turn
  have nD : G D = none := K2.hok.fresh (Nat.le_of_eq eD)
  -- the new dict
  generalize e3 : ({ s2 with heap := s2.heap.push { cls := .type "dict", data := .dict #[] } } : Shared) = s3
  have K3 : Inv X pins σ (upd G D (dN X.w D [])) s3 := by
    subst e3
    refine K2.laid (t' := s2.toks) (fun b o z => Heap.get?_push_of_some _ z) (Nat.le_of_eq eD) ?_
    subst eD
    exact dN_empty s2.heap K2.big
  have z3 : s3.heap = s2.heap.push { cls := .type "dict", data := .dict #[] } := by subst e3; rfl
  have p3 : ∀ b ∈ fp, FpOk X pins (upd G D (dN X.w D [])) b ∧ b < s3.heap.objs.size := fun b hb => by
    obtain ⟨o, y, _⟩ := T.obj _ _ t2 b hb
    have lt : b < s2.heap.objs.size := Heap.lt_size y
    refine ⟨⟨?_, (p2 b hb).2⟩, by rw [z3, Heap.size_push]; exact Nat.lt_succ_of_lt lt⟩
    rw [upd_ne (by rw [← eD]; exact Nat.ne_of_lt lt)]
    exact (p2 b hb).1
  have t3 : tn 0 s3.heap := T.keep _ _ _ t2 fun b _ o y => by rw [z3]; exact Heap.get?_push_of_some _ y
  have K4 := block_start K3 ok hN p3
  have qg := hg s3 (upd G D (dN X.w D [])) s3.heap.objs.size (cellsFrom (s3.heap.objs.size + 1) scope.names (cloFrom X.env.cells scope.names [])) fp
  have qt := ht s3 (upd G D (dN X.w D [])) s3.heap.objs.size (cellsFrom (s3.heap.objs.size + 1) scope.names (cloFrom X.env.cells scope.names [])) fp
  have qk := hk s3 (upd G D (dN X.w D [])) s3.heap.objs.size (cellsFrom (s3.heap.objs.size + 1) scope.names (cloFrom X.env.cells scope.names [])) fp
  have qv := hv s3 (upd G D (dN X.w D [])) s3.heap.objs.size (cellsFrom (s3.heap.objs.size + 1) scope.names (cloFrom X.env.cells scope.names [])) fp
  have np : ∀ b ∈ fp, (upd G D (dN X.w D [])) b = none := fun b hb => (p3 b hb).1.1
  show codeAny _ _ (.compStart (.DictComp kx vx [⟨tg, iter, ifs, 0⟩] scope pos) 0 (.ref it) (.ref D) (compEnvC scope (cellsFrom (s3.heap.objs.size + 1) scope.names (cloFrom X.env.cells scope.names [])) s3.heap.objs.size X.env)) (compPost (model X.prog X.w) X.A X.xe use _ (.ref D) s3.heap.objs.size) { s3 with heap := pushCells (s3.heap.push { cls := .type "dict", data := .dict #[] }) scope.names }
  generalize ec : compEnvC scope (cellsFrom (s3.heap.objs.size + 1) scope.names (cloFrom X.env.cells scope.names [])) s3.heap.objs.size X.env = ce at K4 qg qt qk qv ⊢
  have eL : ce.locals = s3.heap.objs.size := by subst ec; rfl
  generalize eG : upd G D (dN X.w D []) = G3 at K3 K4 qg qt qk qv w0 np p3
  generalize e4 : ({ s3 with heap := pushCells (s3.heap.push { cls := .type "dict", data := .dict #[] }) scope.names } : Shared) = s4 at K4 ⊢
  have t4 : tn 0 s4.heap := T.keep _ _ _ t3 fun b _ o y => by subst e4; exact pushCells_keeps _ _ _ _ (Heap.get?_push_of_some _ y)
  have still : ∀ {τ : L2.St} {F : Hp} {s' : Shared}, Inv (X.blk s3 G3 scope ce fp) [] τ F s' → (∀ b ∈ fp, F b = none) → ∀ b ∈ fp, FpOk (X.blk s3 G3 scope ce fp) [] F b := fun {τ F s'} L n b hb =>
    ⟨n b hb, (L.ok.exf b hb).1, L.ok.exfs b hb, .inl hb, fun x c y => (L.ok.exf b hb).2 x c y, fun p hp => absurd (show p ∈ ([] : List (Addr × Obj)) ++ [] from hp) (by simp)⟩
  have go : codeAny (model X.prog X.w) X.A (.compLoop (.DictComp kx vx [⟨tg, iter, ifs, 0⟩] scope pos) 0 (.ref it) (.ref D) ce) (compPost (model X.prog X.w) X.A X.xe use Qf (.ref D) s3.heap.objs.size) s4 := by
    refine compLoop_anyD (fun n s' => ∃ i F, Inv (X.blk s3 G3 scope ce fp) [] (wipe σ (own.map (·.2))) F s' ∧ tn i s'.heap ∧ (∀ b ∈ fp, F b = none) ∧ W i n F) ?_ m0 ⟨0, G3, K4, t4, np, w0⟩
    rintro n s5 ⟨i, F, L, t5, n5, w5⟩
    rcases turn i n F w5 with ⟨stop, qq⟩ | ⟨hgo, Nx, hNx, step⟩
    · refine thnF (T.done (X.blk s3 G3 scope ce fp) rfl rfl rfl hc i [] s5 _ F (fun _ _ => False) L (still L n5) t5 stop) fun r s6 ⟨hr, L6⟩ => ?_
      subst hr
      have M : Inv X pins σ F s6 := K3.call' (ch := fp) L6.os L6.base L6.hok L6.bare fun b hb => ⟨(p3 b hb).1.2.2.2.1, (p3 b hb).1.2.1, (p3 b hb).1.2.2.2.2.1, (p3 b hb).1.2.2.2.2.2⟩
      have nC : F s3.heap.objs.size = none := eL ▸ L6.free
      obtain ⟨m, hn, _⟩ := L6.loc
      have hn' : s6.heap.Ns ce.locals m := hn
      rw [eL] at hn'
      exact hR D s3.heap.objs.size s6 m F M qq hn' (K3.fpOk (Nat.le_refl _) nC)
    · refine thnF (T.item (X.blk s3 G3 scope ce fp) rfl rfl rfl hc i [] s5 _ F (fun _ _ => False) L (still L n5) t5 hgo) fun r s6 ⟨u, hr, h6⟩ => ?_
      subst hr
      refine thnF h6 fun _ s7 ⟨x, F7, L7, r7, y7, t7, n7⟩ => ?_
      have L7' := L7.pinned (still L7 n7) (T.obj _ _ t7)
      refine thnF (qg.run _ s7 _ F7 x u _ L7' r7 (step x F7 y7)) fun _ s8 ⟨τ, F8, L8, hw, q8⟩ => ?_
      refine thnF (qt.run _ s8 τ F8 _ L8 q8) fun c s9 ⟨F9, L9, q9⟩ => ?_
      have fin : ∀ {s' : Shared} {F' : Hp}, Inv (X.blk s3 G3 scope ce fp) ([] ++ pinsAt fp s7.heap) τ F' s' → Nx F' → ∃ m, m < n ∧ ∃ i F', Inv (X.blk s3 G3 scope ce fp) [] (wipe σ (own.map (·.2))) F' s' ∧ tn i s'.heap ∧ (∀ b ∈ fp, F' b = none) ∧ W i m F' := fun {s' F'} L' nx => by
        obtain ⟨m', hm, w'⟩ := hNx F' nx
        have pin : ∀ b ∈ fp, ∀ o, s7.heap.get? b = some o → s'.heap.get? b = some o ∧ F' b = none := fun b hb o y =>
          have z := L'.pin (b, o) (List.mem_append_right _ (List.mem_append_right _ (mem_pinsAt hb y)))
          ⟨z.1, z.2.1⟩
        refine ⟨m', hm, i + 1, F', (L'.unpinned (pins := [])).weak (by rw [← hw, wipe_length]) (fun j v y => ?_), T.keep _ _ _ t7 fun b hb o y => (pin b hb o y).1, fun b hb => ?_, w'⟩
        · rw [← hw] at y
          exact (wipe_some y).1
        · obtain ⟨o, y, _⟩ := T.obj _ _ t7 b hb
          exact (pin b hb o y).2
      cases c with
      | false =>
        simp only [Bool.false_eq_true, if_false] at q9 ⊢
        exact fin L9 q9
      | true =>
        simp only [if_true] at q9 ⊢
        refine thnF (qk.run _ s9 τ F9 _ L9 q9) fun a1 s10 ⟨yk, F10, L10, r10, q10⟩ => ?_
        refine thnF (qv.run _ s10 τ F10 _ L10 q10) fun a2 s11 ⟨yv, F11, L11, r11, es, k, b, ek, hb, hD, hk, hz, nx⟩ => ?_
        subst ek
        cases (show a1 = Value.ref b from r10)
        exact set_n (X := X.blk s3 G3 scope ce fp) (by show X.A.units + 16 < cLine; omega) L11 hD hk hb hz r11 fun s12 L12 => fin L12 nx
  exact codeAny_compStart_dict go (T.self X.A 0 _ _ _ t4 go)
theorem pe_dcN (hu : X.A.units + 64 < cLine) (hc : X.calm = true) (hN : X.N.Nodup) (hi : PI X tg iter src) (ok : BlkOk X.N X.env.scope scope own)
    (hg : ∀ (s : Shared) (G : Hp) (C : Addr) (cl : List (Str × Addr)) (fp : List Addr), PG (X.blk s G scope (compEnvC scope cl C X.env) fp) tg g)
    (ht : ∀ (s : Shared) (G : Hp) (C : Addr) (cl : List (Str × Addr)) (fp : List Addr), PTs (X.blk s G scope (compEnvC scope cl C X.env) fp) ifs tt)
    (hk : ∀ (s : Shared) (G : Hp) (C : Addr) (cl : List (Str × Addr)) (fp : List Addr), PE (X.blk s G scope (compEnvC scope cl C X.env) fp) kx tk)
    (hv : ∀ (s : Shared) (G : Hp) (C : Addr) (cl : List (Str × Addr)) (fp : List Addr), PE (X.blk s G scope (compEnvC scope cl C X.env) fp) vx tv)
    (hs : ∀ x, foldedSetIterable iter X.env x = pure x := by intro _; rfl) : PE X (.DictComp kx vx [⟨tg, iter, ifs, 0⟩] scope pos) (tDcN X.K X.w src g tt tk tv (own.map (·.2))) := by
  refine ⟨fun pins s σ H Q I h => ?_⟩
  rw [arm_eval_DictComp]
  refine dcN_core I hu hc hN hi ok hg ht hk hv hs h fun D C s' m F J q hn f => ⟨m, hn, fun h'' sb => ?_⟩
  obtain ⟨y0, y1, y2, y3, y4, y5⟩ := f
  exact ⟨.ref D, F, J.turned (t' := s'.toks) (fun b o hb z => (sb.2 b hb).trans z) y0 y1 y3 y4 y5, rfl, q⟩
theorem ps_setDcN {i : Nat} {y : Str} {py spos : Pos} (hy : X.N[i]? = some y) (hl : X.env.scope.names.lookup y = some .local) (hsw : swapsWith (.DictComp kx vx [⟨tg, iter, ifs, 0⟩] scope pos) (some (.Name y py)) spos.line X.env = pure true)
    (hu : X.A.units + 64 < cLine) (hc : X.calm = true) (hN : X.N.Nodup) (hi : PI X tg iter src) (ok : BlkOk X.N X.env.scope scope own)
    (hg : ∀ (s : Shared) (G : Hp) (C : Addr) (cl : List (Str × Addr)) (fp : List Addr), PG (X.blk s G scope (compEnvC scope cl C X.env) fp) tg g)
    (ht : ∀ (s : Shared) (G : Hp) (C : Addr) (cl : List (Str × Addr)) (fp : List Addr), PTs (X.blk s G scope (compEnvC scope cl C X.env) fp) ifs tt)
    (hk : ∀ (s : Shared) (G : Hp) (C : Addr) (cl : List (Str × Addr)) (fp : List Addr), PE (X.blk s G scope (compEnvC scope cl C X.env) fp) kx tk)
    (hv : ∀ (s : Shared) (G : Hp) (C : Addr) (cl : List (Str × Addr)) (fp : List Addr), PE (X.blk s G scope (compEnvC scope cl C X.env) fp) vx tv)
    (hs : ∀ x, foldedSetIterable iter X.env x = pure x := by intro _; rfl) : PS X (.Assign [.Name y py] (.DictComp kx vx [⟨tg, iter, ifs, 0⟩] scope pos) spos) (tAsg (tDcN X.K X.w src g tt tk tv (own.map (·.2))) (gName i)) := by
  refine ⟨fun pins s σ H Ds I h => ?_⟩
  rw [exec_Assign_Name_used _ _ _ _ hsw]
  refine wpAny_bind (wpAny_standAt (wpAny_bind ?_))
  show wpAny _ X.A (do let _ ← comprehension (.DictComp kx vx [⟨tg, iter, ifs, 0⟩] scope pos) scope X.env (firstIterPos [⟨tg, iter, ifs, 0⟩] pos) newDict false (eval iter X.env) (some (assign (.Name y py) X.env))) _ _ s
  have h' : tDcN X.K X.w src g tt tk tv (own.map (·.2)) σ H (fun x G => gName i x σ G Ds.nx) := h
  exact wpAny_bind (thn (dcN_core (Qf := fun _ s' => SP X pins Ds .next s') I hu hc hN hi ok hg ht hk hv hs h' fun D C s' m F J q hn f => R1.dc_store hN hy hl J q hn f) fun _ s' hq => wpAny_pure (wpAny_pure hq))
end
section
variable {J : It} {n : Nat} {G : Hp → Prop} {Y : Nat → Hp → V → Hp → Prop} {g : TG} {tt : TT} {tk tv : TE} {vs : List Nat} {σ : L2.St} {H1 : Hp} {D : Addr} {Qd : Hp → Prop} {K : PySem.W.Frag} {w : World}
theorem dN_it (wk : Walk J n G Y) (Pv : Nat → Hp → Prop) (h0 : Pv 0 (upd H1 D (dN w D []))) (hG : ∀ i H, i ≤ n → Pv i H → G H)
    (hs : ∀ i x H H', i < n → Pv i H → Y i H x H' → g x (wipe σ vs) H' fun τ F2 => wipe τ vs = wipe σ vs ∧ tt τ F2 fun c F3 =>
      if c = true then tk τ F3 fun y F4 => tv τ F4 fun z F5 => ∃ es k b, y = .ref b ∧ KeyAt K F5 k b ∧ F5 D = some (dN w D es) ∧ KeysAt K F5 es ∧ es.length < sizeLine ∧ Pv (i + 1) (upd F5 D (dN w D (putN es k b z))) else Pv (i + 1) F3) (hd : ∀ H, Pv n H → Qd H) :
    ∃ W : Nat → Nat → Hp → Prop, (∃ m, W 0 m (upd H1 D (dN w D []))) ∧ ∀ i m F, W i m F → (J.stop i F ∧ Qd F) ∨ (J.go i F ∧ ∃ Nx : Hp → Prop, (∀ F', Nx F' → ∃ m', m' < m ∧ W (i + 1) m' F') ∧ ∀ x F', J.yld i F x F' → g x (wipe σ vs) F' fun τ F2 => wipe τ vs = wipe σ vs ∧ tt τ F2 fun c F3 =>
      if c = true then tk τ F3 fun y F4 => tv τ F4 fun z F5 => ∃ es k b, y = .ref b ∧ KeyAt K F5 k b ∧ F5 D = some (dN w D es) ∧ KeysAt K F5 es ∧ es.length < sizeLine ∧ Nx (upd F5 D (dN w D (putN es k b z))) else Nx F3) := by
  refine ⟨fun i m F => i + m = n ∧ Pv i F, ⟨n, by omega, h0⟩, fun i m F hW => ?_⟩
  obtain ⟨hm, p⟩ := hW
  have q := hG i F (by omega) p
  by_cases lt : i < n
  · exact .inr ⟨wk.goes i F lt q, Pv (i + 1), fun F' p' => ⟨m - 1, by omega, by omega, p'⟩, fun x F' y => hs i x F F' lt p (wk.yields i F x F' lt q y)⟩
  · obtain rfl : i = n := by omega
    exact .inl ⟨wk.stops F q, hd F p⟩
end
end RN

/-! d.items(), list of it, dict(pairs), of dicts with nested keys -/
namespace RN
open PySem PySem.Spec PyProof.Rows L2
section
variable {X : Cx}
theorem re_at : ∀ {es : List Ent} {xs : List (NestedKey × Addr × Value)}, RE es xs → ∀ (j : Nat) (p : Ent), es[j]? = some p → ∃ q, xs[j]? = some q ∧ p.1 = q.1 ∧ p.2.1 = q.2.1 ∧ RelV p.2.2 q.2.2
  | _, _, .nil, j, p, h => by simp at h
  | _, _, .cons e t, 0, p, h => by cases h; exact ⟨_, rfl, e⟩
  | _, _, .cons e t, j + 1, p, h => by simpa using re_at t j p (by simpa using h)
theorem re_vals : ∀ {es : List Ent} {xs : List (NestedKey × Addr × Value)}, RE es xs → Vals (es.map fun p => p.2.2) (xs.map fun q => q.2.2) ∧ Vals (es.map fun p => V.ref p.2.1) (xs.map fun q => Value.ref q.2.1)
  | _, _, .nil => ⟨.nil, .nil⟩
  | _, _, .cons e t => ⟨.cons e.2.2 (re_vals t).1, .cons (show Value.ref _ = Value.ref _ from congrArg Value.ref e.2.1.symm) (re_vals t).2⟩
theorem raw_n {pins : List (Addr × Obj)} {σ : L2.St} {H : Hp} {s : Shared} {d : Addr} {es : List Ent} (I : Inv X pins σ H s) (hd : H d = some (dN X.w d es)) :
    es.length ≤ sizeLine ∧ (d == sysModules) = false ∧ ∃ xs arr ep, RE es xs ∧ s.heap.DictRaw d arr ep ∧ arr.toList = xs.map fun x => (⟨x.1.hash X.w, .ref x.2.1, x.2.2⟩ : DictEntry) := by
  obtain ⟨⟨a1, a2, xs, a3, a4, o, arr, ep, b1, b2, b3, b4⟩, _, _⟩ := (show ObjOk X.prog X.w H s.heap d (dN X.w d es) from I.hok d _ hd)
  exact ⟨a1, a2, xs, arr, ep, a3, ⟨o, b1, b2, b3⟩, b4⟩
/-- d.items() -/
def rItemsN (w : World) : V → List V → Hp → VK → Prop := fun x vs H Q => ∃ (d : Addr) (es : List Ent), x = .ref d ∧ vs = [] ∧ H d = some (dN w d es) ∧ ∀ p, H p = none → Q (.ref p) (upd H p (L2.DX.itemsO p d))
theorem mt_itemsN {w : World} (hW : X.w = w) : MtR X "dict.items" (rItemsN w) := by
  subst hW
  intro pins s σ H x vs v us Q I rx rxs h
  obtain ⟨d, es, rfl, rfl, hd, q⟩ := h
  cases rx
  cases rxs
  obtain ⟨_, lo, xs, arr, ep, _, ⟨o, b1, b2, b3⟩, _⟩ := raw_n I hd
  refine DT.callItems (es := arr) (ep := ep) lo ⟨o, b1, b2, b3⟩ ?_
  have hf : H s.heap.objs.size = none := I.hok.fresh (Nat.le_refl _)
  exact ⟨.ref s.heap.objs.size, upd H s.heap.objs.size (L2.DX.itemsO s.heap.objs.size d), I.laid (t' := s.toks) (fun b u e => Heap.get?_push_of_some _ e) (Nat.le_refl _) (L2.DX.itemsO_ok (Heap.get?_push_size _ rfl)), rfl, q _ hf⟩
/-- list(d.items()) -/
def rListItN (w : World) : List V → Hp → VK → Prop := fun vs H Q => ∃ (p d : Addr) (es : List Ent), vs = [.ref p] ∧ H p = some (L2.DX.itemsO p d) ∧ H d = some (dN w d es) ∧ es.length ≤ 1000 ∧
  ∀ (H2 : Hp) (l : Addr) (as : List Addr), Same H H2 → H l = none → as.length = es.length → H2 l = some (.lst (as.map V.ref)) → (∀ (j : Nat) (c : Addr) (e : Ent), as[j]? = some c → es[j]? = some e → H2 c = some (.tup [.ref e.2.1, e.2.2])) → Q (.ref l) H2
theorem call_listItN {w : World} (hc : X.calm = true) (hW : X.w = w) : CallR X (.type "list") (rListItN w) := by
  subst hW
  intro pins s σ H vs us Q I r h
  obtain ⟨p, d, es, rfl, hp, hd, hl, q⟩ := h
  obtain ⟨u, rfl, rx⟩ := vals1 r
  cases rx
  obtain ⟨_, lo, xs, arr, ep, re, raw, ha⟩ := raw_n I hd
  have hv : s.heap.IsItemsView p d := (show ObjOk X.prog X.w H s.heap p (L2.DX.itemsO p d) from I.hok p _ hp).1
  have l1 : xs.length = es.length := (Paired.length re).symm
  have l2 : arr.size = es.length := by
    rw [← Array.length_toList, ha, List.length_map, l1]
  obtain ⟨rv, rk⟩ := re_vals re
  refine PySem.W.dil_call (I.ok.hd hc) hv raw (by rw [l2, sizeLine_eq]; omega) fun h' tk acc c as hk hS hal G hacc => ?_
  have G2 : R1.Prs h' (s.heap.objs.size + 1) (xs.map fun q => Value.ref q.2.1).toArray (xs.map fun q => q.2.2).toArray as := by
    refine ⟨G.rise, fun c hc => G.above c hc, fun j c hj => ?_⟩
    obtain ⟨hj2, e⟩ := G.pairs j c hj
    have hx : j < xs.length := by rw [l1, ← l2]; exact hj2
    have e1 : arr[j] = (⟨xs[j].1.hash X.w, .ref xs[j].2.1, xs[j].2.2⟩ : DictEntry) := by
      have z : arr.toList[j]? = some arr[j] := by rw [Array.getElem?_toList]; exact Array.getElem?_eq_getElem hj2
      rw [ha, List.getElem?_map, List.getElem?_eq_getElem hx] at z
      exact (Option.some.inj z).symm
    rw [e1] at e
    exact ⟨_, _, by simp [hx], by simp [hx], e⟩
  obtain ⟨H2, sm, n0, at0, att, J⟩ := R1.zip_laid (tk := tk) I rk rv (by omega) hk (Nat.le_refl _) (Nat.lt_succ_self _) hS G2 hacc
  refine ⟨.ref s.heap.objs.size, H2, J, rfl, q H2 _ as sm n0 (by omega) at0 fun j c e hj he => att j c _ _ hj (by rw [List.getElem?_map, he]; rfl) (by rw [List.getElem?_map, he]; rfl)⟩
/-- tuple(xs) of a list, the very object known -/
def FrzT (H : Hp) (a : Addr) (xs : List V) : Prop := ∃ o : Obj, o.dict = none ∧ H a = some (.frz o (.tup xs))
theorem call_tupleF : CallR X (.type "tuple") (fun vs H Q => ∃ p ys, vs = [V.ref p] ∧ H p = some (.lst ys) ∧ ∀ l H', H l = none → Same H H' → FrzT H' l ys → Q (.ref l) H') := by
  intro pins s σ H vs us Q I r h
  obtain ⟨p, ys, rfl, hp, q⟩ := h
  obtain ⟨u, rfl, rx⟩ := vals1 r
  cases rx
  obtain ⟨its, r', pl, hz⟩ := I.list (show SqL X.K H p ys from .of hp)
  have hlen := r'.length
  refine call_tuple_list pl.isList (fun h' kp => ?_) (by simp only [List.size_toArray] <;> omega)
  have I1 : Inv X pins σ H { s with heap := h' } := I.kept (t' := s.toks) kp
  have nl : H h'.objs.size = none := I1.hok.fresh (Nat.le_refl _)
  have I2 : Inv X pins σ (upd H h'.objs.size (.frz { cls := .type "tuple", data := .seq its.toArray } (.tup ys))) { s with heap := h'.push { cls := .type "tuple", data := .seq its.toArray } } :=
    I1.laid (t' := s.toks) (fun b o e => Heap.get?_push_of_some _ e) (Nat.le_refl _) ⟨Heap.get?_push_size _ rfl, hz, its, r', IsTup.new _ _⟩
  refine ⟨.ref h'.objs.size, _, I2, rfl, q _ _ nl (fun a o e => by rw [upd_ne (ne_of_none e nl)]; exact e) ⟨_, rfl, upd_same⟩⟩
/-- dict(t), t a tuple of pairs with different keys -/
def rDictPN (K : PySem.W.Frag) (w : World) : List V → Hp → VK → Prop := fun vs H Q => ∃ (t : Addr) (cs : List Addr) (es : List Ent), vs = [.ref t] ∧ FrzT H t (cs.map V.ref) ∧ cs.length = es.length ∧ es.length ≤ 1000 ∧
  (∀ (j : Nat) (c : Addr) (e : Ent), cs[j]? = some c → es[j]? = some e → SqT K H c [.ref e.2.1, e.2.2]) ∧ KeysAt K H es ∧ (es.map (·.1)).Nodup ∧ ∀ d, H d = none → Q (.ref d) (upd H d (dN w d es))
theorem re_nodup : ∀ {es : List Ent} {xs : List (NestedKey × Addr × Value)}, RE es xs → es.map (·.1) = xs.map (·.1)
  | _, _, .nil => rfl
  | _, _, .cons e t => by rw [List.map_cons, List.map_cons, re_nodup t, e.1]
theorem pairs_n {pins : List (Addr × Obj)} {σ : L2.St} {H : Hp} {s : Shared} (I : Inv X pins σ H s) : ∀ (es : List Ent) (cs : List Addr), cs.length = es.length → (∀ (j : Nat) (c : Addr) (e : Ent), cs[j]? = some c → es[j]? = some e → SqT X.K H c [.ref e.2.1, e.2.2]) →
    ∃ xs, RE es xs ∧ ∀ (j : Nat) (c : Addr) (x : NestedKey × Addr × Value), cs[j]? = some c → xs[j]? = some x → s.heap.IsTuple c #[.ref x.2.1, x.2.2]
  | [], [], _, _ => ⟨[], .nil, fun j c x h => by simp at h⟩
  | e :: es, c :: cs, hl, f => by
    obtain ⟨xs, re, g⟩ := pairs_n I es cs (Nat.succ.inj hl) fun j b p h1 h2 => f (j + 1) b p (by simpa using h1) (by simpa using h2)
    obtain ⟨its, rv, ht, _⟩ := I.tuple (f 0 c e rfl rfl)
    obtain ⟨u1, u2, rfl, e1, e2⟩ := vals2 rv
    cases e1
    refine ⟨(e.1, e.2.1, u2) :: xs, .cons ⟨rfl, rfl, e2⟩ re, fun j b x h1 h2 => ?_⟩
    cases j with
    | zero => cases h1; cases h2; exact ht
    | succ j => exact g j b x (by simpa using h1) (by simpa using h2)
theorem refs_of : ∀ {cs : List Addr} {us : List Value}, Vals (cs.map V.ref) us → us = cs.map Value.ref
  | [], _, r => by cases r; rfl
  | c :: cs, _, r => by
    rw [List.map_cons] at r
    cases r with
    | cons h t => cases h; rw [List.map_cons, ← refs_of t]
theorem call_dictPN {K : PySem.W.Frag} {w : World} (hc : X.calm = true) (hu : X.A.units + 16 < cLine) (hK : X.K = K) (hW : X.w = w) : CallR X (.type "dict") (rDictPN K w) := by
  subst hK hW
  intro pins s σ H vs us Q I r h
  obtain ⟨t, cs, es, rfl, ⟨o, hod, ht⟩, hl, hl2, hp, hk, hn, q⟩ := h
  obtain ⟨u, rfl, rx⟩ := vals1 r
  cases rx
  obtain ⟨ho, hz, its, rv, o2, ho2, hcl, n, hdat⟩ := (show ObjOk X.prog X.w H s.heap t (.frz o (.tup (cs.map V.ref))) from I.hok t _ ht)
  rw [ho] at ho2
  obtain rfl : o = o2 := Option.some.inj ho2
  have ei := refs_of rv
  subst ei
  obtain ⟨xs, re, g⟩ := pairs_n I es cs hl hp
  have lx : xs.length = es.length := (Paired.length re).symm
  have nd : (xs.map (·.1)).Nodup := by rw [← re_nodup re]; exact hn
  have hi : ∀ x ∈ xs, (nestedKind X.prog X.w).is s.heap x.1 x.2.1 := re_keys re (P := fun k b => (nestedKind X.prog X.w).is s.heap k b) fun p hp => key_is I (hk p hp)
  have lps : (xs.map fun x => (Value.ref x.2.1, x.2.2)).length = xs.length := by rw [List.length_map]
  have c1 : X.A.units + 16 < cLine := hu
  refine call_dict_pairsH (knd := nestedKind X.prog X.w) (ps := xs) (PairArg.tuple t (cs.map Value.ref).toArray (fun j => cs.getD j 0) (xs.map fun x => (Value.ref x.2.1, x.2.2))) (I.ok.hd hc) (by show X.A.in1.in1.units + 8 < cLine; simp only [Around.in1_units]; omega)
    ⟨⟨o, n, ho, hcl, hod, hdat⟩, ⟨by simp; omega, fun j k v hj => ?_⟩⟩ ⟨lps.symm, fun i key v hi => ?_⟩ (fun h' kp x hx => ?_) (by rw [lps, lx, sizeLine_eq]; omega) fun h' tk dd kp => ?_
  · rw [List.getElem?_map] at hj
    cases e : xs[j]? with
    | none => rw [e] at hj; cases hj
    | some x =>
      rw [e] at hj
      cases hj
      have hj2 : j < cs.length := by
        have := (List.getElem?_eq_some_iff.mp e).1
        omega
      have gc : cs[j]? = some cs[j] := List.getElem?_eq_getElem hj2
      have gd : cs.getD j 0 = cs[j] := by rw [List.getD_eq_getElem?_getD, gc]; rfl
      refine ⟨by simp [hj2], .inl ?_⟩
      show s.heap.IsTuple (cs.getD j 0) _
      rw [gd]
      exact g j _ x gc e
  · have hi' : (xs.map fun x => (Value.ref x.2.1, x.2.2))[i]? = some (key, v) := hi
    rw [List.getElem?_map] at hi'
    cases e : xs[i]? with
    | none => rw [e] at hi'; cases hi'
    | some x =>
      rw [e] at hi'
      cases hi'
      exact ⟨x.1, x.2.1, rfl, rfl⟩
  · exact ⟨NestedIs.at (fun a ob vs m hb _ => kp a ob (Nat.ne_of_lt (Heap.lt_size hb)) (by simp) hb) _ _ (hi x hx).1, (hi x hx).2⟩
  · have k2 : ∀ b ob, s.heap.get? b = some ob → h'.get? b = some ob := fun b ob e => kp b ob (by simp) e
    rw [storedAllH_nil_of_nodup xs nd] at dd
    obtain ⟨od, arr, ep, b1, b2, b3, b4, _, b5⟩ := dd
    have hm : (s.heap.objs.size == sysModules) = false := beq_eq_false_iff_ne.mpr (Nat.ne_of_gt I.big)
    exact ⟨.ref s.heap.objs.size, _, I.laid (t' := tk) k2 (Nat.le_refl _) (dN_ok ⟨by rw [sizeLine_eq]; omega, hm, xs, re, nd, od, arr, ep, b1, b2, b3, b4⟩), rfl, q _ (I.hok.fresh (Nat.le_refl _))⟩
end
end RN

/-! [d, l] != [d2, l2], a dict and a list within -/
namespace RN
open PySem PySem.Spec PyProof.Rows L2 SeqAt
theorem kv_same {kvs : List (Key × V)} : ∀ {xs ys : List (Key × Value)}, (∀ p ∈ kvs, ∃ a, p.2 = V.ref a) → KV kvs xs → KV kvs ys → xs = ys := by
  intro xs ys h r t
  induction r generalizing ys with
  | nil => cases t; rfl
  | @cons p q ps qs e r ih =>
    cases t with
    | @cons _ q2 _ qs2 e2 t =>
      obtain ⟨a, ha⟩ := h p List.mem_cons_self
      have z1 := e.2
      have z2 := e2.2
      rw [ha] at z1 z2
      have : q = q2 := Prod.ext (e.1.symm.trans e2.1) ((show q.2 = Value.ref a from z1).trans (show q2.2 = Value.ref a from z2).symm)
      rw [this, ih (fun p hp => h p (List.mem_cons_of_mem _ hp)) t]
theorem hits_self {A : Around} {s : Shared} {kb : List (Key × Value)} : ∀ (l : List (Key × Value)), (∀ p ∈ l, valueAt kb p.1 = some p.2) → PySem.W.KeqHits A s kb l true
  | [], _ => .nil
  | (k, v) :: r, h => by
    have := PySem.W.KeqHits.hit (A := A) (s := s) (h (k, v) List.mem_cons_self) (EqAt.same v) (hits_self r fun p hp => h p (List.mem_cons_of_mem _ hp))
    exact this
theorem pairs_to {P P' : Program} {w w' : World} : ∀ {es : List DictEntry} {xs : List (Key × Value)}, Pairs (mixKind P w) es xs → Pairs (mixKind P' w') es xs
  | _, _, .nil => .nil
  | _, _, .cons h e t => .cons h e (pairs_to t)
theorem pairs_mem {P : Program} {w : World} : ∀ {es : List DictEntry} {xs : List (Key × Value)}, Pairs (mixKind P w) es xs → ∀ e ∈ es, ∃ p ∈ xs, (mixKind P w).is p.1 e.key = true
  | _, _, .nil, _, h => nomatch h
  | _, _, .cons (kv := kv) h e t, x, hx => by
    rcases List.mem_cons.mp hx with rfl | hx
    · exact ⟨kv, List.mem_cons_self, h⟩
    · obtain ⟨p, hp, q⟩ := pairs_mem t x hx
      exact ⟨p, List.mem_cons_of_mem _ hp, q⟩
/-- a dict with int keys alone is one whatever the world -/
theorem dict_any {P P' : Program} {w w' : World} {h : Heap} {d : Addr} {xs : List (Key × Value)} (hi : ∀ p ∈ xs, ∃ n, p.1 = Sum.inl n) (x : h.DictOf (mixKind P w) d xs) : h.DictOf (mixKind P' w') d xs := by
  obtain ⟨o, es, ep, a1, a2, a3, a4, a5, a6⟩ := x
  refine ⟨o, es, ep, a1, a2, a3, fun e he => ?_, pairs_to a5, a6⟩
  obtain ⟨k, k1, k2⟩ := a4 e he
  obtain ⟨p, hp, p1⟩ := pairs_mem a5 e (by simpa using he)
  obtain ⟨n, hn⟩ := hi p hp
  have := (mixKind P w).inj _ _ _ k1 p1
  rw [hn] at this
  subst this
  exact ⟨.inl n, k1, k2⟩
section
variable {X : Cx}
def rNeDL (K : PySem.W.Frag) : R2 := fun x y H Q => ∃ (l m d e a b : Addr) (kvs : List (Key × V)) (u : PyData), x = .ref l ∧ y = .ref m ∧ SqL K H l [.ref d, .ref a] ∧ SqL K H m [.ref e, .ref b] ∧ H d = some (.dK kvs) ∧ H e = some (.dK kvs) ∧ (∀ p ∈ kvs, (∃ n, p.1 = Sum.inl n) ∧ ∃ c, p.2 = .ref c) ∧
  Dp K H (.ref a) u ∧ Dp K H (.ref b) u ∧ SeqAt.shaped u = true ∧ PyData.eqv u u = true ∧ Q (.bl false) H
theorem op_neDL (hu : X.A.units + 80 < cLine) : OpR X (compareOp .NotEq) (rNeDL X.K) := by
  intro pins s σ H x y v w Q I rx ry h
  obtain ⟨l, m, d, e, a, b, kvs, u, rfl, rfl, hl, hm, hd, he, hr, ha, hb, hs, huu, q⟩ := h
  cases rx
  cases ry
  obtain ⟨i1, r1, p1, _⟩ := I.list hl
  obtain ⟨i2, r2, p2, _⟩ := I.list hm
  obtain ⟨u1, u2, rfl, e1, e2⟩ := vals2 r1
  obtain ⟨u3, u4, rfl, e3, e4⟩ := vals2 r2
  cases e1; cases e2; cases e3; cases e4
  obtain ⟨zd, lod, xs, kx, dx⟩ := dk_of I.hok hd
  obtain ⟨ze, loe, ys, ky, dy⟩ := dk_of I.hok he
  obtain rfl := kv_same (fun p hp => (hr p hp).2) kx ky
  have nd : (xs.map (·.1)).Nodup := let ⟨_, _, _, _, _, _, _, _, z⟩ := dx; z
  have hi : ∀ p ∈ xs, ∃ n, p.1 = Sum.inl n := fun p hp => by
    obtain ⟨j, hj⟩ := List.mem_iff_getElem?.mp hp
    have e1 : (kvs.map (·.1))[j]? = some p.1 := by rw [KV.keys kx, List.getElem?_map, hj]; rfl
    rw [List.getElem?_map] at e1
    cases e2 : kvs[j]? with
    | none => rw [e2] at e1; cases e1
    | some z =>
      rw [e2] at e1
      obtain ⟨n, hn⟩ := (hr z (List.mem_of_getElem? e2)).1
      exact ⟨n, (Option.some.inj e1).symm.trans hn⟩
  have c1 : X.A.units + 80 < cLine := hu
  have eqD : EqAt X.A.in1 s (.ref d) (.ref e) true := by
    by_cases c : d = e
    · subst c
      exact EqAt.same _
    · refine EqAt.of_refs c fun P' w' E' Q' h' => ?_
      refine PySem.W.keq_eq (knd := mixKind P' w') (r := true) lod loe (dict_any hi dx) (dict_any hi dy) (by simp only [Around.in1_units]; omega) (fun _ => hits_self xs fun p hp => valueAt_of_mem nd hp) ?_
      simpa using h'
  obtain ⟨as, ra⟩ := Dp.reads I u _ (.ref a) ha rfl
  obtain ⟨bs, rb⟩ := Dp.reads I u _ (.ref b) hb rfl
  have eqL : EqAt X.A.in1 s (.ref a) (.ref b) true := by
    have := PySem.W.keq_at (A := X.A) ra rb hs hs (by simp only [Around.in1_units]; omega)
    rw [huu] at this
    exact this
  have key := RcNeAt.lists (A := X.A) (e := fun _ => true) p1.isList p2.isList rfl (by omega) (fun j h1 h2 => by
    match j, h1, h2 with
    | 0, _, _ => exact eqD
    | 1, _, _ => exact eqL
    | j + 2, h1, _ => exact absurd (show j + 2 < 2 from h1) (by omega))
  exact key X.prog X.w _ _ ⟨.bl false, H, I, rfl, q⟩
end
end RN

/-! o[k] by the class's own __getitem__, as an expression -/
namespace R1
open PySem PySem.Spec PyProof.Rows L2
section
variable {X : Cx} {CX : CXT} {n : Nat} {C g : Addr} {sp : Sp} {E : XK} {o i : Expr} {to ti : TE} {pos : Pos}
def tIxO (C : Addr) (sp : Sp) (E : XK) (to ti : TE) : TE := fun σ H Q => to σ H fun x H1 => ti σ H1 fun y H2 => rIxO C sp E x y H2 Q
theorem pe_ixO (ho : PE X o to) (hi : PE X i ti) (hs : PySem.W.findIn X.K (.ref C) "__getitem__" = some (some (.ref g))) (hf : PySem.W.fnIn X.K g = true) (hfn : PySem.W.isFn X.K (.ref g) = true) (F : FnR X.prog X.w X.K X.mg X.base CX n g sp) (hr : Room (n + 1) X.A) (hx : Passes CX X E)
    (hsl : ∀ (x : Addr) (v : Value), subscripted i true (.ref x) v = runValue (.builtin "lifetime.subscript" ⟨[.ref x, v], []⟩)) : PE X (.Subscript o i pos) (tIxO C sp E to ti) := by
  refine ⟨fun pins s σ H Q I h => Subscript_ (thn (ho.run pins s σ H _ I h) fun u s1 ⟨x, H1, I1, rx, q1⟩ => thn (hi.run pins s1 σ H1 _ I1 q1) fun iv s2 ⟨y, H2, I2, ry, a, dx, fs, ex, ha, q⟩ => ?_)⟩
  subst ex
  cases rx
  obtain ⟨mA, J, _⟩ := ins_get I2.hok ha
  obtain ⟨od, J, _⟩ := J.look
  obtain ⟨m, hF⟩ := I2.fr
  exact PySem.W.sub_K hF I2.ok.mod.kin J hs hf hfn (wpAny_call (run_fnR1 (us := [.ref a, iv]) (vs := [.ref a, y]) F hr hx I2 (.cons rfl (.cons ry .nil)) q)) (hsl a iv)
end
end R1

/-! d.items() of a dict with nested keys, as an expression -/
namespace RN
open PySem PySem.Spec PyProof.Rows L2
section
variable {X : Cx} {o : Expr} {to : TE} {apos cpos : Pos}
def tItN (w : World) (to : TE) : TE := fun σ H Q => to σ H fun x H1 => rItemsN w x [] H1 Q
theorem pe_itemsN {w : World} (hW : X.w = w) (ho : PE X o to) (hb : attributeBase o "items" X.env (eval o X.env) = eval o X.env := by rfl) (hl : (apos.endLine == cpos.line) = true := by rfl) : PE X (.Call (.Attribute o "items" apos) [] [] cpos) (tItN w to) := by
  refine ⟨fun pins s σ H Q I h => wpAny_Call_method0_late hb hl (thn (ho.run pins s σ H _ I h) fun v s1 ⟨x, H1, I1, r1, q1⟩ => ?_)⟩
  have q2 := q1
  obtain ⟨d, es, rfl, _, hd, _⟩ := q2
  cases r1
  subst hW
  obtain ⟨_, _, _, _, _, _, ⟨ob, b1, b2, _⟩, _⟩ := raw_n I1 hd
  have there : ∀ c, Value.ref d = .ref c → ∃ u, s1.heap.get? c = some u ∧ u.dict = none := fun c e => by
    cases e
    exact ⟨ob, b1, b2.2.1⟩
  exact ⟨"dict", "dict.items", PySem.F.plainAttrs_dict, PySem.F.slot_dict_items, PySem.F.type_dict_items, ⟨ob, b1, b2.1⟩, there, Calls.callWith_builtin rfl (PySem.evalArgs_none (mt_itemsN rfl pins s1 σ H1 (.ref d) [] (.ref d) [] Q I1 rfl .nil q1))⟩
end
end RN

/-! within a try: o[k] by the class's own __getitem__; a call with keywords -/
namespace R1
open PySem PySem.Spec PyProof.Rows L2
section
variable {X : Cx} {CX : CXT} {n : Nat} {C g : Addr} {sp : Sp} {E : L2.St → XK} {o i : Expr} {to ti : TE} {pos : Pos}
def tIxOS (C : Addr) (sp : Sp) (E : L2.St → XK) (to ti : TE) : TE := fun σ H Q => to σ H fun x H1 => ti σ H1 fun y H2 => rIxO C sp (E σ) x y H2 Q
theorem run_fnR1S {pins : List (Addr × Obj)} {σ : L2.St} {H : Hp} {s : Shared} {Q : VK} {us : List Value} {vs : List V} (F : FnR X.prog X.w X.K X.mg X.base CX n g sp) (hr : Room (n + 1) X.A) (hx : PassesAt CX X σ (E σ)) (I : Inv X pins σ H s) (r : Vals vs us) (h : sp vs H Q (E σ)) :
    codeAny (model X.prog X.w) X.A.in1 (.call (.ref g) ⟨us, []⟩) (fun r s' => match r with | .ok (.ret v) => EP X pins σ Q v s' | .ok _ => False | .error e => X.xe e s') s := by
  refine codeAny_mono (F X.A.in1 X.stack s H us vs Q (E σ) hr.in1 I.env0.in1 r h) fun r s' hq => ?_
  cases r with
  | error e => exact hx pins H s e s' I hq
  | ok fl =>
    cases fl with
    | ret u => exact I.after hq
    | next => exact False.elim hq
    | brk => exact False.elim hq
    | cont => exact False.elim hq
theorem pe_ixOS (ho : PE X o to) (hi : PE X i ti) (hs : PySem.W.findIn X.K (.ref C) "__getitem__" = some (some (.ref g))) (hf : PySem.W.fnIn X.K g = true) (hfn : PySem.W.isFn X.K (.ref g) = true) (F : FnR X.prog X.w X.K X.mg X.base CX n g sp) (hr : Room (n + 1) X.A) (hx : ∀ σ, PassesAt CX X σ (E σ))
    (hsl : ∀ (x : Addr) (v : Value), subscripted i true (.ref x) v = runValue (.builtin "lifetime.subscript" ⟨[.ref x, v], []⟩)) : PE X (.Subscript o i pos) (tIxOS C sp E to ti) := by
  refine ⟨fun pins s σ H Q I h => Subscript_ (thn (ho.run pins s σ H _ I h) fun u s1 ⟨x, H1, I1, rx, q1⟩ => thn (hi.run pins s1 σ H1 _ I1 q1) fun iv s2 ⟨y, H2, I2, ry, a, dx, fs, ex, ha, q⟩ => ?_)⟩
  subst ex
  cases rx
  obtain ⟨mA, J, _⟩ := ins_get I2.hok ha
  obtain ⟨od, J, _⟩ := J.look
  obtain ⟨m, hF⟩ := I2.fr
  exact PySem.W.sub_K hF I2.ok.mod.kin J hs hf hfn (wpAny_call (run_fnR1S (us := [.ref a, iv]) (vs := [.ref a, y]) F hr (hx σ) I2 (.cons rfl (.cons ry .nil)) q)) (hsl a iv)
end
def tCallNS (n m : Nat) (sp : Sp) (gV : List V → List V → List V) (E : L2.St → XK) (t tk : TA) : TE := fun σ H Q => t σ H fun vs H1 => tk σ H1 fun zs H2 => vs.length = n ∧ zs.length = m ∧ sp (gV vs zs) H2 Q (E σ)
section
variable {X : Cx} {CX : CXT} {k n : Nat} {f : Addr} {fd : FuncData} {ps ks : List Str} {sp : Sp} {E : L2.St → XK} {x : Str} {p pos : Pos} {e : Expr} {es : List Expr} {kws : List Keyword} {t tk : TA} {g : List Value → List Value → List Value} {gV : List V → List V → List V}
theorem pe_callNS (F : FnOk X.prog X.w X.K X.mg X.base CX k f fd ps sp) (hr : Room k X.A) (hg : Gl X x) (hm : X.mg x = some (.ref f)) (hk : PySem.W.keepIn X.K (.ref f) = true) (hb : KBn X.K fd ps n ks g gV) (hx : ∀ σ, PassesAt CX X σ (E σ))
    (ha : PA X (e :: es) t) (hkw : PK X kws tk) (hall : (backToKw pos (keywordEach kws X.env)).all (·.1.isSome) = true := by rfl) (hks : (backToKw pos (keywordEach kws X.env)).filterMap (·.1) = ks := by rfl)
    (hdb : (x == ("__debug__" : Str)) = false := by decide) (he : starEach (e :: es) X.env = (false, eval e X.env) :: starEach es X.env := by rfl)
    (hpl : ((backTo pos (starEach (e :: es) X.env)).any (·.1) || (backToKw pos (keywordEach kws X.env)).any (·.1.isNone)) = false := by rfl) :
    PE X (.Call (.Name x p) (e :: es) kws pos) (tCallNS n ks.length sp gV E t tk) := by
  refine ⟨fun pins s σ H Q I h => wpAny_Call_Name_kw (ld_glob I hg hm ?_ hdb)⟩
  refine PySem.W.callWith_KW (h₀ := X.base) I.ok.mod.kin hk hall (thn (ha.run pos pins s σ H _ I h) fun us s1 ⟨vs, H1, I1, r, q⟩ => ?_) hpl he
  refine thn (hkw.run pos pins s1 σ H1 _ I1 q) fun ws s2 ⟨zs, H2, I2, rz, l1, l2, q2⟩ => ⟨I2.kIn, ?_⟩
  rw [hks]
  have rr := hb.rel r rz
  refine wpAny_call (codeAny_mono (F.run X.A X.stack s2 H2 ⟨us, ks.zip ws⟩ (g us ws) (gV vs zs) Q (E σ) hr I2.env0 (hb.to s2 us ws I2.kIn (r.length.symm.trans l1) (rz.length.symm.trans l2)) rr q2) fun rs s' hq => ?_)
  cases rs with
  | error er => exact hx σ pins H2 s2 er s' I2 hq
  | ok fl =>
    cases fl with
    | ret u => exact I2.after hq
    | next => exact False.elim hq
    | brk => exact False.elim hq
    | cont => exact False.elim hq
end
end R1

/-! for x in d.values(), d with nested keys, locked -/
namespace RN
open PySem PySem.Spec PyProof.Rows L2
section
variable {X : Cx} {pins : List (Addr × Obj)} {σ : L2.St} {H : Hp} {s : Shared} {d : Addr} {o : Obj} {es : List Ent} {P : Program} {w : World} {K : PySem.W.Frag} {tg e : Expr} {td : TE} {apos cpos : Pos}
def ItdN (w : World) (d : Addr) (o : Obj) (es : List Ent) : It :=
  ⟨fun i H => H d = some (.frz o (dN w d es)) ∧ i < es.length, fun i H x H' => H' = H ∧ ∃ p, es[i]? = some p ∧ x = p.2.2, fun i H => H d = some (.frz o (dN w d es)) ∧ es.length ≤ i⟩
theorem frz_n (I : Inv X pins σ H s) (h : H d = some (.frz o (dN X.w d es))) : (d == sysModules) = false ∧ s.heap.get? d = some o ∧ o.ExactDict ∧ ∃ xs arr ep, RE es xs ∧ o.data = .dict arr ep ∧ s.heap.DictRaw d arr ep ∧ arr.toList = xs.map fun x => (⟨x.1.hash X.w, .ref x.2.1, x.2.2⟩ : DictEntry) := by
  obtain ⟨hd, ⟨⟨a1, a2, xs, a3, a4, o', arr, ep, b1, b2, b3, b4⟩, _, _⟩⟩ := I.hok d _ h
  rw [hd] at b1
  cases b1
  exact ⟨a2, hd, b2, xs, arr, ep, a3, b3, ⟨o, hd, b2, b3⟩, b4⟩
theorem arr_at {es : List Ent} {xs : List (NestedKey × Addr × Value)} {arr : Array DictEntry} (re : RE es xs) (ha : arr.toList = xs.map fun x => (⟨x.1.hash w, .ref x.2.1, x.2.2⟩ : DictEntry)) : arr.size = es.length ∧ ∀ (i : Nat) (p : Ent) (hi : i < arr.size), es[i]? = some p → RelV p.2.2 arr[i].val := by
  have l1 : xs.length = es.length := (Paired.length re).symm
  have l2 : arr.size = es.length := by rw [← Array.length_toList, ha, List.length_map, l1]
  refine ⟨l2, fun i p hi hp => ?_⟩
  obtain ⟨q, hq, _, _, r⟩ := re_at re i p hp
  have z : arr.toList[i]? = some arr[i] := by rw [Array.getElem?_toList]; exact Array.getElem?_eq_getElem hi
  rw [ha, List.getElem?_map, hq] at z
  have := Option.some.inj z
  rw [← this]
  exact r
theorem turn_valsN {arr : Array DictEntry} {ep : Nat} (it : Addr) (hod : o.data = .dict arr ep) : Turn P w K tg (ItdN w d o es) [it] it (fun i h => h.IsValIter it d i es.length ep) where
  mem := by simp
  obj := fun i h st b hb => by
    have e : b = it := by simpa using hb
    subst e
    obtain ⟨oi, e, c, dd⟩ := st
    exact ⟨oi, e, fun v z => by rw [dd] at z; cases z⟩
  keep := fun i h h' st k => st.at fun oi e => k it (by simp) oi e
  item := by
    intro X hP hw hK hc i pins s σ H E I hf st hg
    subst hP hw hK
    obtain ⟨hd, hi⟩ := hg
    obtain ⟨f0, f1, f2, f3, f4, f5⟩ := hf it (by simp)
    obtain ⟨_, _, _, xs, arr', ep', re, hdt, raw, ha⟩ := frz_n I hd
    rw [hod] at hdt
    cases hdt
    obtain ⟨l2, av⟩ := arr_at re ha
    have gp : es[i]? = some es[i] := List.getElem?_eq_getElem hi
    have hi2 : i < arr.size := by omega
    rw [← l2] at st
    refine PySem.wpAny_pyNext_values_item_raw st raw hi2 fun h' st' sb => ?_
    have I1 : Inv X pins σ H { s with heap := h' } := I.turned (t' := s.toks) (fun b ob hb e => (sb.2 b hb).trans e) f0 f1 f3 f4 f5
    obtain ⟨oi, e, c, dd⟩ := id st'
    refine ⟨arr[i].val, rfl, go_of (s := { s with heap := h' }) e c dd (by decide) ⟨es[i].2.2, H, I1, av i _ hi2 gp, ⟨rfl, es[i], gp, rfl⟩, ?_, fun b hb => (hf b hb).1⟩⟩
    show h'.IsValIter it d (i + 1) es.length _
    rw [← l2]
    exact st'
  done := by
    intro X hP hw hK hc i pins s σ H E I hf st hg
    subst hP hw hK
    obtain ⟨hd, hi⟩ := hg
    obtain ⟨f0, f1, f2, f3, f4, f5⟩ := hf it (by simp)
    obtain ⟨_, _, _, xs, arr', ep', re, hdt, raw, ha⟩ := frz_n I hd
    rw [hod] at hdt
    cases hdt
    obtain ⟨l2, _⟩ := arr_at re ha
    rw [← l2] at st
    exact PySem.wpAny_pyNext_values_end_raw (I.ok.hd hc) st raw (by omega) fun h' eb => ⟨rfl, I.turned (t' := s.toks) (fun b ob hb e => eb b ob hb e) f0 f1 f3 f4 f5⟩
  self := fun A i s Q E st h => wpAny_pyIter_valiter st h
/-- the dict is locked (tLock, or by the caller) -/
def iValsN (w : World) (td : TE) : TI := fun σ H R => td σ H fun x H1 => ∃ d o es, x = .ref d ∧ H1 d = some (.frz o (dN w d es)) ∧ R (ItdN w d o es) H1
theorem pi_valuesN (hW : X.w = w) (he : PE X e td) (hbase : attributeBase e "values" X.env (eval e X.env) = eval e X.env := by rfl) (hline : (apos.endLine == cpos.line) = true := by rfl) : PI X tg (.Call (.Attribute e "values" apos) [] [] cpos) (iValsN w td) := by
  subst hW
  refine ⟨fun pins s σ H R I h => ?_⟩
  refine wpAny_Call_method (T := "dict") (id := "dict.values") hbase rfl hline PySem.F.plainAttrs_dict PySem.F.slot_dict_values PySem.F.type_dict_values (thn (he.run pins s σ H _ I h) fun u s1 ⟨x, H1, I1, rx, d, o, es, ex, hd, q⟩ => ?_)
  subst ex
  obtain rfl : u = Value.ref d := rx
  obtain ⟨hs, hgd, hx, xs, arr, ep, re, hdt, raw, ha⟩ := frz_n I1 hd
  obtain ⟨l2, _⟩ := arr_at re ha
  have ty : s1.TypeIs (.ref d) "dict" := ⟨o, hgd, hx.1⟩
  refine ⟨ty, fun c e => ?_, ?_⟩
  · cases e
    exact ⟨o, hgd, hx.2.1⟩
  have I2 : Inv X pins σ H1 { s1 with heap := s1.heap.push { cls := .type "dict_values", data := .fields #[.ref d] } } := I1.kept (t' := s1.toks) fun b ob q => Heap.get?_push_of_some _ q
  have raw2 : (s1.heap.push { cls := .type "dict_values", data := .fields #[.ref d] }).DictRaw d arr ep := by
    obtain ⟨o1, h1, h2, h3⟩ := raw
    exact ⟨o1, Heap.get?_push_of_some _ h1, h2, h3⟩
  have fin : wpAny (model X.prog X.w) X.A (pyIter (.ref s1.heap.objs.size)) (PIE X pins σ tg R) X.xe { s1 with heap := s1.heap.push { cls := .type "dict_values", data := .fields #[.ref d] } } := by
    refine PySem.wpAny_pyIter_values_raw (d := d) ⟨_, Heap.get?_push_size _ rfl, rfl, rfl⟩ raw2 (pi_one (tk := s1.toks) I2 _ (turn_valsN _ hdt) ⟨_, Heap.get?_push_size _ rfl, rfl, ?_⟩ q)
    rw [l2] <;> rfl
  show wpAny _ _ (callWith cpos (.builtin "dict.values") [.ref d] [] []) _ X.xe s1
  exact method_meetsIn PySem.F.slot_dict_values PySem.F.entry_dict_values rfl (PySem.evalArgs_none ⟨rfl, ty, PySem.F.args_dict_values_1 _, _, PySem.meets_dict_values_raw d hs, ⟨⟨arr, ep, raw⟩, fin⟩⟩)
end
end RN

/-! min with default -/
namespace R0
open PySem PySem.Spec PyProof.Rows L2
section
variable {X : Cx}
/-! ### min(t, default=d), t a tuple or a list of ints -/
def minL (d : Int) : List Int → Int
  | [] => d
  | x :: r => r.foldl (fun a y => if y < a then y else a) x
theorem minOf_int (x : Int) (r : List Int) : PySem.W.minOf x r = minL 0 (x :: r) := by
  unfold PySem.W.minOf minL
  congr 1
  funext a y
  by_cases h : y < a
  · rw [if_pos h, if_pos (show PySem.W.DatumOrd.lt y a = true from decide_eq_true h)]
  · rw [if_neg h, if_neg (fun z : PySem.W.DatumOrd.lt y a = true => h (of_decide_eq_true z))]
def rMinD (K : PySem.W.Frag) : List V → List V → Hp → VK → Prop := fun vs zs H Q => ∃ (a : Addr) (ns : List Int) (d : Int), vs = [.ref a] ∧ zs = [.int d] ∧ (SqT K H a (ns.map V.int) ∨ SqL K H a (ns.map V.int)) ∧ Q (.int (minL d ns)) H
theorem ck_minD (hc : X.calm = true) (hu : X.A.units + 64 < cLine) : CallRK X (.builtin "min") ["default"] (rMinD X.K) := by
  intro pins s σ H xs zs us ws Q I r rz h
  obtain ⟨a, ns, d, rfl, rfl, hs, q⟩ := h
  obtain ⟨u, rfl, ru⟩ := vals1 r
  obtain rfl : u = Value.ref a := ru
  obtain ⟨w1, rfl, rw1⟩ := vals1 rz
  have fin : ∀ (i : Nat) (v : Value) (h' : Heap) (tk : Nat) (y : Int) (ys : List Int), ns = y :: ys → PySem.W.Holds h' v (PySem.W.minOf y ys) → (∀ b o, s.heap.get? b = some o → h'.get? b = some o) → EP X pins σ Q v { s with heap := h', toks := tk } := fun i v h' tk y ys e hv k => by
    obtain ⟨as, hv⟩ := hv
    subst e
    have hv' : Reads h' v (.int (PySem.W.minOf y ys)) as := hv
    cases hv'
    refine ⟨.int (PySem.W.minOf y ys), H, I.kept k, ⟨_, rfl⟩, ?_⟩
    rw [minOf_int]
    exact q
  have fin0 : ns = [] → ∀ (h' : Heap) (tk : Nat), (∀ b o, s.heap.get? b = some o → h'.get? b = some o) → EP X pins σ Q w1 { s with heap := h', toks := tk } := fun e h' tk k => by
    subst e
    exact ⟨.int d, H, I.kept k, rw1, q⟩
  rcases hs with hs | hs
  · obtain ⟨its, rv, ht, hz⟩ := I.tuple hs
    refine PySem.W.min_tuple_datum_default (xs := ns) (vs := its.toArray) (I.ok.hd hc) ht ?_ ?_ fin0 fun y ys i v h' tk e _ hv k => fin i v h' tk y ys e hv k
    · simpa using hold_ints (h := s.heap) rv
    · show X.A.units + 1 + 0 < cLine
      omega
  · obtain ⟨its, rv, pl, hz⟩ := I.list hs
    refine PySem.W.min_list_datum_default (xs := ns) (vs := its.toArray) (I.ok.hd hc) pl.isList ?_ ?_ fin0 fun y ys i v h' tk e _ hv k => fin i v h' tk y ys e hv k
    · simpa using hold_ints (h := s.heap) rv
    · show X.A.units + 1 + 0 < cLine
      omega
end
end R0

/-! {} that is to have nested keys -/
namespace RN
open PySem PySem.Spec PyProof.Rows L2
section
variable {X : Cx} {pos : Pos}
def tDNewN (w : World) : TE := fun _ H Q => ∀ p, H p = none → Q (.ref p) (upd H p (dN w p []))
theorem pe_dnewN {w : World} (hW : X.w = w) : PE X (.Dict [] [] pos) (tDNewN w) := by
  subst hW
  exact ⟨fun pins s σ H Q I h => wpAny_Dict_empty ⟨.ref s.heap.objs.size, _, I.laid (a := s.heap.objs.size) (o := dN X.w s.heap.objs.size []) (t' := s.toks) (fun _ _ q => Heap.get?_push_of_some _ q) (Nat.le_refl _) (dN_empty s.heap I.big), rfl, h _ (I.hok.fresh (Nat.le_refl _))⟩⟩
end
end RN

/-! x in t, x not in t, t a tuple of data of any depth -/
namespace R1
open PySem PySem.Spec PyProof.Rows L2
section
variable {X : Cx}
def rInDT (K : PySem.W.Frag) (neg : Bool) : R2 := fun x y H Q => ∃ d ds, Dp K H x d ∧ Dp K H y (.tuple ds) ∧ SeqAt.shaped d = true ∧ SeqAt.shaped (.tuple ds) = true ∧ Q (.bl (if neg then !ds.any fun z => PyData.eqv z d else ds.any fun z => PyData.eqv z d)) H
theorem op_inDT {K : PySem.W.Frag} (hu : X.A.units + 65 < cLine) (hK : X.K = K) : OpR X (compareOp .In) (rInDT K false) := by
  subst hK
  intro pins s σ H x y v u Q I rx ry h
  obtain ⟨d, ds, hd, he, sd, se, q⟩ := h
  obtain ⟨as, r1⟩ := Dp.reads I d x v hd rx
  obtain ⟨bs, r2⟩ := Dp.reads I (.tuple ds) y u he ry
  exact SeqAt.in_tuple_reads r2 r1 (SeqAt.canLay_of_shaped se) (SeqAt.canLay_of_shaped sd) (room_in_shaped sd hu) ⟨.bl _, H, I, rfl, q⟩
theorem op_notInDT {K : PySem.W.Frag} (hu : X.A.units + 65 < cLine) (hK : X.K = K) : OpR X (compareOp .NotIn) (rInDT K true) := by
  subst hK
  intro pins s σ H x y v u Q I rx ry h
  obtain ⟨d, ds, hd, he, sd, se, q⟩ := h
  obtain ⟨as, r1⟩ := Dp.reads I d x v hd rx
  obtain ⟨bs, r2⟩ := Dp.reads I (.tuple ds) y u he ry
  exact SeqAt.notIn_tuple_reads r2 r1 (SeqAt.canLay_of_shaped se) (SeqAt.canLay_of_shaped sd) (room_in_shaped sd hu) ⟨.bl _, H, I, rfl, q⟩
end
end R1

/-! C.m(..), m a staticmethod, within a try -/
namespace R1
open PySem PySem.Spec PyProof.Rows L2 ClX
section
variable {X : Cx} {CX : CXT} {k : Nat} {C p g : Addr} {mc : Value} {sp : Sp} {E : L2.St → XK} {o e : Expr} {es : List Expr} {m : Str} {pos apos : Pos} {ta : TE} {t : TA} {pl : Sem Bool}
def tSMethS (C : Addr) (sp : Sp) (E : L2.St → XK) (ta : TE) (t : TA) : TE := fun σ H Q => ta σ H fun x H1 => x = .ref C ∧ t σ H1 fun vs H2 => sp vs H2 Q (E σ)
theorem run_fnRS {pins : List (Addr × Obj)} {σ : L2.St} {H : Hp} {s : Shared} {Q : VK} {us : List Value} {vs : List V} (F : FnR X.prog X.w X.K X.mg X.base CX k g sp) (hr : Room k X.A) (hx : PassesAt CX X σ (E σ)) (I : Inv X pins σ H s) (r : Vals vs us) (h : sp vs H Q (E σ)) :
    codeAny (model X.prog X.w) X.A (.call (.ref g) ⟨us, []⟩) (fun r s' => match r with | .ok (.ret v) => EP X pins σ Q v s' | .ok _ => False | .error e => X.xe e s') s := by
  refine codeAny_mono (F X.A X.stack s H us vs Q (E σ) hr I.env0 r h) fun r s' hq => ?_
  cases r with
  | error e => exact hx pins H s e s' I hq
  | ok fl =>
    cases fl with
    | ret u => exact I.after hq
    | next => exact False.elim hq
    | brk => exact False.elim hq
    | cont => exact False.elim hq
theorem pe_smethS (he : PE X o ta) (r : CRead X.K C mc) (c : SMet X.K C mc m p g) (F : FnR X.prog X.w X.K X.mg X.base CX k g sp) (hr : Room k X.A) (hx : ∀ σ, PassesAt CX X σ (E σ)) (ha : PA X (e :: es) t)
    (hst : starEach (e :: es) X.env = (false, eval e X.env) :: starEach es X.env := by rfl) (hpl : (backTo pos (starEach es X.env)).any (·.1) = false := by rfl)
    (ht : eval (.Call (.Attribute o m apos) (e :: es) [] pos) X.env = (do
      let ov ← eval o X.env
      standAt apos.atName
      let (f, first) ← holding [ov] (getMethod ov m pl)
      callWith pos f first (backTo pos (starEach (e :: es) X.env)) (backToKw pos (keywordEach [] X.env))) := by rfl) :
    PE X (.Call (.Attribute o m apos) (e :: es) [] pos) (tSMethS C sp E ta t) := by
  refine ⟨fun pins s σ H Q I h => ?_⟩
  refine PySem.W.methodCall_KW (pl := pl) (thn (he.run pins s σ H _ I h) fun u s1 ⟨x, H1, I1, rx, ex, q⟩ => ?_) ht
  subst ex
  obtain rfl : u = Value.ref C := rx
  refine getmethsm_ok I1 r c fun s2 I2 => ?_
  refine PySem.W.callWith_K (first := []) (h₀ := X.base) I.ok.mod.kin c.kp (thn (ha.run pos pins s2 σ H1 _ I2 q) fun us s3 ⟨vs, H2, I3, rv, q2⟩ => ⟨I3.kIn, ?_⟩) hst hpl
  exact wpAny_call (run_fnRS F hr (hx σ) I3 rv q2)
end
end R1

/-! a + b by the class's own __add__, a != b by its own __eq__ -/
namespace R1
open PySem PySem.Spec PyProof.Rows L2
section
variable {prog : Program} {w : World} {A : Around} {E : Value → Shared → Prop} {s : Shared} {K : PySem.W.Frag} {x y C f : Addr} {ox : Obj} {od : Option Obj}
theorem ne_entry (X : K.In s.heap) (I : PySem.W.InstAt s.heap x ox C od) (hs : PySem.W.findIn K (.ref C) "__eq__" = some (some (.ref f))) (hf : PySem.W.isFn K (.ref f) = true) (hu : A.units < cLine) {Q : Fin → Shared → Prop}
    (hcall : wpAny (model prog w) A (call (.ref f) [.ref x, .ref y]) (fun v s' => ∃ b, v = .bool b ∧ Q (.done (.ret (.bool (!b)))) s') E s) :
    wpAny (model prog w) A (Builtin.«object.__ne__» ⟨[.ref x, .ref y], []⟩) Q E s := by
  unfold Builtin.«object.__ne__»
  repeat (first
    | with_reducible refine wpAny_cRoomFor hu ?_
    | (refine wpAny_bind (m := callSpecialIfBound? (.ref x) (Str.ofString "__eq__") [.ref y])
        (PySem.W.ifBound_K X I hs hf (wpAny_mono hcall (fun r s' hr => by
          obtain ⟨b, rfl, hq⟩ := hr
          repeat (first | exact hq | exact wpAny_pure hq | exact wpAny_truthy_bool hq | (refine wpAny_bind (m := truthy (.bool _)) (wpAny_truthy_bool ?_)) | wp_step)) fun _ _ e => e)))
    | wp_step)
theorem ifBound_objNe {M : Model} {args : List Value} {Q : Option Value → Shared → Prop} (X : K.In s.heap) (I : PySem.W.InstAt s.heap x ox C od) (hs : PySem.W.findIn K (.ref C) "__ne__" = some (some (.builtin "object.__ne__")))
    (h : wpAny M A (call (.builtin "object.__ne__") (.ref x :: args)) (fun v => Q (some v)) E s) : wpAny M A (callSpecialIfBound? (.ref x) "__ne__" args) Q E s := by
  simp only [callSpecialIfBound?, bindSpecialIfBound?]
  refine wpAny_holding (wpAny_bind (wpAny_bind (wpAny_bind (I.type.here ((PySem.W.looks_findIn X hs).here ?_)))))
  refine wpAny_bind (wpAny_askSetting (wpAny_ite ?_))
  have fin : wpAny M A (call (.builtin "object.__ne__") ([.ref x] ++ args) >>= fun v => pure (some v)) Q E s := wpAny_bind (wpAny_mono h (fun v s' h' => wpAny_pure h') fun _ _ h' => h')
  split
  · exact wpAny_bind (wpAny_of_eq (F.cmp_object.ne.bind _) (wpAny_pure (by exact fin)))
  · exact wpAny_tryCatch (wpAny_bind (wpAny_of_eq (F.cmp_object.ne.bind _) (wpAny_pure (by exact fin))))
theorem ne_K {Q : Value → Shared → Prop} (hu : A.units + 1 < cLine) (X : K.In s.heap) (I : PySem.W.InstAt s.heap x ox C od) (hb : PySem.W.Looks (model prog w) s.heap (typeOf (.ref y)) (.ref C)) (hm : PySem.W.mroIn K C (.type "object") = some true)
    (hn : PySem.W.findIn K (.ref C) "__ne__" = some (some (.builtin "object.__ne__"))) (hs : PySem.W.findIn K (.ref C) "__eq__" = some (some (.ref f))) (hf : PySem.W.isFn K (.ref f) = true)
    (h : wpAny (model prog w) A.in1 (call (.ref f) [.ref x, .ref y]) (fun v s' => ∃ b, v = .bool b ∧ Q (.bool (!b)) s') E s) : wpAny (model prog w) A (richCompare .NotEq (.ref x) (.ref y)) Q E s := by
  have one : wpAny (model prog w) A (tryCompare (.ref x) "__ne__" (.ref y)) (fun r s' => ∃ b, r = some (.bool b) ∧ Q (.bool b) s') E s := by
    unfold tryCompare
    refine wpAny_bind (ifBound_objNe X I hn (wpAny_call (codeAny_call_builtin F.cmp_object.ne.plain F.cmpEntry_ne (PySem.W.check_slot F.cmpKind_ne F.cmpSplit_ne (I.type.andThen (PySem.W.looks_mroIn X hm)) (F.cmpArgs_ne _ _)
      (ne_entry (A := A.in1) X I hs hf hu (wpAny_mono h (fun v s' hv => ?_) fun _ _ e => e))))))
    obtain ⟨b, rfl, hq⟩ := hv
    first | exact ⟨b, rfl, wpAny_pure ⟨_, rfl, hq⟩⟩ | exact ⟨b, rfl, wpAny_pure (wpAny_pure ⟨_, rfl, hq⟩)⟩ | exact ⟨b, rfl, ⟨_, rfl, hq⟩⟩
  unfold richCompare
  simp only [oneThing_ref]
  refine wpAny_holding (wpAny_bind (wpAny_cRoomFor (Nat.lt_of_succ_lt hu) ?_))
  refine wpAny_bind (I.type.here (wpAny_bind (hb.here ?_)))
  split
  · rename_i q
    simp at q
  · refine wpAny_bind (wpAny_pure ?_)
    simp only [Bool.false_eq_true, if_false]
    refine wpAny_bind (wpAny_mono one (fun r s' z => ?_) fun _ _ e => e)
    obtain ⟨b, rfl, hq⟩ := z
    exact wpAny_pure hq
end
section
variable {X : Cx} {CX : CXT} {n : Nat} {C g : Addr} {sp : Sp} {E : XK}
/-- x op y of two instances of the class at C, by its own def -/
def rBinO (C : Addr) (sp : Sp) (E : XK) : R2 := fun x y H Q => ∃ a dx fs b dy gs, x = .ref a ∧ y = .ref b ∧ H a = some (.ins C dx fs) ∧ H b = some (.ins C dy gs) ∧ sp [x, y] H Q E
theorem op_binO {op : Operator} (hc : PySem.W.selfFirst X.K C = true) (hs : PySem.W.findIn X.K (.ref C) (PySem.dunder op.info.2) = some (some (.ref g))) (hf : PySem.W.isFn X.K (.ref g) = true) (F : FnR X.prog X.w X.K X.mg X.base CX n g sp) (hr : Room n X.A) (hx : Passes CX X E) : OpR X (binaryOp op) (rBinO C sp E) := by
  intro pins s σ H x y v u Q I rx ry h
  obtain ⟨a, dx, fs, b, dy, gs, rfl, rfl, ha, hb, q⟩ := h
  cases (show v = Value.ref a from rx)
  cases (show u = Value.ref b from ry)
  obtain ⟨mA, J, _⟩ := ins_get I.hok ha
  obtain ⟨mB, J', _⟩ := ins_get I.hok hb
  obtain ⟨od, J, _⟩ := J.look
  obtain ⟨od', J', _⟩ := J'.look
  obtain ⟨m, hF⟩ := I.fr
  refine PySem.W.binop_K (op := op) hF I.ok.mod.kin J J'.type hc hs hf ?_
  refine wpAny_mono (wpAny_call (run_fnR (us := [.ref a, .ref b]) (vs := [.ref a, .ref b]) F hr hx I (.cons rfl (.cons rfl .nil)) q)) (fun w s' z => ?_) fun _ _ x => x
  obtain ⟨z', H', I', rz, qz⟩ := z
  exact SlX.cmpback rz ⟨z', H', I', rz, qz⟩
/-- x != y of two instances of the class at C, by its own == -/
theorem op_neO (hm : PySem.W.mroIn X.K C (.type "object") = some true) (hn : PySem.W.findIn X.K (.ref C) "__ne__" = some (some (.builtin "object.__ne__"))) (hs : PySem.W.findIn X.K (.ref C) "__eq__" = some (some (.ref g))) (hf : PySem.W.isFn X.K (.ref g) = true) (F : FnR X.prog X.w X.K X.mg X.base CX n g sp) (hr : Room (n + 1) X.A) (hu : X.A.units + 64 < cLine) (hx : Passes CX X E) :
    OpR X (compareOp .NotEq) (fun x y H Q => ∃ a dx fs b dy gs, x = .ref a ∧ y = .ref b ∧ H a = some (.ins C dx fs) ∧ H b = some (.ins C dy gs) ∧ sp [x, y] H (fun v H' => ∃ b, v = .bl b ∧ Q (.bl (!b)) H') E) := by
  intro pins s σ H x y v u Q I rx ry h
  obtain ⟨a, dx, fs, b, dy, gs, rfl, rfl, ha, hb, q⟩ := h
  cases (show v = Value.ref a from rx)
  cases (show u = Value.ref b from ry)
  obtain ⟨mA, J, _⟩ := ins_get I.hok ha
  obtain ⟨mB, J', _⟩ := ins_get I.hok hb
  obtain ⟨od, J, _⟩ := J.look
  obtain ⟨od', J', _⟩ := J'.look
  refine PySem.W.cmp_ofNotEq (ne_K (by omega) I.kIn J J'.type hm hn hs hf (wpAny_mono (wpAny_call (run_fnR1 (us := [.ref a, .ref b]) (vs := [.ref a, .ref b]) F hr hx I (.cons rfl (.cons rfl .nil)) q)) (fun w s' z => ?_) fun _ _ x => x))
  obtain ⟨z', H', I', rz, k, rfl, q'⟩ := z
  exact ⟨k, rz, .bl (!k), H', I', rfl, q'⟩
end
end R1

/-! isinstance(e, T), e a caught error with fields, T a class of the interpreter's own -/
namespace R1
open PySem PySem.Spec PyProof.Rows L2
def rIsXT (K : PySem.W.Frag) (D a : Addr) (cls : Value) (d : Option Addr) : List V → Hp → VK → Prop := fun xs H Q => ∃ (t : String) (b : Bool) (dd : Addr) (fs : List (Str × V)), cls = .ref D ∧ d = some dd ∧ H dd = some (.xd fs) ∧ xs = [.ref a, .ty t] ∧ PySem.W.kitOne K (.ref D) (.type t) = some b ∧ Q (.bl b) H
theorem call_isXT {X : Cx} {K : PySem.W.Frag} {a D : Addr} {oe : Obj} {cls : Value} {d : Option Addr} {pn : List (Addr × Obj)} (hK : X.K = K) (C : ExcC K D) (hz : Zc cls d oe) (hf : ∃ vs, oe.data = .fields vs) : CallR (X.suite a ((a, oe) :: pn)) (.builtin "isinstance") (rIsXT K D a cls d) := by
  subst hK
  intro pins s σ H xs us Q I r h
  obtain ⟨c, b, dd, fs, rfl, rfl, ea, rfl, e, q⟩ := h
  obtain ⟨u1, u2, rfl, r1, r2⟩ := vals2 r
  cases (show u1 = Value.ref a from r1)
  cases (show u2 = Value.type c from r2)
  obtain ⟨hget, _⟩ := I.pin (a, oe) (List.mem_append.mpr (.inl List.mem_cons_self))
  obtain ⟨vs, hd⟩ := hf
  have hx : ObjOk X.prog X.w H s.heap dd (.xd fs) := I.hok dd _ ea
  obtain ⟨mA, hns, hr⟩ := hx
  obtain ⟨od, ho, hl⟩ := lookIn_ns hns
  have J : PySem.W.InstAt s.heap a oe D (some od) := ⟨hget, hz.1, by unfold PySem.W.notCls; rw [hd] <;> rfl, by rw [hz.2]; exact ho⟩
  obtain ⟨cd, hc, _⟩ := PySem.W.any_some C.hd
  exact PySem.W.kia_one (PySem.W.kitx_exc (by rw [hc]; rfl) C.hg C.hk C.hs C.ha C.hn C.ht C.hm) I.kIn J e (fun z => nomatch z) fun tk => ⟨.bl b, H, I.tok tk, rfl, q⟩
end R1

/-! t.count(x), t a tuple of texts; a method of a builtin kind's object, K named -/
namespace RT
open PySem PySem.Spec PyProof.Rows L2
theorem pe_bmK {X : Cx} {K : PySem.W.Frag} {T : String} {name : Str} {id : String} {r : V → List V → Hp → VK → Prop} {o e : Expr} {es : List Expr} {to : TE} {t : TA} {apos cpos : Pos} (hK : X.K = K) (pa : PlainAttrs T) (slot : Slot T name id) (hty : typeOf (.builtin id) = pure (.type "method_descriptor")) (hm : MtR X id r) (ho : PE X o to) (ha : PA X (e :: es) t)
    (hbase : attributeBase o name X.env (eval o X.env) = eval o X.env := by rfl)
    (hfew : ((backTo cpos (starEach (e :: es) X.env)).all (fun x => !x.1) && (backToKw cpos (keywordEach [] X.env)).all (fun x => x.1.isSome)
      && decide ((e :: es).length + ([] : List Keyword).length + (if ([] : List Keyword).isEmpty then 0 else 1) < 30)) = true := by rfl)
    (hline : (apos.endLine == cpos.line) = true := by rfl) (hs : starEach (e :: es) X.env = (false, eval e X.env) :: starEach es X.env := by rfl) (hplain : (backTo cpos (starEach es X.env)).any (·.1) = false := by rfl) :
    PE X (.Call (.Attribute o name apos) (e :: es) [] cpos) (tBM K T r to t) := by subst hK; exact pe_bm pa slot hty hm ho ha hbase hfew hline hs hplain
def rTCnt (K : PySem.W.Frag) : V → List V → Hp → VK → Prop := fun x xs H Q => ∃ (p : Addr) (ys : List Str) (z : Str), x = .ref p ∧ xs = [.str z] ∧ SqT K H p (ys.map V.str) ∧ Q (.int (ys.count z : Nat)) H
theorem countP_str {z : Str} : ∀ {ys : List Str} {us : List Value}, Vals (ys.map V.str) us → us.countP (eqU (.str z)) = ys.count z
  | [], _, .nil => rfl
  | y :: ys, _, .cons r t => by
    obtain ⟨k, rfl⟩ := r
    rw [List.countP_cons, List.count_cons, countP_str t]
    rfl
theorem mt_tcount {X : Cx} {K : PySem.W.Frag} (hK : X.K = K) : MtR X "tuple.count" (rTCnt K) := by
  subst hK
  intro pins s σ H x xs v us Q I rx rs h
  obtain ⟨p, ys, z, rfl, rfl, hq, q⟩ := h
  cases rx
  obtain ⟨u, rfl, t, rfl⟩ := vals1 rs
  obtain ⟨its, r, pl, hz⟩ := I.tuple hq
  obtain ⟨⟨cls, dd, dt, sl⟩, ho, hc, n, hd⟩ := pl
  simp only at hc hd
  subst hc
  subst hd
  refine call_meets PySem.F.slot_tuple_count ⟨_, ho, rfl⟩ PySem.F.entry_tuple_count (PySem.F.args_tuple_count_2 _ _) (SeqAt.tuple_countAt p its.toArray n dd sl (.str z t) (eqU (.str z)))
    ⟨ho, fun w hw => mem_eqAt (x := .str z) ⟨t, rfl⟩ rfl r (flat_strs ys) w (by simpa using hw), ?_⟩
  have ec : its.toArray.toList.countP (eqU (.str z)) = ys.count z := countP_str r
  rw [ec]
  exact ⟨.int (ys.count z : Nat), H, I.tok _, ⟨_, rfl⟩, q⟩
end RT

/-! tuples whose object is known: displays, t + u, t.index(x), t.count(x) -/
namespace RT
open PySem PySem.Spec PyProof.Rows L2 RN
section
variable {X : Cx} {K : PySem.W.Frag}
def tTupF (t : TA) : TE := fun σ H Q => t σ H fun xs H1 => xs.length ≤ sizeLine ∧ ∀ (p : Addr) (o : Obj), H1 p = none → o.dict = none → Q (.ref p) (upd H1 p (.frz o (.tup xs)))
theorem pe_tupF {es : List Expr} {t : TA} {x1} {pos : Pos} (h : PA X es t) : PE X (.Tuple es x1 pos) (tTupF t) := by
  refine ⟨fun pins s σ H Q I hq => ?_⟩
  refine wpAny_Tuple_spliced (thn (h.run pos pins s σ H _ I hq) fun us s1 ⟨xs, H1, I1, r, z, q⟩ => ⟨by rw [← r.length]; exact z, ?_⟩)
  have hf : H1 s1.heap.objs.size = none := I1.hok.fresh (Nat.le_refl _)
  refine ⟨.ref s1.heap.objs.size, upd H1 s1.heap.objs.size (.frz { cls := .type "tuple", data := .seq us.toArray } (.tup xs)), I1.laid (t' := s1.toks) (fun b u e => Heap.get?_push_of_some _ e) (Nat.le_refl _) ?_, rfl, q _ _ hf ?_⟩
  · exact ⟨Heap.get?_push_size _ rfl, z, us, r, ⟨_, Heap.get?_push_size _ rfl, rfl, _, rfl⟩⟩
  · rfl
def rCatF : R2 := fun x y H Q => ∃ a b xs ys, x = .ref a ∧ y = .ref b ∧ FrzT H a xs ∧ FrzT H b ys ∧ xs.length + ys.length ≤ sizeLine ∧ ∀ p H', Same H H' → FrzT H' p (xs ++ ys) → Q (.ref p) H'
theorem _root_.RN.FrzT.sq {H : Hp} {a : Addr} {xs : List V} (h : FrzT H a xs) : SqT K H a xs := let ⟨o, _, e⟩ := h; .inl (.inr ⟨o, e⟩)
theorem _root_.RN.FrzT.same {H H' : Hp} {a : Addr} {xs : List V} (s : Same H H') (h : FrzT H a xs) : FrzT H' a xs := let ⟨o, d, e⟩ := h; ⟨o, d, s _ _ e⟩
theorem op_catF : OpR X (binaryOp .Add) rCatF := by
  intro pins s σ H x y v u Q I rx ry h
  obtain ⟨a, b, xs, ys, rfl, rfl, ha, hb, hz, q⟩ := h
  cases rx
  cases ry
  obtain ⟨its, r1, p1, _⟩ := I.tuple (RN.FrzT.sq (K := X.K) ha)
  obtain ⟨its2, r2, p2, _⟩ := I.tuple (RN.FrzT.sq (K := X.K) hb)
  by_cases hv : its = []
  · have ex := r1.nil_iff.mp hv
    subst ex
    obtain ⟨⟨cls, dd, data, sl⟩, ho, hc, n, hd⟩ := id p1
    obtain ⟨⟨cls2, dd2, data2, sl2⟩, ho2, hc2, n2, hd2⟩ := id p2
    simp only at hc hd hc2 hd2
    subst hc hd hc2 hd2
    refine concat_meets ⟨_, ho, rfl⟩ ⟨_, ho2, rfl⟩ noFill_tuple_add seq_tuple_add PySem.F.slot_tuple_add PySem.F.entry_tuple_add (PySem.F.args_tuple_add_2 _ _)
      (tuple_addW0 a b its.toArray its2.toArray n n2 dd dd2 sl sl2 (by simp [hv])) ⟨ho, ho2, ⟨.ref b, H, I, rfl, q b H (fun _ _ e => e) hb⟩⟩
  · have nx : xs ≠ [] := fun z => hv (r1.nil_iff.mpr z)
    refine HT.cat_tup p1 p2 hv (fun z => ⟨.ref a, H, I, rfl, q a H (fun _ _ e => e) (by rw [r2.nil_iff.mp z, List.append_nil]; exact ha)⟩) (fun z => ?_) (by rw [← r1.length, ← r2.length]; exact hz)
    have hf := I.hok.fresh (Nat.le_refl s.heap.objs.size)
    refine ⟨.ref s.heap.objs.size, _, I.laid (t' := s.toks) (o := .frz { cls := .type "tuple", data := .seq (its ++ its2).toArray } (.tup (xs ++ ys))) (fun b ob q => Heap.get?_push_of_some _ q) (Nat.le_refl _) ?_, rfl, q _ _ (fun b o e => by rw [upd_ne (ne_of_none e hf)]; exact e) ⟨_, ?_, upd_same⟩⟩
    · exact ⟨Heap.get?_push_size _ rfl, by rw [List.length_append]; exact hz, _, r1.append r2, IsTup.new _ _⟩
    · rfl
def tBMF (r : V → List V → Hp → VK → Prop) (to : TE) (t : TA) : TE := fun σ H Q => to σ H fun x H1 => (∃ p xs, x = .ref p ∧ FrzT H1 p xs) ∧ t σ H1 fun xs H2 => r x xs H2 Q
theorem pe_bmF {name : Str} {id : String} {r : V → List V → Hp → VK → Prop} {o e : Expr} {es : List Expr} {to : TE} {t : TA} {apos cpos : Pos} (slot : Slot "tuple" name id) (hty : typeOf (.builtin id) = pure (.type "method_descriptor")) (hm : MtR X id r) (ho : PE X o to) (ha : PA X (e :: es) t)
    (hbase : attributeBase o name X.env (eval o X.env) = eval o X.env := by rfl)
    (hfew : ((backTo cpos (starEach (e :: es) X.env)).all (fun x => !x.1) && (backToKw cpos (keywordEach [] X.env)).all (fun x => x.1.isSome)
      && decide ((e :: es).length + ([] : List Keyword).length + (if ([] : List Keyword).isEmpty then 0 else 1) < 30)) = true := by rfl)
    (hline : (apos.endLine == cpos.line) = true := by rfl) (hs : starEach (e :: es) X.env = (false, eval e X.env) :: starEach es X.env := by rfl) (hplain : (backTo cpos (starEach es X.env)).any (·.1) = false := by rfl) :
    PE X (.Call (.Attribute o name apos) (e :: es) [] cpos) (tBMF r to t) := by
  refine ⟨fun pins s σ H Q I h => ?_⟩
  refine wpAny_Call_method_late hbase hfew hline rfl (thn (ho.run pins s σ H _ I h) fun v s1 ⟨x, H1, I1, r1, ⟨p, xs, ex, hp⟩, q1⟩ => ?_)
  subst ex
  cases r1
  obtain ⟨ob, hd, e1⟩ := hp
  obtain ⟨g1, _, its, _, ⟨o2, g2, c2, _⟩⟩ := I1.hok p _ e1
  have eo : ob = o2 := Option.some.inj (g1.symm.trans g2)
  subst eo
  refine ⟨"tuple", id, PySem.F.plainAttrs_tuple, slot, hty, ⟨ob, g1, c2⟩, fun a ea => by cases ea; exact ⟨ob, g1, hd⟩, ?_⟩
  have hA := ha.run cpos pins s1 σ H1 _ I1 q1
  rw [hs] at hA ⊢
  refine Calls.callWith_builtin (by show (false || (backTo cpos (starEach es X.env)).any (·.1)) = false; rw [hplain] <;> rfl) (Calls.evalArgs_plain ?_)
  exact thn hA fun us s2 ⟨vs, H2, I2, r2, q2⟩ => hm pins s2 σ H2 (.ref p) vs _ us Q I2 rfl r2 q2
def rTIx (K : PySem.W.Frag) : V → List V → Hp → VK → Prop := fun x xs H Q => ∃ p, ∃ ys : List Str, ∃ z j, x = .ref p ∧ xs = [.str z] ∧ SqT K H p (ys.map V.str) ∧ ys[j]? = some z ∧ (∀ m, m < j → ys[m]? ≠ some z) ∧ Q (.int (j : Nat)) H
theorem mt_tindex (hK : X.K = K) : MtR X "tuple.index" (rTIx K) := by subst hK; exact mt_tup_index
end
end RT

/-! a comprehension within a comprehension; all, any, K named -/
namespace RT
open PySem PySem.Spec PyProof.Rows L2 RN
theorem lookup_fc {env : Env} : ∀ {names : List (Str × NameKind)} {x : Str}, (names.lookup x = some .cell ∨ names.lookup x = some .free) →
    ((names.map fun (n, k) => if (k == NameKind.free && env.scope.kind == .function && env.kindOf n == some .cell) then (n, NameKind.cell) else (n, k)).lookup x = some .cell ∨
      (names.map fun (n, k) => if (k == NameKind.free && env.scope.kind == .function && env.kindOf n == some .cell) then (n, NameKind.cell) else (n, k)).lookup x = some .free)
  | [], _, h => by simp at h
  | (n, k) :: r, x, h => by
    have ih := @lookup_fc env r x
    show (List.lookup x ((if (k == NameKind.free && env.scope.kind == .function && env.kindOf n == some .cell) = true then (n, NameKind.cell) else (n, k)) :: _) = _) ∨ (List.lookup x ((if (k == NameKind.free && env.scope.kind == .function && env.kindOf n == some .cell) = true then (n, NameKind.cell) else (n, k)) :: _) = _)
    cases hx : x == n with
    | true =>
      simp only [List.lookup_cons, hx] at h
      by_cases hc : (k == NameKind.free && env.scope.kind == .function && env.kindOf n == some .cell) = true
      · rw [if_pos hc]; simp [List.lookup_cons, hx]
      · rw [if_neg hc]; simp only [List.lookup_cons, hx]; exact h
    | false =>
      simp only [List.lookup_cons, hx] at h
      by_cases hc : (k == NameKind.free && env.scope.kind == .function && env.kindOf n == some .cell) = true
      · rw [if_pos hc]; simp only [List.lookup_cons, hx]; exact ih h
      · rw [if_neg hc]; simp only [List.lookup_cons, hx]; exact ih h
theorem blkIn {X : Cx} {s : Shared} {H : Hp} {scope0 scope : Scope} {cl : List (Str × Addr)} {C : Addr} {env : Env} {fp : List Addr} {own : List (Str × Nat)} {N : List Str} (hN : X.N = N) (h : BlkOk N scope0 scope own) : BlkOk (X.blk s H scope0 (compEnvC scope0 cl C env) fp).N (X.blk s H scope0 (compEnvC scope0 cl C env) fp).env.scope scope own := by
  subst hN
  exact ⟨h.kind, h.uniq, h.ix, fun y hy e => lookup_fc (env := env) (h.free y hy e), h.own⟩
theorem cr_allK {X : Cx} {K : PySem.W.Frag} (hK : X.K = K) (hc : X.calm = true) : CallR X (.builtin "all") (rAll K) := by subst hK; exact cr_all hc
theorem cr_anyK {X : Cx} {K : PySem.W.Frag} (hK : X.K = K) (hc : X.calm = true) : CallR X (.builtin "any") (rAny K) := by subst hK; exact cr_any hc
theorem cr_sumK {X : Cx} {K : PySem.W.Frag} (hK : X.K = K) (hc : X.calm = true) : CallR X (.builtin "sum") (rSum K) := by subst hK; exact cr_sum hc
end RT
namespace R1
open PySem PySem.Spec PyProof.Rows L2
theorem ix_seqK {X : Cx} {K : PySem.W.Frag} (hK : X.K = K) : IxR X (rIx K) := by subst hK; exact ix_seq
end R1

/-! P0: the roots of a def (slots and what is being evaluated) as pure values over a heap of things that stay -/
namespace PL
open PySem PySem.Spec PyProof.Rows L2 RN
theorem sm_upd {H : Hp} {p : Addr} {o : HO} (h : H p = none) : Same H (upd H p o) := fun b x e => by
  rw [upd_ne (ne_of_none e h)]
  exact e
mutual
inductive W (K : PySem.W.Frag) (I : Hp) : V → PyData → Prop
  | non : W K I .non .none
  | bl (b : Bool) : W K I (.bl b) (.bool b)
  | int (i : Int) : W K I (.int i) (.int i)
  | str (x : Str) : W K I (.str x) (.str x)
  | lst {a : Addr} {xs : List V} {ds : List PyData} : I a = some (.lst xs) → WA K I xs ds → W K I (.ref a) (.list ds)
  | tup {a : Addr} {xs : List V} {ds : List PyData} : SqT K I a xs → WA K I xs ds → W K I (.ref a) (.tuple ds)
inductive WA (K : PySem.W.Frag) (I : Hp) : List V → List PyData → Prop
  | nil : WA K I [] []
  | cons {v : V} {vs : List V} {d : PyData} {ds : List PyData} : W K I v d → WA K I vs ds → WA K I (v :: vs) (d :: ds)
end
section
variable {K : PySem.W.Frag} {I J H : Hp}
theorem sqT_same {a : Addr} {xs : List V} (s : Same I J) (h : SqT K I a xs) : SqT K J a xs := by
  rcases h with (h | ⟨o, h⟩) | h
  · exact .inl (.inl (s _ _ h))
  · exact .inl (.inr ⟨o, s _ _ h⟩)
  · exact .inr h
mutual
theorem W.mono (s : Same I J) : ∀ (d : PyData) (v : V), W K I v d → W K J v d
  | .none, _, .non => .non
  | .bool b, _, .bl _ => .bl b
  | .int i, _, .int _ => .int i
  | .str x, _, .str _ => .str x
  | .list ds, _, .lst h a => .lst (s _ _ h) (WA.mono s ds _ a)
  | .tuple ds, _, .tup h a => .tup (sqT_same s h) (WA.mono s ds _ a)
theorem WA.mono (s : Same I J) : ∀ (ds : List PyData) (vs : List V), WA K I vs ds → WA K J vs ds
  | [], _, .nil => .nil
  | d :: ds, _, .cons a b => .cons (W.mono s d _ a) (WA.mono s ds _ b)
end
mutual
theorem W.dp : ∀ (d : PyData) (v : V), W K I v d → Dp K I v d
  | .none, _, .non => .non
  | .bool b, _, .bl _ => .bl b
  | .int i, _, .int _ => .int i
  | .str x, _, .str _ => .str x
  | .list ds, _, .lst h a => .lst (SqL.of h) (WA.dp ds _ a)
  | .tuple ds, _, .tup h a => .tup h (WA.dp ds _ a)
theorem WA.dp : ∀ (ds : List PyData) (vs : List V), WA K I vs ds → DpAll K I vs ds
  | [], _, .nil => .nil
  | d :: ds, _, .cons a b => .cons (W.dp d _ a) (WA.dp ds _ b)
end
theorem WA.len : ∀ {ds : List PyData} {vs : List V}, WA K I vs ds → vs.length = ds.length
  | [], _, .nil => rfl
  | _ :: _, _, .cons _ b => congrArg Nat.succ (WA.len b)
theorem WA.app {es : List PyData} {us : List V} (g : WA K I us es) : ∀ (ds : List PyData) {vs : List V}, WA K I vs ds → WA K I (vs ++ us) (ds ++ es)
  | [], _, .nil => g
  | _ :: ds, _, .cons a b => .cons a (WA.app g ds b)
theorem WA.get : ∀ {ds : List PyData} {vs : List V}, WA K I vs ds → ∀ {i : Nat} {d : PyData}, ds[i]? = some d → ∃ v, vs[i]? = some v ∧ W K I v d
  | [], _, _, i, d, h => by simp at h
  | _ :: _, _, .cons a b, 0, d, h => ⟨_, rfl, by cases h; exact a⟩
  | _ :: _, _, .cons a b, i + 1, d, h => WA.get b (i := i) h
theorem WA.at : ∀ {ds : List PyData} {vs : List V}, WA K I vs ds → ∀ {i : Nat} {v : V}, vs[i]? = some v → ∃ d, ds[i]? = some d ∧ W K I v d
  | [], _, .nil, i, d, h => by simp at h
  | _ :: _, _, .cons a b, 0, d, h => ⟨_, rfl, by cases h; exact a⟩
  | _ :: _, _, .cons a b, i + 1, d, h => WA.at b (i := i) h
end
/-- what a root stands for: not known, data, a tuple whose object is known, an own list, the law's state, the list of a slot -/
inductive SV where
  | u | d (x : PyData) | k (xs : List PyData) | l (xs : List PyData) | st | a (i : Nat)
abbrev Env := List SV
abbrev Rt := Option V × SV
def SV.own : SV → Bool
  | .l _ => true
  | .st => true
  | _ => false
/-- what may change -/
def mu : HO → Bool
  | .lst _ => true
  | .dK _ => true
  | .dT _ => true
  | .set _ _ => true
  | .ins _ _ _ => true
  | .own _ => true
  | .xd _ => true
  | .ext _ => true
  | _ => false
/-- the drawing state -/
def StOk (I H : Hp) (p : Addr) : Prop := ∃ (sc : Addr) (ns : List Int) (i b s l : Int), H p = some (.lst [.ref sc, .int i, .int b, .int s, .int l]) ∧ I sc = some (.lst (ns.map V.int)) ∧ 0 ≤ i ∧ 0 ≤ b ∧ 0 ≤ s ∧ s < 10 ^ 18 ∧ 0 ≤ l ∧ l ≤ 6
def Ok (K : PySem.W.Frag) (I H0 : Hp) (sa : Option Addr) (H : Hp) : Option V → SV → Prop
  | _, .u => True
  | o, .d x => ∃ v, o = some v ∧ W K I v x
  | o, .k xs => ∃ p ws, o = some (.ref p) ∧ FrzT I p ws ∧ WA K I ws xs
  | o, .l xs => ∃ p ws, o = some (.ref p) ∧ H p = some (.lst ws) ∧ WA K I ws xs ∧ I p = none ∧ H0 p = none
  | o, .st => ∃ p, o = some (.ref p) ∧ StOk I H p ∧ I p = none ∧ (sa = some p ∨ H0 p = none)
  | _, .a _ => False
def adr : Option V → Option Addr
  | some (.ref p) => some p
  | _ => none
def ad (r : Rt) : Option Addr := if r.2.own then adr r.1 else none
abbrev ads (rs : List Rt) : List Addr := rs.filterMap ad
structure RepI (K : PySem.W.Frag) (I0 H0 : Hp) (sa : Option Addr) (I H : Hp) (R tk : List Rt) : Prop where
  ih : Same I H
  i0 : Same I0 I
  fr : ∀ b o, I0 b = none → H0 b = some o → mu o = true → I b = none
  bs : ∀ b o, some b ≠ sa → H0 b = some o → H b = some o
  ok : ∀ r ∈ R ++ tk, Ok K I H0 sa H r.1 r.2
  nd : (ads (R ++ tk)).Nodup
  sa : ∀ p, sa = some p → StOk I H p ∧ I p = none ∧ ∃ o, H0 p = some o ∧ mu o = true
def Rep (K : PySem.W.Frag) (I0 H0 : Hp) (sa : Option Addr) (H : Hp) (R tk : List Rt) : Prop := ∃ I, RepI K I0 H0 sa I H R tk
theorem StOk.same {I I' H H' : Hp} {p : Addr} (h : StOk I H p) (s : Same I I') (e : H' p = H p) : StOk I' H' p := by
  obtain ⟨sc, ns, i, b, z, l, h1, h2, r⟩ := h
  exact ⟨sc, ns, i, b, z, l, by rw [e, h1], s _ _ h2, r⟩
section
variable {K : PySem.W.Frag} {I0 H0 : Hp} {sa : Option Addr} {I I' H H' : Hp} {R tk : List Rt}
/-- what does not own anything stays if the things that stay grow -/
theorem Ok.mono {o : Option V} {s : SV} (h : Ok K I H0 sa H o s) (s1 : Same I I') (n : s.own = false) : Ok K I' H0 sa H' o s := by
  cases s with
  | u => exact trivial
  | d x => obtain ⟨v, e, w⟩ := h; exact ⟨v, e, w.mono s1⟩
  | k xs => obtain ⟨p, ws, e, f, w⟩ := h; exact ⟨p, ws, e, f.same s1, w.mono s1⟩
  | l xs => cases n
  | st => cases n
  | a j => exact h.elim
/-- an owner stays where its object stays -/
theorem Ok.owner {o : Option V} {s : SV} (h : Ok K I H0 sa H o s) (s1 : Same I I') (n : s.own = true) (hp : ∀ p, o = some (.ref p) → H' p = H p ∧ (I p = none → I' p = none)) : Ok K I' H0 sa H' o s := by
  cases s with
  | u => cases n
  | d x => cases n
  | k xs => cases n
  | l xs =>
    obtain ⟨p, ws, e, f, w, i, z⟩ := h
    obtain ⟨a, b⟩ := hp p e
    exact ⟨p, ws, e, by rw [a, f], w.mono s1, b i, z⟩
  | st =>
    obtain ⟨p, e, f, i, z⟩ := h
    obtain ⟨a, b⟩ := hp p e
    exact ⟨p, e, f.same s1 a, b i, z⟩
  | a j => cases n
theorem Ok.adr {o : Option V} {s : SV} (h : Ok K I H0 sa H o s) (n : s.own = true) : ∃ p, o = some (.ref p) ∧ I p = none ∧ (∃ ob, H p = some ob ∧ mu ob = true) ∧ (sa = some p ∨ H0 p = none) := by
  cases s with
  | u => cases n
  | d x => cases n
  | k xs => cases n
  | l xs => obtain ⟨p, ws, e, f, w, i, z⟩ := h; exact ⟨p, e, i, ⟨_, f, rfl⟩, .inr z⟩
  | st => obtain ⟨p, e, f, i, z⟩ := h; obtain ⟨_, _, _, _, _, _, f, _⟩ := f; exact ⟨p, e, i, ⟨_, f, rfl⟩, z⟩
  | a j => cases n
/-- the general step: the things that stay grow, and the objects of the owners stay as they are -/
theorem RepI.step (h : RepI K I0 H0 sa I H R tk) (s1 : Same I I') (s2 : Same I' H') (f : ∀ b o, I0 b = none → H0 b = some o → mu o = true → I' b = none) (hb : ∀ b o, some b ≠ sa → H0 b = some o → H' b = some o)
    (hp : ∀ p ∈ ads (R ++ tk), H' p = H p ∧ (I p = none → I' p = none)) (hs : ∀ p, sa = some p → H' p = H p) : RepI K I0 H0 sa I' H' R tk := by
  refine ⟨s2, h.i0.trans s1, f, hb, fun r hr => ?_, h.nd, fun p e => ?_⟩
  · have k := h.ok r hr
    cases e : r.2.own with
    | false => exact k.mono s1 e
    | true =>
      refine k.owner s1 e fun p ep => hp p ?_
      refine List.mem_filterMap.mpr ⟨r, hr, ?_⟩
      unfold ad
      rw [e, ep]; rfl
  · obtain ⟨a, b, c⟩ := h.sa p e
    obtain ⟨o, c1, c2⟩ := id c
    exact ⟨a.same s1 (hs p e), f p o (by
      cases q : I0 p with
      | none => rfl
      | some o => rw [h.i0 _ _ q] at b; cases b) c1 c2, c⟩
theorem RepI.own_some (h : RepI K I0 H0 sa I H R tk) {p : Addr} (hp : p ∈ ads (R ++ tk)) : I p = none ∧ (∃ ob, H p = some ob ∧ mu ob = true) ∧ (sa = some p ∨ H0 p = none) := by
  obtain ⟨r, hr, e⟩ := List.mem_filterMap.mp hp
  unfold ad at e
  cases q : r.2.own with
  | false => rw [q] at e; cases e
  | true =>
    obtain ⟨p', e', a⟩ := (h.ok r hr).adr q
    rw [q, e'] at e
    cases e
    exact a
/-- the heap grows, nothing changes -/
theorem RepI.heap (h : RepI K I0 H0 sa I H R tk) (s : Same H H') : RepI K I0 H0 sa I H' R tk := by
  refine h.step (Same.refl _) (h.ih.trans s) h.fr (fun b o n e => s _ _ (h.bs b o n e)) (fun p hp => ?_) (fun p e => ?_)
  · obtain ⟨_, ⟨ob, e, _⟩, _⟩ := h.own_some hp
    exact ⟨by rw [e, s _ _ e], id⟩
  · obtain ⟨⟨_, _, _, _, _, _, e, _⟩, _⟩ := h.sa p e
    rw [e, s _ _ e]
theorem RepI.sub {tk' : List Rt} (h : RepI K I0 H0 sa I H R tk) (s : List.Sublist tk' tk) : RepI K I0 H0 sa I H R tk' :=
  ⟨h.ih, h.i0, h.fr, h.bs, fun r hr => h.ok r ((List.Sublist.append (List.Sublist.refl R) s).subset hr), h.nd.sublist ((List.Sublist.append (List.Sublist.refl R) s).filterMap _), h.sa⟩
theorem RepI.pop {r : Rt} (h : RepI K I0 H0 sa I H R (r :: tk)) : RepI K I0 H0 sa I H R tk := h.sub (List.sublist_cons_self _ _)
theorem RepI.perm {tk' : List Rt} (h : RepI K I0 H0 sa I H R tk) (s : tk.Perm tk') : RepI K I0 H0 sa I H R tk' :=
  ⟨h.ih, h.i0, h.fr, h.bs, fun r hr => h.ok r (by
    rcases List.mem_append.mp hr with x | x
    · exact List.mem_append_left _ x
    · exact List.mem_append_right _ (s.symm.subset x)), ((List.Perm.append (List.Perm.refl R) s).filterMap _).nodup_iff.mp h.nd, h.sa⟩
theorem RepI.push {r : Rt} (h : RepI K I0 H0 sa I H R tk) (k : Ok K I H0 sa H r.1 r.2) (n : r.2.own = false) : RepI K I0 H0 sa I H R (r :: tk) := by
  refine ⟨h.ih, h.i0, h.fr, h.bs, fun r' hr => ?_, ?_, h.sa⟩
  · rcases List.mem_append.mp hr with x | x
    · exact h.ok r' (List.mem_append_left _ x)
    · rcases List.mem_cons.mp x with x | x
      · rw [x]; exact k
      · exact h.ok r' (List.mem_append_right _ x)
  · have e : ads (R ++ r :: tk) = ads (R ++ tk) := by
      unfold ads
      rw [List.filterMap_append, List.filterMap_append, List.filterMap_cons_none (show ad r = none by unfold ad; rw [n]; rfl)]
    rw [e]; exact h.nd
theorem RepI.top {r : Rt} (h : RepI K I0 H0 sa I H R (r :: tk)) : Ok K I H0 sa H r.1 r.2 := h.ok r (List.mem_append_right _ List.mem_cons_self)
/-- a new thing that stays -/
theorem RepI.grow (h : RepI K I0 H0 sa I H R tk) {p : Addr} (np : H p = none) (o : HO) : RepI K I0 H0 sa (upd I p o) (upd H p o) R tk := by
  have ip : I p = none := by
    cases q : I p with
    | none => rfl
    | some z => rw [h.ih _ _ q] at np; cases np
  refine h.step (sm_upd ip) (fun b z e => ?_) (fun b o b0 b1 b2 => ?_) (fun b z n e => sm_upd np _ _ (h.bs b z n e)) (fun q hq => ?_) (fun q e => ?_)
  · by_cases x : b = p
    · subst x; rw [upd_same] at e ⊢; exact e
    · rw [upd_ne x] at e ⊢; exact h.ih _ _ e
  · by_cases x : b = p
    · subst x
      by_cases y : some b = sa
      · obtain ⟨⟨_, _, _, _, _, _, e, _⟩, _⟩ := h.sa b y.symm
        rw [e] at np; cases np
      · rw [h.bs b o y b1] at np; cases np
    · rw [upd_ne x]; exact h.fr b o b0 b1 b2
  · obtain ⟨a, ⟨ob, e, _⟩, _⟩ := h.own_some hq
    have x : q ≠ p := fun z => by rw [z, np] at e; cases e
    rw [upd_ne x, upd_ne x]
    exact ⟨rfl, id⟩
  · obtain ⟨⟨_, _, _, _, _, _, e, _⟩, _⟩ := h.sa q e
    rw [upd_ne (fun z => by rw [z, np] at e; cases e)]
theorem RepI.fresh0 (h : RepI K I0 H0 sa I H R tk) {p : Addr} (np : H p = none) : H0 p = none := by
  by_cases y : some p = sa
  · obtain ⟨⟨_, _, _, _, _, _, e, _⟩, _⟩ := h.sa p y.symm
    rw [e] at np; cases np
  · cases z : H0 p with
    | none => rfl
    | some ob => rw [h.bs p ob y z] at np; cases np
theorem RepI.free (h : RepI K I0 H0 sa I H R tk) {p : Addr} (np : H p = none) : I p = none := by
  cases q : I p with
  | none => rfl
  | some z => rw [h.ih _ _ q] at np; cases np
/-- a new own list -/
theorem RepI.new (h : RepI K I0 H0 sa I H R tk) {p : Addr} (np : H p = none) {ws : List V} {xs : List PyData} (w : WA K I ws xs) : RepI K I0 H0 sa I (upd H p (.lst ws)) R ((some (.ref p), .l xs) :: tk) := by
  have h1 := h.heap (sm_upd np (o := .lst ws))
  refine ⟨h1.ih, h1.i0, h1.fr, h1.bs, fun r' hr => ?_, ?_, h1.sa⟩
  · rcases List.mem_append.mp hr with x | x
    · exact h1.ok r' (List.mem_append_left _ x)
    · rcases List.mem_cons.mp x with x | x
      · rw [x]; exact ⟨p, ws, rfl, upd_same, w, h.free np, h.fresh0 np⟩
      · exact h1.ok r' (List.mem_append_right _ x)
  · have e : ads (R ++ ((some (.ref p), SV.l xs) : Rt) :: tk) = ads R ++ p :: ads tk := by
      unfold ads
      rw [List.filterMap_append, List.filterMap_cons_some (show ad ((some (.ref p), SV.l xs) : Rt) = some p from rfl)]
    rw [e]
    have nd := h.nd
    rw [show ads (R ++ tk) = ads R ++ ads tk from List.filterMap_append ..] at nd
    refine (List.perm_middle.nodup_iff).mpr (List.nodup_cons.mpr ⟨fun q => ?_, nd⟩)
    obtain ⟨_, ⟨ob, e, _⟩, _⟩ := h.own_some (show p ∈ ads (R ++ tk) by rw [show ads (R ++ tk) = ads R ++ ads tk from List.filterMap_append ..]; exact q)
    rw [np] at e; cases e
theorem ads_set {j : Nat} {r r' : Rt} (e : R[j]? = some r) (ha : ad r' = ad r) : ads (R.set j r') = ads R := by
  induction R generalizing j with
  | nil => cases e
  | cons x R ih =>
    cases j with
    | zero => cases e; show List.filterMap ad (r' :: R) = List.filterMap ad (r :: R); rw [List.filterMap_cons, List.filterMap_cons, ha]
    | succ j => show List.filterMap ad (x :: R.set j r') = List.filterMap ad (x :: R); rw [List.filterMap_cons, List.filterMap_cons]; have := ih (j := j) e; unfold ads at this; rw [this]
theorem ads_del {j : Nat} {r r' : Rt} (e : R[j]? = some r) (ha : ad r' = none) : List.Sublist (ads (R.set j r')) (ads R) := by
  induction R generalizing j with
  | nil => cases e
  | cons x R ih =>
    cases j with
    | zero =>
      cases e
      show List.Sublist (List.filterMap ad (r' :: R)) (List.filterMap ad (r :: R))
      rw [List.filterMap_cons, ha]
      exact (List.sublist_cons_self _ _).filterMap _
    | succ j =>
      show List.Sublist (List.filterMap ad (x :: R.set j r')) (List.filterMap ad (x :: R))
      rw [List.filterMap_cons, List.filterMap_cons]
      have := ih (j := j) e
      cases ad x with
      | none => exact this
      | some y => exact this.cons_cons y
theorem map_set {j : Nat} {o : Option V} {s : SV} : (R.set j (o, s)).map Prod.fst = (R.map Prod.fst).set j o := by rw [List.map_set]
theorem map_set2 {j : Nat} {o : Option V} {s : SV} : (R.set j (o, s)).map Prod.snd = (R.map Prod.snd).set j s := by rw [List.map_set]
theorem set_fst {j : Nat} {o : Option V} {s s' : SV} (e : R[j]? = some (o, s)) : (R.set j (o, s')).map Prod.fst = R.map Prod.fst := by
  rw [map_set]
  apply List.ext_getElem? 
  intro i
  rw [List.getElem?_set]
  split
  · next h =>
    subst h
    rw [List.getElem?_map, e]
    split
    · rfl
    · next h => exact absurd (List.getElem?_eq_some_iff.mp e).1 (by simpa using h)
  · rfl
theorem mem_set {j : Nat} {r x : Rt} (h : x ∈ R.set j r) : x = r ∨ x ∈ R := (List.mem_or_eq_of_mem_set h).symm
theorem nodup_two : ∀ {l : List Rt} {i j : Nat} {r r' : Rt} {p : Addr}, (ads l).Nodup → i ≠ j → l[i]? = some r → l[j]? = some r' → ad r = some p → ad r' = some p → False
  | [], _, _, _, _, _, _, _, hi, _, _, _ => by cases hi
  | x :: l, 0, 0, _, _, _, _, ij, _, _, _, _ => ij rfl
  | x :: l, 0, j + 1, r, r', p, nd, ij, hi, hj, a, b => by
    cases hi
    unfold ads at nd
    rw [List.filterMap_cons_some a] at nd
    exact (List.nodup_cons.mp nd).1 (List.mem_filterMap.mpr ⟨r', List.mem_of_getElem? hj, b⟩)
  | x :: l, i + 1, 0, r, r', p, nd, ij, hi, hj, a, b => by
    cases hj
    unfold ads at nd
    rw [List.filterMap_cons_some b] at nd
    exact (List.nodup_cons.mp nd).1 (List.mem_filterMap.mpr ⟨r, List.mem_of_getElem? hi, a⟩)
  | x :: l, i + 1, j + 1, r, r', p, nd, ij, hi, hj, a, b => nodup_two (l := l) (i := i) (j := j) (nd.sublist ((List.sublist_cons_self _ _).filterMap _)) (fun z => ij (by rw [z])) hi hj a b
/-- a slot's own list is written -/
theorem RepI.put (h : RepI K I0 H0 sa I H R tk) {j : Nat} {p : Addr} {xs ys : List PyData} {ws : List V} (e : R[j]? = some (some (.ref p), .l xs)) (w : WA K I ws ys) : RepI K I0 H0 sa I (upd H p (.lst ws)) (R.set j (some (.ref p), .l ys)) tk := by
  have hr : ((some (.ref p), .l xs) : Rt) ∈ R := List.mem_of_getElem? e
  obtain ⟨p', ws', e', hp, _, ip, h0⟩ := h.ok _ (List.mem_append_left tk hr)
  cases e'
  have ea : ads (R.set j (some (.ref p), .l ys) ++ tk) = ads (R ++ tk) := by
    rw [show ads (R.set j (some (.ref p), .l ys) ++ tk) = ads (R.set j (some (.ref p), .l ys)) ++ ads tk from List.filterMap_append .., ads_set (r' := (some (.ref p), .l ys)) e rfl, show ads (R ++ tk) = ads R ++ ads tk from List.filterMap_append ..]
  refine ⟨fun b o z => ?_, h.i0, h.fr, fun b o n z => ?_, fun r hr' => ?_, by rw [ea]; exact h.nd, fun q z => ?_⟩
  · rw [upd_ne (fun y => by rw [y, ip] at z; cases z)]; exact h.ih _ _ z
  · rw [upd_ne (fun y => by rw [y, h0] at z; cases z)]; exact h.bs _ _ n z
  · -- the other owners
    have go : r ≠ (some (.ref p), .l xs) → r ∈ R ++ tk → (r.2.own = true → r.1 ≠ some (.ref p)) → Ok K I H0 sa (upd H p (.lst ws)) r.1 r.2 := fun _ m n => by
      cases q : r.2.own with
      | false => exact (h.ok r m).mono (Same.refl _) q
      | true => exact (h.ok r m).owner (Same.refl _) q fun p' ep => ⟨upd_ne (fun z => n q (by rw [ep, z])), id⟩
    obtain ⟨i, hi⟩ := List.getElem?_of_mem hr'
    by_cases ij : i = j
    · subst ij
      have hl : i < R.length := (List.getElem?_eq_some_iff.mp e).1
      rw [List.getElem?_append_left (by rw [List.length_set]; exact hl), List.getElem?_set_self hl] at hi
      cases hi
      exact ⟨p, ws, rfl, upd_same, w, ip, h0⟩
    · have hi2 : (R ++ tk)[i]? = some r := by
        by_cases hl : i < R.length
        · rw [List.getElem?_append_left (by rw [List.length_set]; exact hl), List.getElem?_set_ne (fun z => ij z.symm)] at hi
          rw [List.getElem?_append_left hl]; exact hi
        · rw [List.getElem?_append_right (by rw [List.length_set]; omega), List.length_set] at hi
          rw [List.getElem?_append_right (by omega)]; exact hi
      have hj2 : (R ++ tk)[j]? = some (some (.ref p), .l xs) := by
        rw [List.getElem?_append_left (List.getElem?_eq_some_iff.mp e).1]; exact e
      have n : r.2.own = true → r.1 ≠ some (.ref p) := fun q z => by
        have := nodup_two h.nd ij hi2 hj2 (show ad r = some p by unfold ad; rw [q, z]; rfl) rfl
        exact this
      cases q : r.2.own with
      | false => exact (h.ok r (List.mem_of_getElem? hi2)).mono (Same.refl _) q
      | true => exact (h.ok r (List.mem_of_getElem? hi2)).owner (Same.refl _) q fun p' ep => ⟨upd_ne (fun z => n q (by rw [ep, z])), id⟩
  · obtain ⟨a, b, c⟩ := h.sa q z
    refine ⟨a.same (Same.refl _) (upd_ne (fun y => by obtain ⟨o, c, _⟩ := c; rw [y, h0] at c; cases c)), b, c⟩
end
end PL

/-! P1: freezing, storing, calls -/
namespace PL
open PySem PySem.Spec PyProof.Rows L2 RN
section
variable {K : PySem.W.Frag} {I0 H0 : Hp} {sa : Option Addr} {I I' H H' : Hp} {R tk : List Rt}
theorem ads_app (a b : List Rt) : ads (a ++ b) = ads a ++ ads b := List.filterMap_append ..
theorem RepI.st_some (h : RepI K I0 H0 sa I H R tk) {b : Addr} (e : some b = sa) : ∃ o, H b = some o := by
  obtain ⟨⟨_, _, _, _, _, _, e, _⟩, _⟩ := h.sa b e.symm
  exact ⟨_, e⟩
/-- the objects of things that stay become more -/
theorem RepI.own_ne (h : RepI K I0 H0 sa I H R tk) {i j : Nat} {r r' : Rt} {p : Addr} (ij : i ≠ j) (hi : (R ++ tk)[i]? = some r) (hj : (R ++ tk)[j]? = some r') (a : ad r = some p) : ad r' ≠ some p := fun b => nodup_two h.nd ij hi hj a b
theorem RepI.freeze {o : Option V} {xs : List PyData} (h : RepI K I0 H0 sa I H R ((o, .l xs) :: tk)) : ∃ I', Same I I' ∧ RepI K I0 H0 sa I' H R ((o, .d (.list xs)) :: tk) := by
  obtain ⟨p, ws, rfl, hp, w, ip, h0⟩ := h.top
  have s1 : Same I (upd I p (.lst ws)) := sm_upd ip
  have pn : p ∉ ads (R ++ tk) := fun q => by
    have nd := h.nd
    have e : ads (R ++ ((some (.ref p), SV.l xs) : Rt) :: tk) = ads R ++ p :: ads tk := by
      unfold ads
      rw [List.filterMap_append, List.filterMap_cons_some (show ad ((some (.ref p), SV.l xs) : Rt) = some p from rfl)]
    rw [e] at nd
    have := (List.nodup_cons.mp ((List.perm_middle.nodup_iff).mp nd)).1
    rw [ads_app] at q
    exact this q
  refine ⟨upd I p (.lst ws), s1, ?_⟩
  have h1 : RepI K I0 H0 sa (upd I p (.lst ws)) H R tk := by
    refine h.pop.step s1 (fun b z e => ?_) (fun b o b0 b1 b2 => ?_) h.bs (fun q hq => ⟨rfl, fun e => ?_⟩) (fun _ _ => rfl)
    · by_cases x : b = p
      · subst x; rw [upd_same] at e; rw [hp, e]
      · rw [upd_ne x] at e; exact h.ih _ _ e
    · by_cases x : b = p
      · subst x; rw [h0] at b1; cases b1
      · rw [upd_ne x]; exact h.fr b o b0 b1 b2
    · rw [upd_ne (fun x => by rw [x] at hq; exact pn hq)]; exact e
  exact h1.push ⟨_, rfl, .lst upd_same (w.mono s1)⟩ rfl
/-- a slot is known no more -/
theorem RepI.drop (h : RepI K I0 H0 sa I H R tk) {j : Nat} {o : Option V} {s : SV} (e : R[j]? = some (o, s)) : RepI K I0 H0 sa I H (R.set j (o, .u)) tk := by
  refine ⟨h.ih, h.i0, h.fr, h.bs, fun r hr => ?_, ?_, h.sa⟩
  · rcases List.mem_append.mp hr with x | x
    · rcases mem_set x with x | x
      · rw [x]; exact trivial
      · exact h.ok r (List.mem_append_left _ x)
    · exact h.ok r (List.mem_append_right _ x)
  · rw [ads_app]
    have nd := h.nd
    rw [ads_app] at nd
    exact nd.sublist ((ads_del e (r' := (o, .u)) rfl).append (List.Sublist.refl _))
/-- a slot's own list is taken out of it -/
theorem RepI.take {v : V} {j : Nat} {xs : List PyData} (h : RepI K I0 H0 sa I H R tk) (e : R[j]? = some (some v, .l xs)) : RepI K I0 H0 sa I H (R.set j (some v, .u)) ((some v, .l xs) :: tk) := by
  have hr : ((some v, .l xs) : Rt) ∈ R := List.mem_of_getElem? e
  have hk := h.ok _ (List.mem_append_left tk hr)
  have h1 := h.drop e
  refine ⟨h1.ih, h1.i0, h1.fr, h1.bs, fun r hr => ?_, ?_, h1.sa⟩
  · rcases List.mem_append.mp hr with x | x
    · exact h1.ok r (List.mem_append_left _ x)
    · rcases List.mem_cons.mp x with x | x
      · rw [x]; exact hk
      · exact h1.ok r (List.mem_append_right _ x)
  · obtain ⟨p, ws, ep, _⟩ := id hk
    cases ep
    have nd := h.nd
    have hl : j < R.length := (List.getElem?_eq_some_iff.mp e).1
    have eR : R = R.take j ++ (some (.ref p), .l xs) :: R.drop (j + 1) := by
      rw [← (List.getElem?_eq_some_iff.mp e).2]
      simp
    have eS : R.set j (some (.ref p), .u) = R.take j ++ (some (.ref p), .u) :: R.drop (j + 1) := by
      rw [List.set_eq_take_append_cons_drop, if_pos hl]
    rw [eR] at nd
    rw [eS]
    rw [ads_app, ads_app, show ads (((some (.ref p), SV.l xs) : Rt) :: R.drop (j + 1)) = p :: ads (R.drop (j + 1)) from rfl] at nd
    rw [ads_app, ads_app, show ads (((some (.ref p), SV.u) : Rt) :: R.drop (j + 1)) = ads (R.drop (j + 1)) from rfl, show ads (((some (.ref p), SV.l xs) : Rt) :: tk) = p :: ads tk from rfl]
    refine (List.Perm.nodup_iff ?_).mp nd
    refine List.Perm.trans (List.perm_middle.append_right _) ?_
    exact List.Perm.trans (List.Perm.refl _) List.perm_middle.symm
theorem perm_mv {α : Type} (a b tk : List α) (r : α) : ((a ++ b) ++ r :: tk).Perm ((a ++ r :: b) ++ tk) := by
  have h1 : ((a ++ b) ++ r :: tk).Perm (r :: ((a ++ b) ++ tk)) := List.perm_middle
  have h2 : ((a ++ r :: b) ++ tk).Perm (r :: ((a ++ b) ++ tk)) := List.perm_middle.append_right tk
  exact h1.trans h2.symm
/-- a slot gets what was found -/
theorem RepI.move {r : Rt} (h : RepI K I0 H0 sa I H R (r :: tk)) (i : Nat) : RepI K I0 H0 sa I H (R.set i r) tk := by
  refine ⟨h.ih, h.i0, h.fr, h.bs, fun x hx => ?_, ?_, h.sa⟩
  · refine h.ok x ?_
    rcases List.mem_append.mp hx with y | y
    · rcases mem_set y with y | y
      · rw [y]; exact List.mem_append_right _ List.mem_cons_self
      · exact List.mem_append_left _ y
    · exact List.mem_append_right _ (List.mem_cons_of_mem _ y)
  · have nd := h.nd
    by_cases hl : i < R.length
    · have eS : R.set i r = R.take i ++ r :: R.drop (i + 1) := by
        rw [List.set_eq_take_append_cons_drop, if_pos hl]
      rw [eS]
      have sb : List.Sublist (R.take i ++ R.drop (i + 1)) R := by
        rw [← List.eraseIdx_eq_take_drop_succ]
        exact List.eraseIdx_sublist _ _
      have nd2 : (ads ((R.take i ++ R.drop (i + 1)) ++ r :: tk)).Nodup := nd.sublist ((List.Sublist.append sb (List.Sublist.refl _)).filterMap _)
      refine (List.Perm.nodup_iff (List.Perm.filterMap _ ?_)).mp nd2
      exact perm_mv _ _ _ _
    · rw [List.set_eq_of_length_le (by omega)]
      exact nd.sublist ((List.Sublist.append (List.Sublist.refl R) (List.sublist_cons_self r tk)).filterMap _)
/-- a call: what stays grows; what stood before stays, but the state at q -/
theorem RepI.call (h : RepI K I0 H0 sa I H R tk) (q : Option Addr) (s1 : Same I I') (s2 : Same I' H') (f : ∀ b o, I b = none → H b = some o → mu o = true → I' b = none) (hb : ∀ b o, some b ≠ q → H b = some o → H' b = some o)
    (hq : ∀ p, q = some p → StOk I' H' p ∧ ((some (.ref p), .st) : Rt) ∈ R ++ tk) : RepI K I0 H0 sa I' H' R tk := by
  refine ⟨s2, h.i0.trans s1, fun b o b0 b1 b2 => ?_, fun b o n e => ?_, fun r hr => ?_, h.nd, fun p e => ?_⟩
  · have ib := h.fr b o b0 b1 b2
    by_cases y : some b = sa
    · obtain ⟨⟨_, _, _, _, _, _, e, _⟩, _⟩ := h.sa b y.symm
      exact f b _ ib e rfl
    · exact f b o ib (h.bs b o y b1) b2
  · refine hb b o (fun z => ?_) (h.bs b o n e)
    obtain ⟨_, m⟩ := hq b z.symm
    obtain ⟨p', e', _, _, x⟩ := h.ok _ m
    cases e'
    rcases x with x | x
    · exact n x.symm
    · rw [x] at e; cases e
  · have k := h.ok r hr
    cases e : r.2.own with
    | false => exact k.mono s1 e
    | true =>
      obtain ⟨p, ep, ip, ⟨ob, hp, hm⟩, z⟩ := k.adr e
      by_cases x : some p = q
      · obtain ⟨a, m⟩ := hq p x.symm
        obtain ⟨i, hi⟩ := List.getElem?_of_mem hr
        obtain ⟨j, hj⟩ := List.getElem?_of_mem m
        have er : r = (some (.ref p), .st) := by
          by_cases ij : i = j
          · subst ij; rw [hi] at hj; exact Option.some.inj hj
          · exact (nodup_two h.nd ij hi hj (show ad r = some p by unfold ad; rw [e, ep]; rfl) rfl).elim
        rw [er]
        exact ⟨p, rfl, a, f p ob ip hp hm, z⟩
      · exact k.owner s1 e fun p' ep' => by
          rw [ep] at ep'
          cases ep'
          exact ⟨by rw [hp]; exact hb p ob x hp, fun _ => f p ob ip hp hm⟩
  · obtain ⟨a, b, c⟩ := h.sa p e
    obtain ⟨_, _, _, _, _, _, hp, _⟩ := id a
    refine ⟨?_, f p _ b hp rfl, c⟩
    by_cases x : some p = q
    · exact (hq p x.symm).1
    · exact a.same s1 (by rw [hp]; exact hb p _ x hp)
/-- a temporary own list is written -/
theorem RepI.putT {p : Addr} {xs ys : List PyData} {ws : List V} (h : RepI K I0 H0 sa I H R ((some (.ref p), .l xs) :: tk)) (w : WA K I ws ys) : RepI K I0 H0 sa I (upd H p (.lst ws)) R ((some (.ref p), .l ys) :: tk) := by
  obtain ⟨p', ws', e', hp, _, ip, h0⟩ := h.top
  cases e'
  have pn : p ∉ ads (R ++ tk) := fun q => by
    have nd := h.nd
    have e : ads (R ++ ((some (.ref p), SV.l xs) : Rt) :: tk) = ads R ++ p :: ads tk := by
      unfold ads
      rw [List.filterMap_append, List.filterMap_cons_some (show ad ((some (.ref p), SV.l xs) : Rt) = some p from rfl)]
    rw [e] at nd
    have := (List.nodup_cons.mp ((List.perm_middle.nodup_iff).mp nd)).1
    rw [ads_app] at q
    exact this q
  have h2 : RepI K I0 H0 sa I (upd H p (.lst ws)) R tk := h.pop.step (Same.refl _) (fun b z e => by rw [upd_ne (fun y => by rw [y, ip] at e; cases e)]; exact h.ih _ _ e) h.fr
    (fun b o n e => by rw [upd_ne (fun y => by rw [y, h0] at e; cases e)]; exact h.bs _ _ n e) (fun q hq => ⟨upd_ne (fun z => pn (z ▸ hq)), id⟩) (fun q e => by
      obtain ⟨_, _, o, c, _⟩ := h.sa q e
      rw [upd_ne (fun y => by rw [y, h0] at c; cases c)])
  refine ⟨h2.ih, h2.i0, h2.fr, h2.bs, fun r' hr => ?_, ?_, h2.sa⟩
  · rcases List.mem_append.mp hr with x | x
    · exact h2.ok r' (List.mem_append_left _ x)
    · rcases List.mem_cons.mp x with x | x
      · rw [x]; exact ⟨p, ws, rfl, upd_same, w, ip, h0⟩
      · exact h2.ok r' (List.mem_append_right _ x)
  · have nd := h.nd
    rw [ads_app] at nd ⊢
    exact nd
/-- a slot is wiped -/
theorem RepI.clear (h : RepI K I0 H0 sa I H R tk) (j : Nat) (o : Option V) : RepI K I0 H0 sa I H (R.set j (o, .u)) tk := by
  refine ⟨h.ih, h.i0, h.fr, h.bs, fun r hr => ?_, ?_, h.sa⟩
  · rcases List.mem_append.mp hr with x | x
    · rcases mem_set x with x | x
      · rw [x]; exact trivial
      · exact h.ok r (List.mem_append_left _ x)
    · exact h.ok r (List.mem_append_right _ x)
  · cases e : R[j]? with
    | none => rw [List.set_eq_of_length_le (List.getElem?_eq_none_iff.mp e)]; exact h.nd
    | some r =>
      rw [ads_app]
      have nd := h.nd
      rw [ads_app] at nd
      exact nd.sublist ((ads_del e (r' := (o, .u)) rfl).append (List.Sublist.refl _))
/-- the things that stay now are those that stay from here on -/
theorem RepI.base (h : RepI K I0 H0 sa I H R tk) : RepI K I H0 sa I H R tk := ⟨h.ih, Same.refl _, fun _ _ e _ _ => e, h.bs, h.ok, h.nd, h.sa⟩
theorem RepI.unbase (h : RepI K I0 H0 sa I H R tk) {R' tk' : List Rt} (g : RepI K I H0 sa I' H' R' tk') : RepI K I0 H0 sa I' H' R' tk' :=
  ⟨g.ih, h.i0.trans g.i0, fun b o e x m => g.fr b o (h.fr b o e x m) x m, g.bs, g.ok, g.nd, g.sa⟩
/-- an own list that was made just now is data -/
theorem RepI.tup (h : RepI K I0 H0 sa I H R tk) {p : Addr} (np : H p = none) {ob : Obj} (hd : ob.dict = none) {ws : List V} {xs : List PyData} (w : WA K I ws xs) : RepI K I0 H0 sa (upd I p (.frz ob (.tup ws))) (upd H p (.frz ob (.tup ws))) R ((some (.ref p), .k xs) :: tk) :=
  (h.grow np _).push ⟨p, ws, rfl, ⟨ob, hd, upd_same⟩, w.mono (sm_upd (h.free np))⟩ rfl
end
end PL

/-! P2: what an expression does to pure roots -/
namespace PL
open PySem PySem.Spec PyProof.Rows L2 RN
abbrev PEx := Env → (SV → Env → Prop) → Prop
abbrev PDx := Env → (PyData → Env → Prop) → Prop
abbrev PTx := Env → (Bool → Env → Prop) → Prop
abbrev PAx := Env → (List PyData → Env → Prop) → Prop
abbrev sl (R : List Rt) : L2.St := R.map Prod.fst
abbrev ev (R : List Rt) : Env := R.map Prod.snd
def gt : Env → Nat → SV
  | [], _ => .u
  | s :: _, 0 => s
  | _ :: e, n + 1 => gt e n
theorem gt_at : ∀ {R : List Rt} {i : Nat}, gt (ev R) i ≠ .u → ∃ o, R[i]? = some (o, gt (ev R) i)
  | [], _, h => (h rfl).elim
  | r :: _, 0, _ => ⟨r.1, rfl⟩
  | _ :: R, n + 1, h => gt_at (R := R) (i := n) h
def Rp (K : PySem.W.Frag) (I0 H0 : Hp) (sa : Option Addr) (H : Hp) (R tk : List Rt) : Prop := ∃ I, RepI K I0 H0 sa I H R tk
def SV.rt : SV → SV
  | .a _ => .u
  | s => s
def SV.alk : SV → V → L2.St → Prop
  | .a j, v, σ => σ[j]? = some (some v)
  | _, _, _ => True
def SimE (K : PySem.W.Frag) (t : TE) (p : PEx) : Prop := ∀ (I0 H0 : Hp) (sa : Option Addr) (H : Hp) (R tk : List Rt) (Q : SV → Env → Prop) (tQ : VK), Rp K I0 H0 sa H R tk → p (ev R) Q →
  (∀ v s H' R', sl R' = sl R → s.alk v (sl R') → Rp K I0 H0 sa H' R' ((some v, s.rt) :: tk) → Q s (ev R') → tQ v H') → t (sl R) H tQ
def SimD (K : PySem.W.Frag) (t : TE) (p : PDx) : Prop := ∀ (I0 H0 : Hp) (sa : Option Addr) (H : Hp) (R tk : List Rt) (Q : PyData → Env → Prop) (tQ : VK), Rp K I0 H0 sa H R tk → p (ev R) Q →
  (∀ v x H' R', sl R' = sl R → Rp K I0 H0 sa H' R' ((some v, .d x) :: tk) → Q x (ev R') → tQ v H') → t (sl R) H tQ
def SimT (K : PySem.W.Frag) (t : TT) (p : PTx) : Prop := ∀ (I0 H0 : Hp) (sa : Option Addr) (H : Hp) (R tk : List Rt) (Q : Bool → Env → Prop) (tQ : Bool → Hp → Prop), Rp K I0 H0 sa H R tk → p (ev R) Q →
  (∀ b H' R', sl R' = sl R → Rp K I0 H0 sa H' R' tk → Q b (ev R') → tQ b H') → t (sl R) H tQ
def blk (vs : List V) (xs : List PyData) : List Rt := (vs.zip xs).map fun p => (some p.1, .d p.2)
def SimA (K : PySem.W.Frag) (t : TA) (p : PAx) : Prop := ∀ (I0 H0 : Hp) (sa : Option Addr) (H : Hp) (R tk : List Rt) (Q : List PyData → Env → Prop) (tQ : List V → Hp → Prop), Rp K I0 H0 sa H R tk → p (ev R) Q →
  (∀ vs xs H' R', sl R' = sl R → vs.length = xs.length → Rp K I0 H0 sa H' R' (blk vs xs ++ tk) → Q xs (ev R') → tQ vs H') → t (sl R) H tQ
section
variable {K : PySem.W.Frag} {I0 H0 : Hp} {sa : Option Addr} {I I' H H' : Hp} {R tk : List Rt}
theorem RepI.slot {j : Nat} {o : Option V} {s : SV} (h : RepI K I0 H0 sa I H R tk) (e : R[j]? = some (o, .u)) (k : Ok K I H0 sa H o s) (n : s.own = false) : RepI K I0 H0 sa I H (R.set j (o, s)) tk := by
  refine ⟨h.ih, h.i0, h.fr, h.bs, fun r hr => ?_, ?_, h.sa⟩
  · rcases List.mem_append.mp hr with x | x
    · rcases mem_set x with x | x
      · rw [x]; exact k
      · exact h.ok r (List.mem_append_left _ x)
    · exact h.ok r (List.mem_append_right _ x)
  · rw [ads_app, ads_set (r' := (o, s)) e (by unfold ad; rw [n]; rfl), ← ads_app]; exact h.nd
/-- a list of a slot becomes data, for good -/
theorem Rp.freezeA {v : V} {j : Nat} {xs : List PyData} (h : Rp K I0 H0 sa H R ((some v, .u) :: tk)) (e2 : (sl R)[j]? = some (some v)) (e : gt (ev R) j = .l xs) : ∃ R', sl R' = sl R ∧ ev R' = (ev R).set j (.d (.list xs)) ∧ Rp K I0 H0 sa H R' ((some v, .d (.list xs)) :: tk) := by
  obtain ⟨I, h⟩ := h
  obtain ⟨o, eo⟩ := gt_at (R := R) (i := j) (by rw [e]; exact fun z => by cases z)
  rw [e] at eo
  have ev' : o = some v := by
    rw [List.getElem?_map, eo] at e2
    exact Option.some.inj e2
  subst ev'
  have h1 := h.pop.take eo
  obtain ⟨I', s1, h2⟩ := h1.freeze
  have hl : j < R.length := (List.getElem?_eq_some_iff.mp eo).1
  have h3 := h2.slot (j := j) (o := some v) (s := .d (.list xs)) (by rw [List.getElem?_set_self hl]) h2.top rfl
  rw [List.set_set] at h3
  refine ⟨_, ?_, ?_, ⟨I', h3⟩⟩
  · exact set_fst eo
  · exact map_set2
abbrev dat : SV → Env → (PyData → Env → Prop) → Prop
  | .d x, e, Q => Q x e
  | .k xs, e, Q => Q (.tuple xs) e
  | .l xs, e, Q => Q (.list xs) e
  | .a j, e, Q => match gt e j with
    | .l xs => Q (.list xs) (e.set j (.d (.list xs)))
    | _ => False
  | _, _, _ => False
abbrev pD (p : PEx) : PDx := fun e Q => p e fun s e1 => dat s e1 Q
theorem sim_dat {t : TE} {p : PEx} (h : SimE K t p) : SimD K t (pD p) := fun I0 H0 sa H R tk Q tQ r hp c => by
  refine h I0 H0 sa H R tk _ tQ r hp fun v s H' R' e al r' q => ?_
  cases s with
  | u => exact q.elim
  | d x => exact c v x H' R' e r' q
  | k xs =>
    obtain ⟨I, r'⟩ := r'
    obtain ⟨p, ws, ep, f, w⟩ := r'.top
    exact c v _ H' R' e ⟨I, r'.pop.push ⟨v, rfl, by cases ep; exact .tup f.sq w⟩ rfl⟩ q
  | l xs =>
    obtain ⟨I, r'⟩ := r'
    obtain ⟨I', _, r2⟩ := r'.freeze
    exact c v _ H' R' e ⟨I', r2⟩ q
  | st => exact q.elim
  | a j =>
    cases g : gt (ev R') j with
    | l xs =>
      obtain ⟨R2, e2, e3, r2⟩ := r'.freezeA al g
      refine c v (.list xs) H' R2 (e2.trans e) r2 ?_
      rw [e3]
      simp only [dat, g] at q
      exact q
    | u => simp only [dat, g] at q
    | d x => simp only [dat, g] at q
    | k x => simp only [dat, g] at q
    | st => simp only [dat, g] at q
    | a x => simp only [dat, g] at q
/-- data as a value -/
abbrev pE (p : PDx) : PEx := fun e Q => p e fun x e1 => Q (.d x) e1
theorem sim_val {t : TE} {p : PDx} (h : SimD K t p) : SimE K t (pE p) := fun I0 H0 sa H R tk Q tQ r hp c => h I0 H0 sa H R tk _ tQ r hp fun v x H' R' e r' q => c v (.d x) H' R' e trivial r' q
abbrev look (i : Nat) : SV → Env → (SV → Env → Prop) → Prop
  | .d x, e, Q => Q (.d x) e
  | .k xs, e, Q => Q (.k xs) e
  | .l _, e, Q => Q (.a i) e
  | .st, e, Q => Q (.a i) e
  | _, _, _ => False
abbrev pVar (i : Nat) : PEx := fun e Q => look i (gt e i) e Q
theorem sim_var (i : Nat) : SimE K (tVar i) (pVar i) := fun I0 H0 sa H R tk Q tQ r hp c => by
  have n : gt (ev R) i ≠ .u := fun z => by simp only [pVar, z, look] at hp
  have hp : look i (gt (ev R) i) (ev R) Q := hp
  obtain ⟨o, eo⟩ := gt_at n
  obtain ⟨I, r⟩ := r
  have hm := List.mem_append_left tk (List.mem_of_getElem? eo)
  have k := r.ok _ hm
  have es : ∀ v, o = some v → (sl R)[i]? = some (some v) := fun v e => by rw [List.getElem?_map, eo, e]; rfl
  generalize gt (ev R) i = s at *
  cases s with
  | u => exact (n rfl).elim
  | d x =>
    obtain ⟨v, rfl, w⟩ := k
    exact ⟨v, es v rfl, c v (.d x) H R rfl trivial ⟨I, r.push ⟨v, rfl, w⟩ rfl⟩ hp⟩
  | k xs =>
    obtain ⟨p, ws, rfl, f, w⟩ := k
    exact ⟨_, es _ rfl, c _ (.k xs) H R rfl trivial ⟨I, r.push ⟨p, ws, rfl, f, w⟩ rfl⟩ hp⟩
  | l xs =>
    obtain ⟨p, ws, rfl, f, w⟩ := k
    exact ⟨_, es _ rfl, c _ (.a i) H R rfl (es _ rfl) ⟨I, r.push trivial rfl⟩ hp⟩
  | st =>
    obtain ⟨p, rfl, f, w⟩ := k
    exact ⟨_, es _ rfl, c _ (.a i) H R rfl (es _ rfl) ⟨I, r.push trivial rfl⟩ hp⟩
  | a j => exact k.elim
abbrev pC (x : PyData) : PDx := fun e Q => Q x e
theorem sim_c {v : V} {x : PyData} (w : ∀ I, W K I v x) : SimD K (tC v) (pC x) := fun I0 H0 sa H R tk Q tQ r hp c =>
  c v x H R rfl (let ⟨I, h⟩ := r; ⟨I, h.push ⟨v, rfl, w I⟩ rfl⟩) hp
theorem sim_int {n : Int} : SimD K (tC (.int n)) (pC (.int n)) := sim_c fun _ => .int n
theorem sim_str {n : Str} : SimD K (tC (.str n)) (pC (.str n)) := sim_c fun _ => .str n
theorem sim_bl {n : Bool} : SimD K (tC (.bl n)) (pC (.bool n)) := sim_c fun _ => .bl n
theorem sim_non : SimD K (tC .non) (pC .none) := sim_c fun _ => .non
abbrev pNil : PAx := fun e Q => Q [] e
abbrev pCons (p : PDx) (q : PAx) : PAx := fun e Q => p e fun x e1 => q e1 fun xs e2 => Q (x :: xs) e2
theorem sim_nil : SimA K tNil pNil := fun I0 H0 sa H R tk Q tQ r hp c => c [] [] H R rfl rfl r hp
theorem Rp.perm {tk' : List Rt} (h : Rp K I0 H0 sa H R tk) (s : tk.Perm tk') : Rp K I0 H0 sa H R tk' := let ⟨I, x⟩ := h; ⟨I, x.perm s⟩
theorem sim_cons {te : TE} {t : TA} {p : PDx} {q : PAx} (h : SimD K te p) (g : SimA K t q) : SimA K (tCons te t) (pCons p q) := fun I0 H0 sa H R tk Q tQ r hp c => by
  refine h I0 H0 sa H R tk _ _ r hp fun v x H' R' e r' hq => ?_
  rw [← e]
  refine g I0 H0 sa H' R' _ _ _ r' hq fun vs xs H2 R2 e2 el r2 hq2 => ?_
  exact c (v :: vs) (x :: xs) H2 R2 (e2.trans e) (by rw [List.length_cons, List.length_cons, el]) (r2.perm List.perm_middle) hq2
theorem RepI.wa : ∀ {vs : List V} {xs : List PyData}, vs.length = xs.length → RepI K I0 H0 sa I H R (blk vs xs ++ tk) → WA K I vs xs ∧ RepI K I0 H0 sa I H R tk
  | [], [], _, h => ⟨.nil, h⟩
  | [], _ :: _, e, _ => by cases e
  | _ :: _, [], e, _ => by cases e
  | v :: vs, x :: xs, e, h => by
    have h : RepI K I0 H0 sa I H R ((some v, .d x) :: (blk vs xs ++ tk)) := h
    obtain ⟨v', e1, w⟩ := h.top
    cases e1
    obtain ⟨a, b⟩ := RepI.wa (Nat.succ.inj e) h.pop
    exact ⟨.cons w a, b⟩
/-- what an operation gives -/
def Res (K : PySem.W.Frag) (I H : Hp) (H' : Hp) (z : V) (s : SV) : Prop := ∃ I', Same I I' ∧ Same I' H' ∧ Same H H' ∧ (∀ b o, I b = none → H b = some o → mu o = true → I' b = none) ∧ match s with
  | .d x => W K I' z x
  | .k xs => ∃ p ws, z = .ref p ∧ FrzT I' p ws ∧ WA K I' ws xs
  | .l xs => ∃ p ws, z = .ref p ∧ H p = none ∧ H' p = some (.lst ws) ∧ WA K I' ws xs ∧ I' p = none
  | _ => False
theorem RepI.pushL (h : RepI K I0 H0 sa I H R tk) (h2 : RepI K I0 H0 sa I' H' R tk) {p : Addr} (np : H p = none) {ws : List V} {xs : List PyData} (hp : H' p = some (.lst ws)) (w : WA K I' ws xs) (ip : I' p = none) : RepI K I0 H0 sa I' H' R ((some (.ref p), .l xs) :: tk) := by
  refine ⟨h2.ih, h2.i0, h2.fr, h2.bs, fun r' hr => ?_, ?_, h2.sa⟩
  · rcases List.mem_append.mp hr with x | x
    · exact h2.ok r' (List.mem_append_left _ x)
    · rcases List.mem_cons.mp x with x | x
      · rw [x]; exact ⟨p, ws, rfl, hp, w, ip, h.fresh0 np⟩
      · exact h2.ok r' (List.mem_append_right _ x)
  · have e : ads (R ++ ((some (.ref p), SV.l xs) : Rt) :: tk) = ads R ++ p :: ads tk := by
      unfold ads
      rw [List.filterMap_append, List.filterMap_cons_some (show ad ((some (.ref p), SV.l xs) : Rt) = some p from rfl)]
    rw [e]
    have nd := h.nd
    rw [ads_app] at nd
    refine (List.perm_middle.nodup_iff).mpr (List.nodup_cons.mpr ⟨fun q => ?_, nd⟩)
    obtain ⟨_, ⟨ob, e, _⟩, _⟩ := h.own_some (show p ∈ ads (R ++ tk) by rw [ads_app]; exact q)
    rw [np] at e; cases e
theorem RepI.res (h : RepI K I0 H0 sa I H R tk) {z : V} {s : SV} (r : Res K I H H' z s) : ∃ I', RepI K I0 H0 sa I' H' R ((some z, s) :: tk) := by
  obtain ⟨I', s1, s2, s3, f, m⟩ := r
  have h2 := h.call none s1 s2 f (fun b o _ e => s3 _ _ e) (fun p e => by cases e)
  cases s with
  | d x => exact ⟨I', h2.push ⟨z, rfl, m⟩ rfl⟩
  | k xs => obtain ⟨p, ws, rfl, a, b⟩ := m; exact ⟨I', h2.push ⟨p, ws, rfl, a, b⟩ rfl⟩
  | l xs => obtain ⟨p, ws, rfl, a, b, c, d⟩ := m; exact ⟨I', h.pushL h2 a b c d⟩
  | u => exact m.elim
  | st => exact m.elim
  | a j => exact m.elim
theorem res_al {z : V} {s : SV} {σ : L2.St} (r : Res K I H H' z s) : s.alk z σ := by
  cases s with
  | a j => exact (let ⟨_, _, _, _, _, m⟩ := r; m.elim)
  | _ => exact trivial
theorem res_rt {z : V} {s : SV} (r : Res K I H H' z s) : s.rt = s := by
  cases s with
  | a j => exact (let ⟨_, _, _, _, _, m⟩ := r; m.elim)
  | _ => rfl
/-- an operation on data: x, y, the answer -/
def RuleR (K : PySem.W.Frag) (r : R2) (f : PyData → PyData → (SV → Prop) → Prop) : Prop := ∀ (I H : Hp) (v u : V) (x y : PyData) (P : SV → Prop) (Q : VK), Same I H → W K I v x → W K I u y → f x y P →
  (∀ z s H', Res K I H H' z s → P s → Q z H') → r v u H Q
abbrev pOp (f : PyData → PyData → (SV → Prop) → Prop) (p q : PDx) : PEx := fun e Q => p e fun x e1 => q e1 fun y e2 => f x y fun s => Q s e2
theorem sim_op {r : R2} {f : PyData → PyData → (SV → Prop) → Prop} (hr : RuleR K r f) {ta tb : TE} {p q : PDx} (h : SimD K ta p) (g : SimD K tb q) : SimE K (tOp r ta tb) (pOp f p q) := fun I0 H0 sa H R tk Q tQ rp hp c => by
  refine h I0 H0 sa H R tk _ _ rp hp fun v x H1 R1 e1 r1 hq => ?_
  rw [← e1]
  refine g I0 H0 sa H1 R1 _ _ _ r1 hq fun u y H2 R2 e2 r2 hf => ?_
  obtain ⟨I, r2⟩ := r2
  obtain ⟨_, e3, w2⟩ := r2.top
  cases e3
  obtain ⟨_, e4, w1⟩ := r2.pop.top
  cases e4
  refine hr I H2 v u x y _ _ r2.ih w1 w2 hf fun z s H' rs ps => ?_
  obtain ⟨I', r3⟩ := r2.pop.pop.res rs
  exact c z s H' R2 (e2.trans e1) (res_al rs) ⟨I', by rw [res_rt rs]; exact r3⟩ ps
theorem res_same {x : PyData} {z : V} (s : Same I H) (w : W K I z x) : Res K I H H z (.d x) := ⟨I, fun _ _ e => e, s, fun _ _ e => e, fun _ _ e _ _ => e, w⟩
theorem free_of (s : Same I H) {p : Addr} (np : H p = none) : I p = none := by
  cases q : I p with
  | none => rfl
  | some z => rw [s _ _ q] at np; cases np
theorem same_both (s : Same I H) {p : Addr} (np : H p = none) (o : HO) : Same (upd I p o) (upd H p o) := fun b z e => by
  by_cases x : b = p
  · subst x; rw [upd_same] at e ⊢; exact e
  · rw [upd_ne x] at e ⊢; exact s _ _ e
theorem res_tup (s : Same I H) {p : Addr} (np : H p = none) {ws : List V} {xs : List PyData} (w : WA K I ws xs) : Res K I H (upd H p (.tup ws)) (.ref p) (.d (.tuple xs)) :=
  ⟨upd I p (.tup ws), sm_upd (free_of s np), same_both s np _, sm_upd np, fun b o e n _ => by rw [upd_ne (fun z => by rw [z, np] at n; cases n)]; exact e, .tup (SqT.of upd_same) (w.mono (sm_upd (free_of s np)))⟩
theorem res_lst (s : Same I H) {p : Addr} (np : H p = none) {ws : List V} {xs : List PyData} (w : WA K I ws xs) : Res K I H (upd H p (.lst ws)) (.ref p) (.l xs) :=
  ⟨I, fun _ _ e => e, s.trans (sm_upd np), sm_upd np, fun _ _ e _ _ => e, p, ws, rfl, np, upd_same, w, free_of s np⟩
end
end PL

/-! P3: statements over pure roots -/
namespace PL
open PySem PySem.Spec PyProof.Rows L2 RN
/-- a value that may be handed on -/
def SV.val : SV → Bool
  | .u => false
  | .a _ => false
  | _ => true
structure PEnds where
  nx : Env → Prop
  rt : SV → Env → Prop
  bk : Env → Prop := fun _ => False
  ct : Env → Prop := fun _ => False
abbrev PSx := PEnds → Env → Prop
structure Rel (K : PySem.W.Frag) (I0 H0 : Hp) (sa : Option Addr) (n : Nat) (tk : List Rt) (E : PEnds) (D : Ends) : Prop where
  nx : ∀ H R, R.length = n → Rp K I0 H0 sa H R tk → E.nx (ev R) → D.nx (sl R) H
  rt : ∀ v s H R, R.length = n → s.val = true → Rp K I0 H0 sa H R ((some v, s) :: tk) → E.rt s (ev R) → D.rt v H
  bk : ∀ H R, R.length = n → Rp K I0 H0 sa H R tk → E.bk (ev R) → D.bk (sl R) H
  ct : ∀ H R, R.length = n → Rp K I0 H0 sa H R tk → E.ct (ev R) → D.ct (sl R) H
def SimS (K : PySem.W.Frag) (t : TS) (p : PSx) : Prop := ∀ (I0 H0 : Hp) (sa : Option Addr) (H : Hp) (R tk : List Rt) (E : PEnds) (D : Ends), Rp K I0 H0 sa H R tk → Rel K I0 H0 sa R.length tk E D → p E (ev R) → t D (sl R) H
section
variable {K : PySem.W.Frag} {I0 H0 : Hp} {sa : Option Addr} {I I' H H' : Hp} {R tk : List Rt}
theorem len_of {R R' : List Rt} (e : sl R' = sl R) : R'.length = R.length := by
  have := congrArg List.length e
  rwa [List.length_map, List.length_map] at this
/-- a list of a slot is taken out of the slot; a pure value stays -/
abbrev mv : SV → Env → (SV → Env → Prop) → Prop
  | .a j, e, Q => match gt e j with
    | .l xs => Q (.l xs) (e.set j .u)
    | _ => False
  | .u, _, _ => False
  | s, e, Q => Q s e
abbrev pM (p : PEx) : PEx := fun e Q => p e fun s e1 => mv s e1 Q
def SimM (K : PySem.W.Frag) (t : TE) (p : PEx) : Prop := ∀ (I0 H0 : Hp) (sa : Option Addr) (H : Hp) (R tk : List Rt) (Q : SV → Env → Prop) (tQ : VK), Rp K I0 H0 sa H R tk → p (ev R) Q →
  (∀ v s H' R', sl R' = sl R → s.val = true → Rp K I0 H0 sa H' R' ((some v, s) :: tk) → Q s (ev R') → tQ v H') → t (sl R) H tQ
theorem sim_mv {t : TE} {p : PEx} (h : SimE K t p) : SimM K t (pM p) := fun I0 H0 sa H R tk Q tQ r hp c => by
  refine h I0 H0 sa H R tk _ tQ r hp fun v s H' R' e al r' q => ?_
  cases s with
  | a j =>
    cases g : gt (ev R') j with
    | l xs =>
      obtain ⟨I, r'⟩ := r'
      obtain ⟨o, eo⟩ := gt_at (R := R') (i := j) (by rw [g]; exact fun z => by cases z)
      rw [g] at eo
      have ev' : o = some v := by
        have e2 : (sl R')[j]? = some (some v) := al
        rw [List.getElem?_map, eo] at e2
        exact Option.some.inj e2
      subst ev'
      refine c v (.l xs) H' (R'.set j (some v, .u)) ((set_fst eo).trans e) rfl ⟨I, r'.pop.take eo⟩ ?_
      simp only [mv, g] at q
      rw [show ev (R'.set j (some v, SV.u)) = (ev R').set j .u from map_set2]
      exact q
    | u => simp only [mv, g] at q
    | d x => simp only [mv, g] at q
    | k x => simp only [mv, g] at q
    | st => simp only [mv, g] at q
    | a x => simp only [mv, g] at q
  | u => exact q.elim
  | d x => exact c v _ H' R' e rfl r' q
  | k x => exact c v _ H' R' e rfl r' q
  | l x => exact c v _ H' R' e rfl r' q
  | st => exact c v _ H' R' e rfl r' q
abbrev pSet (i : Nat) (p : PEx) : PSx := fun E e => p e fun s e1 => E.nx (e1.set i s)
theorem sim_set {t : TE} {p : PEx} (i : Nat) (h : SimM K t p) : SimS K (tAsg t (gName i)) (pSet i p) := fun I0 H0 sa H R tk E D r rel hp => by
  refine h I0 H0 sa H R tk _ _ r hp fun v s H' R' e al r' q => ?_
  obtain ⟨I, r'⟩ := r'
  have := rel.nx H' (R'.set i (some v, s)) (by rw [List.length_set]; exact len_of e) ⟨I, r'.move i⟩ (by
    rw [show ev (R'.set i (some v, s)) = (ev R').set i s from map_set2]; exact q)
  rw [show sl (R'.set i (some v, s)) = (sl R').set i (some v) from map_set, e] at this
  exact this
abbrev pRet (p : PEx) : PSx := fun E e => p e fun s e1 => E.rt s e1
theorem sim_ret {t : TE} {p : PEx} (h : SimM K t p) : SimS K (tRet t) (pRet p) := fun I0 H0 sa H R tk E D r rel hp =>
  h I0 H0 sa H R tk _ _ r hp fun v s H' R' e al r' q => rel.rt v s H' R' (len_of e) al r' q
abbrev pSeq (p q : PSx) : PSx := fun E e => p ⟨q E, E.rt, E.bk, E.ct⟩ e
theorem sim_seq {t u : TS} {p q : PSx} (h : SimS K t p) (g : SimS K u q) : SimS K (tSeq t u) (pSeq p q) := fun I0 H0 sa H R tk E D r rel hp =>
  h I0 H0 sa H R tk ⟨q E, E.rt, E.bk, E.ct⟩ { D with nx := u D } r ⟨fun H' R' e r' hq => g I0 H0 sa H' R' tk E D r' (by rw [e]; exact rel) hq, rel.rt, rel.bk, rel.ct⟩ hp
/-- one state for what follows -/
abbrev pCut (p q : PSx) : PSx := fun E e => ∃ M : Env → Prop, p ⟨M, E.rt, E.bk, E.ct⟩ e ∧ ∀ e', M e' → q E e'
theorem sim_cut {t u : TS} {p q : PSx} (h : SimS K t p) (g : SimS K u q) : SimS K (C8.tCut t u) (pCut p q) := fun I0 H0 sa H R tk E D r rel ⟨M, hp, hq⟩ =>
  ⟨fun σ' H' => ∃ R', σ' = sl R' ∧ R'.length = R.length ∧ Rp K I0 H0 sa H' R' tk ∧ M (ev R'), h I0 H0 sa H R tk ⟨M, E.rt, E.bk, E.ct⟩ _ r ⟨fun H' R' e r' m => ⟨R', rfl, e, r', m⟩, rel.rt, rel.bk, rel.ct⟩ hp,
    fun σ' H' ⟨R', e1, e2, r', m⟩ => by subst e1; exact g I0 H0 sa H' R' tk E D r' (by rw [e2]; exact rel) (hq _ m)⟩
abbrev pNext : PSx := fun E e => E.nx e
theorem sim_next : SimS K tNext pNext := fun I0 H0 sa H R tk E D r rel hp => rel.nx H R rfl r hp
abbrev pBrk : PSx := fun E e => E.bk e
theorem sim_brk : SimS K tBreak pBrk := fun I0 H0 sa H R tk E D r rel hp => rel.bk H R rfl r hp
abbrev pCnt : PSx := fun E e => E.ct e
theorem sim_cnt : SimS K tCont pCnt := fun I0 H0 sa H R tk E D r rel hp => rel.ct H R rfl r hp
abbrev pDrop (p : PEx) : PSx := fun E e => p e fun _ e1 => E.nx e1
theorem sim_drop {t : TE} {p : PEx} (h : SimE K t p) : SimS K (tDrop t) (pDrop p) := fun I0 H0 sa H R tk E D r rel hp =>
  h I0 H0 sa H R tk _ _ r hp fun v s H' R' e al r' q => by
    obtain ⟨I, r'⟩ := r'
    have := rel.nx H' R' (len_of e) ⟨I, r'.pop⟩ q
    rw [e] at this
    exact this
abbrev pIf (c : PTx) (p q : PSx) : PSx := fun E e => c e fun b e1 => if b = true then p E e1 else q E e1
theorem sim_if {c : TT} {t u : TS} {pc : PTx} {p q : PSx} (hc : SimT K c pc) (h : SimS K t p) (g : SimS K u q) : SimS K (tIfS c t u) (pIf pc p q) := fun I0 H0 sa H R tk E D r rel hp => by
  refine hc I0 H0 sa H R tk _ _ r hp fun b H' R' e r' hq => ?_
  rw [← e]
  have rel' : Rel K I0 H0 sa R'.length tk E D := by rw [len_of e]; exact rel
  cases b with
  | true => exact h I0 H0 sa H' R' tk E D r' rel' hq
  | false => exact g I0 H0 sa H' R' tk E D r' rel' hq
/-! ### tests -/
abbrev tru : PyData → (Bool → Prop) → Prop
  | .bool b, Q => Q b
  | _, _ => False
abbrev pB (p : PDx) : PTx := fun e Q => p e fun x e1 => tru x fun b => Q b e1
theorem sim_test {t : TE} {p : PDx} (h : SimD K t p) : SimT K (tTest t) (pB p) := fun I0 H0 sa H R tk Q tQ r hp c =>
  h I0 H0 sa H R tk _ _ r hp fun v x H' R' e r' q => by
    obtain ⟨I, r'⟩ := r'
    obtain ⟨v', e1, w⟩ := r'.top
    cases e1
    cases x <;> first | exact q.elim | skip
    cases w
    exact ⟨_, rfl, c _ H' R' e ⟨I, r'.pop⟩ q⟩
theorem sim_tB {t : TE} {p : PDx} (h : SimD K t p) : SimT K (tB t) (pB p) := fun I0 H0 sa H R tk Q tQ r hp c =>
  h I0 H0 sa H R tk _ _ r hp fun v x H' R' e r' q => by
    obtain ⟨I, r'⟩ := r'
    obtain ⟨v', e1, w⟩ := r'.top
    cases e1
    cases x <;> first | exact q.elim | skip
    cases w
    exact ⟨_, rfl, c _ H' R' e ⟨I, r'.pop⟩ q⟩
abbrev pAnd (p q : PTx) : PTx := fun e Q => p e fun b e1 => if b = true then q e1 Q else Q false e1
abbrev pOr (p q : PTx) : PTx := fun e Q => p e fun b e1 => if b = true then Q true e1 else q e1 Q
abbrev pNot (p : PTx) : PTx := fun e Q => p e fun b e1 => Q (!b) e1
theorem sim_and {t u : TT} {p q : PTx} (h : SimT K t p) (g : SimT K u q) : SimT K (tAnd t u) (pAnd p q) := fun I0 H0 sa H R tk Q tQ r hp c =>
  h I0 H0 sa H R tk _ _ r hp fun b H' R' e r' hq => by
    cases b with
    | true => rw [← e]; exact g I0 H0 sa H' R' tk _ _ r' hq fun b2 H2 R2 e2 r2 q2 => c b2 H2 R2 (e2.trans e) r2 q2
    | false => exact c false H' R' e r' hq
theorem sim_or {t u : TT} {p q : PTx} (h : SimT K t p) (g : SimT K u q) : SimT K (tOr t u) (pOr p q) := fun I0 H0 sa H R tk Q tQ r hp c =>
  h I0 H0 sa H R tk _ _ r hp fun b H' R' e r' hq => by
    cases b with
    | false => rw [← e]; exact g I0 H0 sa H' R' tk _ _ r' hq fun b2 H2 R2 e2 r2 q2 => c b2 H2 R2 (e2.trans e) r2 q2
    | true => exact c true H' R' e r' hq
theorem sim_not {t : TT} {p : PTx} (h : SimT K t p) : SimT K (tNot t) (pNot p) := fun I0 H0 sa H R tk Q tQ r hp c =>
  h I0 H0 sa H R tk _ _ r hp fun b H' R' e r' hq => c _ H' R' e r' hq
abbrev pYes : PTx := fun e Q => Q true e
theorem sim_yes : SimT K tYes pYes := fun I0 H0 sa H R tk Q tQ r hp c => c true H R rfl r hp
/-! ### values of tests, a if c else b -/
abbrev pAndV (p q : PDx) : PDx := fun e Q => p e fun x e1 => tru x fun b => if b = true then q e1 Q else Q (.bool false) e1
abbrev pOrV (p q : PDx) : PDx := fun e Q => p e fun x e1 => tru x fun b => if b = true then Q (.bool true) e1 else q e1 Q
abbrev pNotV (p : PDx) : PDx := fun e Q => p e fun x e1 => tru x fun b => Q (.bool !b) e1
theorem sim_andV {t u : TE} {p q : PDx} (h : SimD K t p) (g : SimD K u q) : SimD K (tAndV t u) (pAndV p q) := fun I0 H0 sa H R tk Q tQ r hp c =>
  h I0 H0 sa H R tk _ _ r hp fun v x H' R' e r' hq => by
    obtain ⟨I, r'⟩ := r'
    obtain ⟨v', e1, w⟩ := r'.top
    cases e1
    cases x <;> first | exact hq.elim | skip
    cases w
    rename_i b
    refine ⟨_, rfl, ?_⟩
    cases b with
    | true => rw [← e]; exact g I0 H0 sa H' R' tk _ _ ⟨I, r'.pop⟩ hq fun v2 x2 H2 R2 e2 r2 q2 => c v2 x2 H2 R2 (e2.trans e) r2 q2
    | false => exact c _ _ H' R' e ⟨I, r'.pop.push ⟨_, rfl, .bl _⟩ rfl⟩ hq
theorem sim_orV {t u : TE} {p q : PDx} (h : SimD K t p) (g : SimD K u q) : SimD K (tOrV t u) (pOrV p q) := fun I0 H0 sa H R tk Q tQ r hp c =>
  h I0 H0 sa H R tk _ _ r hp fun v x H' R' e r' hq => by
    obtain ⟨I, r'⟩ := r'
    obtain ⟨v', e1, w⟩ := r'.top
    cases e1
    cases x <;> first | exact hq.elim | skip
    cases w
    rename_i b
    refine ⟨_, rfl, ?_⟩
    cases b with
    | false => rw [← e]; exact g I0 H0 sa H' R' tk _ _ ⟨I, r'.pop⟩ hq fun v2 x2 H2 R2 e2 r2 q2 => c v2 x2 H2 R2 (e2.trans e) r2 q2
    | true => exact c _ _ H' R' e ⟨I, r'.pop.push ⟨_, rfl, .bl _⟩ rfl⟩ hq
theorem sim_notV {t : TE} {p : PDx} (h : SimD K t p) : SimD K (tNotV t) (pNotV p) := fun I0 H0 sa H R tk Q tQ r hp c =>
  h I0 H0 sa H R tk _ _ r hp fun v x H' R' e r' hq => by
    obtain ⟨I, r'⟩ := r'
    obtain ⟨v', e1, w⟩ := r'.top
    cases e1
    cases x <;> first | exact hq.elim | skip
    cases w
    exact ⟨_, rfl, c _ _ H' R' e ⟨I, r'.pop.push ⟨_, rfl, .bl _⟩ rfl⟩ hq⟩
abbrev pIfE (c : PTx) (p q : PEx) : PEx := fun e Q => c e fun b e1 => if b = true then p e1 Q else q e1 Q
theorem sim_ifE {c : TT} {t u : TE} {pc : PTx} {p q : PEx} (hc : SimT K c pc) (h : SimE K t p) (g : SimE K u q) : SimE K (tIf c t u) (pIfE pc p q) := fun I0 H0 sa H R tk Q tQ r hp k => by
  refine hc I0 H0 sa H R tk _ _ r hp fun b H' R' e r' hq => ?_
  rw [← e]
  cases b with
  | true => exact h I0 H0 sa H' R' tk _ _ r' hq fun v s H2 R2 e2 a r2 q2 => k v s H2 R2 (e2.trans e) a r2 q2
  | false => exact g I0 H0 sa H' R' tk _ _ r' hq fun v s H2 R2 e2 a r2 q2 => k v s H2 R2 (e2.trans e) a r2 q2
/-! ### is None -/
abbrev isN : PyData → Bool
  | .none => true
  | _ => false
abbrev pIsN (p : PDx) : PDx := fun e Q => p e fun x e1 => Q (.bool (isN x)) e1
theorem sim_isN {t : TE} {p : PDx} (h : SimD K t p) : SimD K (tIsN t) (pIsN p) := fun I0 H0 sa H R tk Q tQ r hp c =>
  h I0 H0 sa H R tk _ _ r hp fun v x H' R' e r' hq => by
    obtain ⟨I, r'⟩ := r'
    obtain ⟨v', e1, w⟩ := r'.top
    cases e1
    refine c _ (.bool (isN x)) H' R' e ⟨I, r'.pop.push ⟨_, rfl, ?_⟩ rfl⟩ hq
    cases w <;> exact .bl _
end
end PL

/-! P4: operations on data -/
namespace PL
open PySem PySem.Spec PyProof.Rows L2 RN
section
variable {K : PySem.W.Frag} {I0 H0 : Hp} {sa : Option Addr} {I I' H H' : Hp} {R tk : List Rt}
/-! ### rules with K named -/
theorem op_catAK {X : Cx} (hK : X.K = K) : OpR X (binaryOp .Add) (rCatA K) := by subst hK; exact op_catA
theorem op_inDK {X : Cx} (hu : X.A.units + 65 < cLine) (hK : X.K = K) : OpR X (compareOp .In) (rInD K) := by subst hK; exact op_inD hu
theorem op_notInDK {X : Cx} (hu : X.A.units + 65 < cLine) (hK : X.K = K) : OpR X (compareOp .NotIn) (rNotInD K) := by subst hK; exact op_notInD hu
theorem op_eqDK {X : Cx} (hu : X.A.units + 64 < cLine) (hK : X.K = K) : OpR X (compareOp .Eq) (rEqD K) := by subst hK; exact op_eqD hu
theorem op_neDK {X : Cx} (hu : X.A.units + 64 < cLine) (hK : X.K = K) : OpR X (compareOp .NotEq) (rNeD K) := by subst hK; exact op_neD hu
/-! ### + -/
def oR (r r' : R2) : R2 := fun x y H Q => r x y H Q ∨ r' x y H Q
abbrev addF : PyData → PyData → (SV → Prop) → Prop
  | .int i, .int j, P => P (.d (.int (i + j)))
  | .str a, .str b, P => a.length + b.length ≤ sizeLine ∧ P (.d (.str (a ++ b)))
  | .list xs, .list ys, P => xs.length + ys.length ≤ 1000 ∧ P (.l (xs ++ ys))
  | .tuple xs, .tuple ys, P => xs.length + ys.length ≤ 1000 ∧ P (.d (.tuple (xs ++ ys)))
  | _, _, _ => False
abbrev rAddP (K : PySem.W.Frag) : R2 := fun x y H Q => rI0 (fun i j => .int (i + j)) x y H Q ∨ (fun x y H Q => (fun x y H Q => ∃ i j, x = .str i ∧ y = .str j ∧ i.length + j.length ≤ sizeLine ∧ Q (.str (i ++ j)) H) x y H Q ∨ (fun x y H Q => rCat x y H Q ∨ rCatA K x y H Q) x y H Q) x y H Q
theorem rule_add : RuleR K (rAddP K) addF := fun I H v u x y P Q s wx wy f c => by
  cases wx with
  | int i =>
    cases wy with
    | int j => exact .inl ⟨i, j, rfl, rfl, c _ _ _ (res_same s (.int _)) f⟩
    | _ => exact f.elim
  | str i =>
    cases wy with
    | str j => exact .inr (.inl ⟨i, j, rfl, rfl, f.1, c _ _ _ (res_same s (.str _)) f.2⟩)
    | _ => exact f.elim
  | lst h1 a1 =>
    cases wy with
    | lst h2 a2 => exact .inr (.inr (.inl ⟨_, _, _, _, rfl, rfl, s _ _ h1, s _ _ h2, Nat.le_of_lt (small1000 (by rw [a1.len, a2.len]; exact f.1)), fun p np => c _ _ _ (res_lst s np (a2.app _ a1)) f.2⟩))
    | _ => exact f.elim
  | tup h1 a1 =>
    cases wy with
    | tup h2 a2 =>
      refine .inr (.inr (.inr ⟨_, _, _, _, rfl, rfl, sqT_same s h1, sqT_same s h2, Nat.le_of_lt (small1000 (by rw [a1.len, a2.len]; exact f.1)), fun e => ?_, fun _ e => ?_, fun _ _ p np => c _ _ _ (res_tup s np (a2.app _ a1)) f.2⟩))
      · subst e; cases a1; exact c _ _ _ (res_same s (.tup h2 a2)) f.2
      · subst e; cases a2
        refine c _ _ _ (res_same s (.tup h1 a1)) ?_
        have := f.2
        rw [List.append_nil] at this; exact this
    | _ => exact f.elim
  | _ => exact f.elim
/-! ### ints -/
abbrev intF (C : Int → Int → Prop) (g : Int → Int → PyData) : PyData → PyData → (SV → Prop) → Prop
  | .int i, .int j, P => C i j ∧ P (.d (g i j))
  | _, _, _ => False
theorem rule_int {C C' : Int → Int → Prop} {g : Int → Int → V} {g' : Int → Int → PyData} (hC : ∀ i j, C' i j → C i j) (hg : ∀ i j I, W K I (g i j) (g' i j)) : RuleR K (rI C g) (intF C' g') := fun I H v u x y P Q s wx wy f c => by
  cases wx with
  | int i =>
    cases wy with
    | int j => exact ⟨i, j, rfl, rfl, hC _ _ f.1, c _ _ _ (res_same s (hg i j I)) f.2⟩
    | _ => exact f.elim
  | _ => exact f.elim
abbrev int0 (g : Int → Int → PyData) : PyData → PyData → (SV → Prop) → Prop
  | .int i, .int j, P => P (.d (g i j))
  | _, _, _ => False
theorem rule_int0 {g : Int → Int → V} {g' : Int → Int → PyData} (hg : ∀ i j I, W K I (g i j) (g' i j)) : RuleR K (rI0 g) (int0 g') := fun I H v u x y P Q s wx wy f c => by
  cases wx with
  | int i =>
    cases wy with
    | int j => exact ⟨i, j, rfl, rfl, c _ _ _ (res_same s (hg i j I)) f⟩
    | _ => exact f.elim
  | _ => exact f.elim
abbrev subF := int0 fun i j => .int (i - j)
theorem rule_sub : RuleR K (rI0 fun i j => .int (i - j)) subF := rule_int0 fun _ _ _ => .int _
abbrev ltF := int0 fun i j => .bool (decide (i < j))
abbrev leF := int0 fun i j => .bool (decide (i ≤ j))
abbrev gtF := int0 fun i j => .bool (decide (j < i))
abbrev geF := int0 fun i j => .bool (decide (j ≤ i))
theorem rule_lt : RuleR K (rI0 fun i j => .bl (decide (i < j))) ltF := rule_int0 fun _ _ _ => .bl _
theorem rule_le : RuleR K (rI0 fun i j => .bl (decide (i ≤ j))) leF := rule_int0 fun _ _ _ => .bl _
theorem rule_gt : RuleR K (rI0 fun i j => .bl (decide (j < i))) gtF := rule_int0 fun _ _ _ => .bl _
theorem rule_ge : RuleR K (rI0 fun i j => .bl (decide (j ≤ i))) geF := rule_int0 fun _ _ _ => .bl _
abbrev modF := intF (fun _ j => 0 < j) fun i j => .int (i % j)
theorem rule_mod : RuleR K (rI (fun _ j => 0 < j) fun i j => .int (i % j)) modF := rule_int (fun _ _ h => h) fun _ _ _ => .int _
abbrev mulF := intF (fun i _ => -(2 ^ 64) < i ∧ i < 2 ^ 64) fun i j => .int (i * j)
theorem rule_mul : RuleR K (rI CMul fun i j => .int (i * j)) mulF := rule_int (fun _ _ h => .inl h) fun _ _ _ => .int _
abbrev divF := intF (fun _ j => 0 < j ∧ j < 1073741824) fun i j => .int (i / j)
theorem rule_div : RuleR K (rI CDiv fun i j => .int (i / j)) divF := rule_int (fun _ _ h => h) fun _ _ _ => .int _
/-! ### == and in -/
abbrev Sh (x : PyData) : Prop := SeqAt.shaped x = true
abbrev eqB (x y : PyData) (P : Bool → Prop) : Prop := match x, y with
  | .int i, .int j => P (decide (i = j))
  | .str i, .str j => P (decide (i = j))
  | .bool i, .bool j => P (i == j)
  | x, y => Sh x ∧ Sh y ∧ P (PyData.eqv x y)
abbrev rEqP (K : PySem.W.Frag) : R2 := fun x y H Q => rEq x y H Q ∨ rEqD K x y H Q
abbrev rNeP (K : PySem.W.Frag) : R2 := fun x y H Q => rNe x y H Q ∨ rNeD K x y H Q
abbrev eqF : PyData → PyData → (SV → Prop) → Prop := fun x y P => eqB x y fun b => P (.d (.bool b))
abbrev neF : PyData → PyData → (SV → Prop) → Prop := fun x y P => eqB x y fun b => P (.d (.bool !b))
theorem vint_dec (i j : Int) : decide (V.int i = V.int j) = decide (i = j) := by
  by_cases h : i = j
  · rw [decide_eq_true h, decide_eq_true (by rw [h])]
  · rw [decide_eq_false h, decide_eq_false (fun z => h (V.int.inj z))]
theorem vstr_dec (i j : Str) : decide (V.str i = V.str j) = decide (i = j) := by
  by_cases h : i = j
  · rw [decide_eq_true h, decide_eq_true (by rw [h])]
  · rw [decide_eq_false h, decide_eq_false (fun z => h (V.str.inj z))]
theorem vbl_dec (i j : Bool) : decide (V.bl i = V.bl j) = (i == j) := by cases i <;> cases j <;> decide
theorem eqB_d {x y : PyData} {P : Bool → Prop} {v u : V} (s : Same I H) (wx : W K I v x) (wy : W K I u y) (h : eqB x y P) : (scal v u = true ∧ P (decide (v = u))) ∨ (Dp K H v x ∧ Dp K H u y ∧ Sh x ∧ Sh y ∧ P (PyData.eqv x y)) := by
  have g : Sh x ∧ Sh y ∧ P (PyData.eqv x y) → (Dp K H v x ∧ Dp K H u y ∧ Sh x ∧ Sh y ∧ P (PyData.eqv x y)) := fun ⟨a, b, c⟩ => ⟨(wx.mono s).dp, (wy.mono s).dp, a, b, c⟩
  cases wx with
  | int i =>
    cases wy with
    | int j => exact .inl ⟨rfl, by rw [vint_dec]; exact h⟩
    | _ => exact .inr (g h)
  | str i =>
    cases wy with
    | str j => exact .inl ⟨rfl, by rw [vstr_dec]; exact h⟩
    | _ => exact .inr (g h)
  | bl i =>
    cases wy with
    | bl j => exact .inl ⟨rfl, by rw [vbl_dec]; exact h⟩
    | _ => exact .inr (g h)
  | non => exact .inr (g (by cases wy <;> exact h))
  | lst _ _ => exact .inr (g (by cases wy <;> exact h))
  | tup _ _ => exact .inr (g (by cases wy <;> exact h))
theorem rule_eq : RuleR K (rEqP K) eqF := fun I H v u x y P Q s wx wy f c => by
  rcases eqB_d s wx wy f with ⟨a, b⟩ | ⟨a, b, d, e, q⟩
  · exact .inl ⟨a, c _ _ _ (res_same s (.bl _)) b⟩
  · exact .inr ⟨x, y, a, b, d, e, c _ _ _ (res_same s (.bl _)) q⟩
theorem rule_ne : RuleR K (rNeP K) neF := fun I H v u x y P Q s wx wy f c => by
  rcases eqB_d s wx wy f with ⟨a, b⟩ | ⟨a, b, d, e, q⟩
  · exact .inl ⟨a, c _ _ _ (res_same s (.bl _)) b⟩
  · exact .inr ⟨x, y, a, b, d, e, c _ _ _ (res_same s (.bl _)) q⟩
/-! ### sequences that are read: of data, of a slot's own list -/
def RdL (K : PySem.W.Frag) (I H : Hp) (v : V) (xs : List PyData) : Prop := ∃ p ws, v = .ref p ∧ ((SqL K H p ws ∧ H p = some (.lst ws)) ∨ SqT K H p ws) ∧ WA K I ws xs
abbrev sq : SV → Env → (List PyData → Prop) → Prop
  | .d (.list xs), _, P => P xs
  | .d (.tuple xs), _, P => P xs
  | .k xs, _, P => P xs
  | .l xs, _, P => P xs
  | .a j, e, P => match gt e j with
    | .l xs => P xs
    | .d (.list xs) => P xs
    | _ => False
  | _, _, _ => False
theorem gt_ok (h : RepI K I0 H0 sa I H R tk) {j : Nat} {v : V} {s : SV} (e : gt (ev R) j = s) (n : s ≠ .u) (al : (sl R)[j]? = some (some v)) : Ok K I H0 sa H (some v) s := by
  obtain ⟨o, eo⟩ := gt_at (R := R) (i := j) (by rw [e]; exact n)
  have k := h.ok _ (List.mem_append_left tk (List.mem_of_getElem? eo))
  rw [List.getElem?_map, eo] at al
  have eo' : o = some v := Option.some.inj al
  rw [e] at k
  rw [← eo']; exact k
theorem Ok.rd {v : V} {s : SV} {xs : List PyData} (ih : Same I H) (k : Ok K I H0 sa H (some v) s) (e : s = .d (.list xs) ∨ s = .d (.tuple xs) ∨ s = .k xs ∨ s = .l xs) : RdL K I H v xs := by
  rcases e with rfl | rfl | rfl | rfl
  · obtain ⟨v', e1, w⟩ := k
    cases e1
    cases w with
    | lst a b => exact ⟨_, _, rfl, .inl ⟨SqL.of (ih _ _ a), ih _ _ a⟩, b⟩
  · obtain ⟨v', e1, w⟩ := k
    cases e1
    cases w with
    | tup a b => exact ⟨_, _, rfl, .inr (sqT_same ih a), b⟩
  · obtain ⟨p, ws, e1, f, w⟩ := k
    cases e1
    exact ⟨_, _, rfl, .inr (sqT_same ih f.sq), w⟩
  · obtain ⟨p, ws, e1, f, w, _⟩ := k
    cases e1
    exact ⟨_, _, rfl, .inl ⟨SqL.of f, f⟩, w⟩
theorem RepI.rd {v : V} {s : SV} {P : List PyData → Prop} (h : RepI K I0 H0 sa I H R tk) (k : Ok K I H0 sa H (some v) s.rt) (al : s.alk v (sl R)) (q : sq s (ev R) P) : ∃ xs, RdL K I H v xs ∧ P xs := by
  cases s with
  | u => exact q.elim
  | st => exact q.elim
  | d x =>
    cases x with
    | list xs => exact ⟨xs, k.rd h.ih (.inl rfl), q⟩
    | tuple xs => exact ⟨xs, k.rd h.ih (.inr (.inl rfl)), q⟩
    | _ => exact q.elim
  | k xs => exact ⟨xs, k.rd h.ih (.inr (.inr (.inl rfl))), q⟩
  | l xs => exact ⟨xs, k.rd h.ih (.inr (.inr (.inr rfl))), q⟩
  | a j =>
    cases g : gt (ev R) j with
    | l xs =>
      simp only [sq, g] at q
      exact ⟨xs, (gt_ok h g (fun z => by cases z) al).rd h.ih (.inr (.inr (.inr rfl))), q⟩
    | d x =>
      simp only [sq, g] at q
      cases x with
      | list xs => exact ⟨xs, (gt_ok h g (fun z => by cases z) al).rd h.ih (.inl rfl), q⟩
      | _ => exact q.elim
    | u => simp only [sq, g] at q
    | k x => simp only [sq, g] at q
    | st => simp only [sq, g] at q
    | a x => simp only [sq, g] at q
/-! ### xs[i] -/
abbrev ixF (xs : List PyData) (y : PyData) (P : PyData → Prop) : Prop := match y with
  | .int i => ∃ x, atI xs i = some x ∧ P x
  | _ => False
abbrev pIx (p : PEx) (q : PDx) : PDx := fun e Q => p e fun s e1 => q e1 fun y e2 => sq s e2 fun xs => ixF xs y fun x => Q x e2
theorem atI_len {α β : Type} {xs : List α} {ys : List β} (h : xs.length = ys.length) {i : Int} {x : α} (e : atI xs i = some x) : ∃ j : Nat, atI ys i = ys[j]? ∧ xs[j]? = some x := by
  unfold atI at e ⊢
  rw [h] at e
  cases q : ixN ys.length i with
  | none => rw [q] at e; cases e
  | some j => rw [q] at e; exact ⟨j, rfl, e⟩
theorem sim_ix {ta tb : TE} {p : PEx} {q : PDx} (h : SimE K ta p) (g : SimD K tb q) : SimD K (tOp (rIx K) ta tb) (pIx p q) := fun I0 H0 sa H R tk Q tQ rp hp c => by
  refine h I0 H0 sa H R tk _ _ rp hp fun v s H1 R1 e1 al r1 hq => ?_
  rw [← e1]
  refine g I0 H0 sa H1 R1 _ _ _ r1 hq fun u y H2 R2 e2 r2 hf => ?_
  obtain ⟨I, r2⟩ := r2
  obtain ⟨_, e3, w2⟩ := r2.top
  cases e3
  obtain ⟨xs, ⟨p, ws, rfl, hs, w⟩, hx⟩ := r2.pop.rd (v := v) (s := s) r2.pop.top (by cases s <;> first | trivial | (show (sl R2)[_]? = _; rw [e2]; exact al)) hf
  cases w2 <;> first | exact hx.elim | skip
  rename_i i
  obtain ⟨x, hx, hq⟩ := hx
  obtain ⟨j, ej, hj⟩ := atI_len w.len.symm hx
  obtain ⟨z, hz, wz⟩ := w.get hj
  have fin : tQ z H2 := c z x H2 R2 (e2.trans e1) ⟨I, r2.pop.pop.push ⟨z, rfl, wz⟩ rfl⟩ hq
  rcases hs with hs | hs
  · exact .inl ⟨p, ws, i, z, rfl, rfl, hs.1, by rw [ej, hz], fin⟩
  · exact .inr (.inl ⟨p, ws, i, z, rfl, rfl, hs, by rw [ej, hz], fin⟩)
/-! ### builtins of one sequence -/
abbrev pQ (p : PEx) : PAx := fun e Q => p e fun s e1 => sq s e1 fun xs => Q xs e1
/-- what a reader of one sequence gives -/
def SimR (K : PySem.W.Frag) (r : List V → Hp → VK → Prop) (f : List PyData → (SV → Prop) → Prop) : Prop := ∀ (I H : Hp) (v : V) (xs : List PyData) (P : SV → Prop) (Q : VK), Same I H → RdL K I H v xs → f xs P → (∀ z s H', Res K I H H' z s → P s → Q z H') → r [v] H Q
abbrev pR (f : List PyData → (SV → Prop) → Prop) (p : PEx) : PEx := fun e Q => p e fun s e1 => sq s e1 fun xs => f xs fun z => Q z e1
theorem sim_rd {r : List V → Hp → VK → Prop} {f : List PyData → (SV → Prop) → Prop} (hr : SimR K r f) {t : TE} {p : PEx} (h : SimE K t p) : SimE K (tCB r (tCons t tNil)) (pR f p) := fun I0 H0 sa H R tk Q tQ rp hp c => by
  refine h I0 H0 sa H R tk _ _ rp hp fun v s H1 R1 e1 al r1 hq => ?_
  obtain ⟨I, r1⟩ := r1
  obtain ⟨xs, hx, hf⟩ := r1.rd (v := v) (s := s) r1.top al hq
  refine hr I H1 v xs _ _ r1.ih hx hf fun z s2 H' rs ps => ?_
  obtain ⟨I', r3⟩ := r1.pop.res rs
  exact c z s2 H' R1 e1 (res_al rs) ⟨I', by rw [res_rt rs]; exact r3⟩ ps
abbrev lenF (xs : List PyData) (P : SV → Prop) : Prop := P (.d (.int (xs.length : Nat)))
theorem len_of_rd {v : V} {xs : List PyData} (h : RdL K I H v xs) : ∃ p ws, v = .ref p ∧ (SqL K H p ws ∨ SqT K H p ws) ∧ ws.length = xs.length := let ⟨p, ws, e, s, w⟩ := h; ⟨p, ws, e, s.imp And.left id, w.len⟩
theorem rd_len : SimR K (fun xs H Q => ∃ p ys, xs = [.ref p] ∧ (SqL K H p ys ∨ SqT K H p ys) ∧ Q (.int ys.length) H) lenF := fun I H v xs P Q s hx f c => by
  obtain ⟨p, ws, rfl, hs, e⟩ := len_of_rd hx
  refine ⟨p, ws, rfl, hs, ?_⟩
  rw [e]
  exact c _ _ _ (res_same s (.int _)) f
abbrev listF (xs : List PyData) (P : SV → Prop) : Prop := P (.l xs)
theorem rd_list : SimR K (fun xs H Q => ∃ p ys, xs = [.ref p] ∧ (SqL K H p ys ∨ SqT K H p ys) ∧ ∀ l, H l = none → Q (.ref l) (upd H l (.lst ys))) listF := fun I H v xs P Q s ⟨p, ws, e, hs, w⟩ f c => by
  subst e
  exact ⟨p, ws, rfl, hs.imp And.left id, fun l nl => c _ _ _ (res_lst s nl w) f⟩
theorem dep_all : ∀ {ds : List PyData} {n : Nat}, PyData.depthAll ds ≤ n → ∀ d ∈ ds, d.depth ≤ n
  | [], _, _, d, h => by cases h
  | x :: ds, n, hn, d, h => by
    have : max x.depth (PyData.depthAll ds) ≤ n := hn
    rcases List.mem_cons.mp h with rfl | h
    · omega
    · exact dep_all (by omega) d h
def sortD (xs : List PyData) : List PyData := xs.mergeSort (PySem.W.dataLe false id)
abbrev sortF (xs : List PyData) (P : SV → Prop) : Prop := PySem.W.AllAlike xs ∧ PySem.W.Sortable xs ∧ R0.DepLe 60 xs ∧ P (.l (sortD xs))
theorem al_wa : ∀ {ws : List V} {xs : List PyData}, R1.Al (W K I) ws xs → WA K I ws xs
  | [], [], _ => .nil
  | [], _ :: _, h => by have := h.1; simp at this
  | _ :: _, [], h => by have := h.1; simp at this
  | w :: ws, x :: xs, h => .cons (h.2 0 w x rfl rfl) (al_wa ⟨Nat.succ.inj h.1, fun i y m a b => h.2 (i + 1) y m (by simpa using a) (by simpa using b)⟩)
theorem WA.al {ws : List V} {xs : List PyData} (h : WA K I ws xs) : R1.Al (W K I) ws xs := ⟨h.len, fun i x r a b => by
  obtain ⟨d, e, w⟩ := h.at a
  rw [b] at e
  cases e; exact w⟩
theorem wa_sort {ws : List V} {xs : List PyData} (h : WA K I ws xs) : WA K I (R0.sortV ws xs) (sortD xs) := by
  have := al_wa (R1.sort_al id h.al)
  rw [List.map_id] at this
  exact this
/-! ### readers of lists -/
abbrev sqL : SV → Env → (List PyData → Prop) → Prop
  | .d (.list xs), _, P => P xs
  | .l xs, _, P => P xs
  | .a j, e, P => match gt e j with
    | .l xs => P xs
    | .d (.list xs) => P xs
    | _ => False
  | _, _, _ => False
def RdLL (K : PySem.W.Frag) (I H : Hp) (v : V) (xs : List PyData) : Prop := ∃ p ws, v = .ref p ∧ SqL K H p ws ∧ H p = some (.lst ws) ∧ WA K I ws xs
theorem Ok.rdL {v : V} {s : SV} {xs : List PyData} (ih : Same I H) (k : Ok K I H0 sa H (some v) s) (e : s = .d (.list xs) ∨ s = .l xs) : RdLL K I H v xs := by
  rcases e with rfl | rfl
  · obtain ⟨v', e1, w⟩ := k
    cases e1
    cases w with
    | lst a b => exact ⟨_, _, rfl, SqL.of (ih _ _ a), ih _ _ a, b⟩
  · obtain ⟨p, ws, e1, f, w, _⟩ := k
    cases e1
    exact ⟨_, _, rfl, SqL.of f, f, w⟩
theorem RepI.rdL {v : V} {s : SV} {P : List PyData → Prop} (h : RepI K I0 H0 sa I H R tk) (k : Ok K I H0 sa H (some v) s.rt) (al : s.alk v (sl R)) (q : sqL s (ev R) P) : ∃ xs, RdLL K I H v xs ∧ P xs := by
  cases s with
  | u => exact q.elim
  | st => exact q.elim
  | k xs => exact q.elim
  | d x =>
    cases x with
    | list xs => exact ⟨xs, k.rdL h.ih (.inl rfl), q⟩
    | _ => exact q.elim
  | l xs => exact ⟨xs, k.rdL h.ih (.inr rfl), q⟩
  | a j =>
    cases g : gt (ev R) j with
    | l xs =>
      simp only [sqL, g] at q
      exact ⟨xs, (gt_ok h g (fun z => by cases z) al).rdL h.ih (.inr rfl), q⟩
    | d x =>
      simp only [sqL, g] at q
      cases x with
      | list xs => exact ⟨xs, (gt_ok h g (fun z => by cases z) al).rdL h.ih (.inl rfl), q⟩
      | _ => exact q.elim
    | u => simp only [sqL, g] at q
    | k x => simp only [sqL, g] at q
    | st => simp only [sqL, g] at q
    | a x => simp only [sqL, g] at q
def SimRL (K : PySem.W.Frag) (r : List V → Hp → VK → Prop) (f : List PyData → (SV → Prop) → Prop) : Prop := ∀ (I H : Hp) (v : V) (xs : List PyData) (P : SV → Prop) (Q : VK), Same I H → RdLL K I H v xs → f xs P → (∀ z s H', Res K I H H' z s → P s → Q z H') → r [v] H Q
abbrev pRL (f : List PyData → (SV → Prop) → Prop) (p : PEx) : PEx := fun e Q => p e fun s e1 => sqL s e1 fun xs => f xs fun z => Q z e1
theorem sim_rdL {r : List V → Hp → VK → Prop} {f : List PyData → (SV → Prop) → Prop} (hr : SimRL K r f) {t : TE} {p : PEx} (h : SimE K t p) : SimE K (tCB r (tCons t tNil)) (pRL f p) := fun I0 H0 sa H R tk Q tQ rp hp c => by
  refine h I0 H0 sa H R tk _ _ rp hp fun v s H1 R1 e1 al r1 hq => ?_
  obtain ⟨I, r1⟩ := r1
  obtain ⟨xs, hx, hf⟩ := r1.rdL (v := v) (s := s) r1.top al hq
  refine hr I H1 v xs _ _ r1.ih hx hf fun z s2 H' rs ps => ?_
  obtain ⟨I', r3⟩ := r1.pop.res rs
  exact c z s2 H' R1 e1 (res_al rs) ⟨I', by rw [res_rt rs]; exact r3⟩ ps
theorem rd_sort : SimRL K (R0.rSortD K) sortF := fun I H v xs P Q s ⟨p, ws, e, hs, _, w⟩ ⟨f1, f2, f3, f4⟩ c => by
  subst e
  exact ⟨p, ws, xs, rfl, hs, (w.mono s).dp, f1, f2, f3, fun l nl => c _ _ _ (res_lst s nl (wa_sort w)) f4⟩
abbrev tupF (xs : List PyData) (P : SV → Prop) : Prop := P (.k xs)
theorem rd_tup : SimRL K (fun vs H Q => ∃ p ys, vs = [V.ref p] ∧ H p = some (.lst ys) ∧ ∀ l H', H l = none → Same H H' → FrzT H' l ys → Q (.ref l) H') tupF := fun I H v xs P Q s ⟨p, ws, e, _, hs, w⟩ f c => by
  subst e
  refine ⟨p, ws, rfl, hs, fun l H' nl s2 hf => c _ (.k xs) _ ?_ f⟩
  obtain ⟨o, d, ho⟩ := hf
  have s1 : Same I (upd I l (.frz o (.tup ws))) := sm_upd (free_of s nl)
  refine ⟨upd I l (.frz o (.tup ws)), s1, fun b z e => ?_, s2, fun b o' e n _ => ?_, l, ws, rfl, ⟨o, d, upd_same⟩, w.mono s1⟩
  · by_cases x : b = l
    · subst x; rw [upd_same] at e; rw [ho, e]
    · rw [upd_ne x] at e; exact s2 _ _ (s _ _ e)
  · rw [upd_ne (fun x => by rw [x, nl] at n; cases n)]; exact e
/-! ### bools -/
def bools : List PyData → Option (List Bool)
  | [] => some []
  | .bool b :: xs => (bools xs).map (b :: ·)
  | _ => none
theorem wa_bools : ∀ {ws : List V} {xs : List PyData} {bs : List Bool}, WA K I ws xs → bools xs = some bs → ws = bs.map V.bl
  | _, [], _, .nil, h => by cases h; rfl
  | _, _ :: _, bs, .cons a b, h => by
    cases a with
    | bl c =>
      rename_i xs _
      unfold bools at h
      cases e : bools xs with
      | none => rw [e] at h; cases h
      | some cs => rw [e] at h; cases h; rw [wa_bools b e]; rfl
    | _ => cases h
abbrev allF (xs : List PyData) (P : SV → Prop) : Prop := ∃ bs, bools xs = some bs ∧ P (.d (.bool (bs.all id)))
abbrev anyF (xs : List PyData) (P : SV → Prop) : Prop := ∃ bs, bools xs = some bs ∧ P (.d (.bool (bs.any id)))
theorem rd_all : SimRL K (rAll K) allF := fun I H v xs P Q s ⟨p, ws, e, hs, _, w⟩ ⟨bs, f1, f2⟩ c => by
  subst e
  rw [wa_bools w f1] at hs
  exact ⟨p, bs, rfl, hs, c _ _ _ (res_same s (.bl _)) f2⟩
theorem rd_any : SimRL K (rAny K) anyF := fun I H v xs P Q s ⟨p, ws, e, hs, _, w⟩ ⟨bs, f1, f2⟩ c => by
  subst e
  rw [wa_bools w f1] at hs
  exact ⟨p, bs, rfl, hs, c _ _ _ (res_same s (.bl _)) f2⟩
/-! ### x in xs -/
abbrev rInP (K : PySem.W.Frag) : R2 := fun x y H Q => rInD K x y H Q ∨ R1.rInDT K false x y H Q
abbrev rNotInP (K : PySem.W.Frag) : R2 := fun x y H Q => rNotInD K x y H Q ∨ R1.rInDT K true x y H Q
abbrev sqT : SV → (List PyData → Prop) → Prop
  | .d (.tuple xs), P => P xs
  | .k xs, P => P xs
  | _, _ => False
theorem Ok.rdT {v : V} {s : SV} {P : List PyData → Prop} (ih : Same I H) (k : Ok K I H0 sa H (some v) s) (q : sqT s P) : ∃ xs, W K I v (.tuple xs) ∧ P xs := by
  cases s with
  | d x =>
    obtain ⟨v', e1, w⟩ := k
    cases e1
    cases x with
    | tuple xs => exact ⟨xs, w, q⟩
    | _ => exact q.elim
  | k xs =>
    obtain ⟨p, ws, e1, f, w⟩ := k
    cases e1
    exact ⟨xs, .tup f.sq w, q⟩
  | _ => exact q.elim
/-- is the member list one of items that are laid out -/
abbrev inB (x : PyData) (xs : List PyData) (P : Bool → Prop) : Prop := Sh x ∧ Sh (.list xs) ∧ P (xs.any fun z => PyData.eqv z x)
abbrev sqI (s : SV) (e : Env) (P : List PyData → Prop) : Prop := match s with
  | .d (.tuple xs) => P xs
  | .k xs => P xs
  | s => sqL s e P
abbrev pIn (p : PDx) (q : PEx) : PDx := fun e Q => p e fun x e1 => q e1 fun s e2 => sqI s e2 fun xs => inB x xs fun b => Q (.bool b) e2
abbrev pNotIn (p : PDx) (q : PEx) : PDx := fun e Q => p e fun x e1 => q e1 fun s e2 => sqI s e2 fun xs => inB x xs fun b => Q (.bool !b) e2
theorem sh_tup {xs : List PyData} (h : Sh (.list xs)) : Sh (.tuple xs) := h
theorem rd_in {u v : V} {x : PyData} {s : SV} {P : List PyData → Prop} (h : RepI K I0 H0 sa I H R tk) (k : Ok K I H0 sa H (some v) s.rt) (al : s.alk v (sl R)) (wx : W K I u x) (q : sqI s (ev R) P) :
    ∃ xs, P xs ∧ Dp K H u x ∧ (Dp K H v (.list xs) ∨ Dp K H v (.tuple xs)) := by
  have go : (∃ xs, RdLL K I H v xs ∧ P xs) ∨ (∃ xs, W K I v (.tuple xs) ∧ P xs) := by
    cases s with
    | k xs => exact .inr (k.rdT h.ih (P := P) q)
    | d y =>
      cases y with
      | tuple xs => exact .inr (k.rdT h.ih (P := P) q)
      | list xs => exact .inl (h.rdL k al q)
      | _ => exact q.elim
    | l xs => exact .inl (h.rdL k al q)
    | a j => exact .inl (h.rdL k al q)
    | u => exact q.elim
    | st => exact q.elim
  rcases go with ⟨xs, ⟨p, ws, rfl, hs, _, w⟩, hp⟩ | ⟨xs, w, hp⟩
  · exact ⟨xs, hp, (wx.mono h.ih).dp, .inl (.lst hs (w.mono h.ih).dp)⟩
  · exact ⟨xs, hp, (wx.mono h.ih).dp, .inr (w.mono h.ih).dp⟩
theorem sim_in {ta tb : TE} {p : PDx} {q : PEx} (h : SimD K ta p) (g : SimE K tb q) : SimD K (tOp (rInP K) ta tb) (pIn p q) := fun I0 H0 sa H R tk Q tQ rp hp c => by
  refine h I0 H0 sa H R tk _ _ rp hp fun u x H1 R1 e1 r1 hq => ?_
  rw [← e1]
  refine g I0 H0 sa H1 R1 _ _ _ r1 hq fun v s H2 R2 e2 al r2 hf => ?_
  obtain ⟨I, r2⟩ := r2
  obtain ⟨_, e3, w2⟩ := r2.pop.top
  cases e3
  obtain ⟨xs, ⟨s1, s2, q2⟩, d1, d2⟩ := rd_in r2 r2.top al w2 hf
  have fin := c _ _ H2 R2 (e2.trans e1) ⟨I, r2.pop.pop.push ⟨.bl (xs.any fun z => PyData.eqv z x), rfl, .bl _⟩ rfl⟩ q2
  rcases d2 with d2 | d2
  · exact .inl ⟨x, xs, d1, d2, s1, s2, fin⟩
  · exact .inr ⟨x, xs, d1, d2, s1, s2, fin⟩
theorem sim_notin {ta tb : TE} {p : PDx} {q : PEx} (h : SimD K ta p) (g : SimE K tb q) : SimD K (tOp (rNotInP K) ta tb) (pNotIn p q) := fun I0 H0 sa H R tk Q tQ rp hp c => by
  refine h I0 H0 sa H R tk _ _ rp hp fun u x H1 R1 e1 r1 hq => ?_
  rw [← e1]
  refine g I0 H0 sa H1 R1 _ _ _ r1 hq fun v s H2 R2 e2 al r2 hf => ?_
  obtain ⟨I, r2⟩ := r2
  obtain ⟨_, e3, w2⟩ := r2.pop.top
  cases e3
  obtain ⟨xs, ⟨s1, s2, q2⟩, d1, d2⟩ := rd_in r2 r2.top al w2 hf
  have fin := c _ _ H2 R2 (e2.trans e1) ⟨I, r2.pop.pop.push ⟨.bl !(xs.any fun z => PyData.eqv z x), rfl, .bl _⟩ rfl⟩ q2
  rcases d2 with d2 | d2
  · exact .inl ⟨x, xs, d1, d2, s1, s2, fin⟩
  · exact .inr ⟨x, xs, d1, d2, s1, s2, fin⟩
end
end PL

/-! P5: displays, append, targets, loops, comprehensions -/
namespace PL
open PySem PySem.Spec PyProof.Rows L2 RN
section
variable {K : PySem.W.Frag} {I0 H0 : Hp} {sa : Option Addr} {I I' H H' : Hp} {R tk : List Rt}
abbrev pTup (p : PAx) : PDx := fun e Q => p e fun xs e1 => xs.length ≤ 1000 ∧ Q (.tuple xs) e1
abbrev pLst (p : PAx) : PEx := fun e Q => p e fun xs e1 => xs.length ≤ 1000 ∧ Q (.l xs) e1
theorem sim_tup {t : TA} {p : PAx} (h : SimA K t p) : SimD K (tTup t) (pTup p) := fun I0 H0 sa H R tk Q tQ rp hp c => by
  refine h I0 H0 sa H R tk _ _ rp hp fun vs xs H' R' e el r' ⟨l, q⟩ => ⟨Nat.le_of_lt (small1000 (by rw [el]; exact l)), fun p np => ?_⟩
  obtain ⟨I, r'⟩ := r'
  obtain ⟨w, r2⟩ := r'.wa el
  exact c _ _ _ R' e ⟨_, (r2.grow np _).push ⟨_, rfl, .tup (SqT.of upd_same) (w.mono (sm_upd (r2.free np)))⟩ rfl⟩ q
theorem sim_lst {t : TA} {p : PAx} (h : SimA K t p) : SimE K (tLst t) (pLst p) := fun I0 H0 sa H R tk Q tQ rp hp c => by
  refine h I0 H0 sa H R tk _ _ rp hp fun vs xs H' R' e el r' ⟨l, q⟩ => ⟨Nat.le_of_lt (small1000 (by rw [el]; exact l)), fun p np => ?_⟩
  obtain ⟨I, r'⟩ := r'
  obtain ⟨w, r2⟩ := r'.wa el
  exact c _ (.l xs) _ R' e trivial ⟨_, r2.new np w⟩ q
/-! ### xs.append(x), xs a slot's own list -/
abbrev appF (s : SV) (e : Env) (x : PyData) (Q : SV → Env → Prop) : Prop := match s with
  | .a j => match gt e j with
    | .l xs => xs.length < 1000 ∧ Q (.d .none) (e.set j (.l (xs ++ [x])))
    | _ => False
  | _ => False
abbrev pApp (p : PEx) (q : PDx) : PEx := fun e Q => p e fun s e1 => sqL s e1 fun _ => q e1 fun x e2 => appF s e2 x Q
theorem sim_app {to te : TE} {p : PEx} {q : PDx} (h : SimE K to p) (g : SimD K te q) : SimE K (tBM K "list" rAppend to (tCons te tNil)) (pApp p q) := fun I0 H0 sa H R tk Q tQ rp hp c => by
  refine h I0 H0 sa H R tk _ _ rp hp fun v s H1 R1 e1 al r1 hq => ?_
  obtain ⟨I1, r1i⟩ := id r1
  obtain ⟨xs0, ⟨p0, ws0, ev0, hs0, _⟩, hq⟩ := r1i.rdL (v := v) (s := s) r1i.top al hq
  refine ⟨by rw [ev0]; exact .inl ⟨rfl, ws0, hs0⟩, ?_⟩
  rw [← e1]
  refine g I0 H0 sa H1 R1 _ _ _ r1 hq fun u x H2 R2 e2 r2 hf => ?_
  cases s with
  | a j =>
    cases gg : gt (ev R2) j with
    | l xs =>
      simp only [appF, gg] at hf
      obtain ⟨I, r2⟩ := r2
      obtain ⟨o, eo⟩ := gt_at (R := R2) (i := j) (by rw [gg]; exact fun z => by cases z)
      rw [gg] at eo
      have al2 : (sl R2)[j]? = some (some v) := by rw [e2]; exact al
      rw [List.getElem?_map, eo] at al2
      obtain rfl : o = some v := Option.some.inj al2
      obtain ⟨p, ws, e3, hp2, w, _⟩ := r2.ok _ (List.mem_append_left _ (List.mem_of_getElem? eo))
      cases e3
      obtain ⟨_, e4, w4⟩ := r2.top
      cases e4
      refine ⟨p, ws, u, rfl, rfl, hp2, small1000 (by rw [w.len]; exact Nat.le_of_lt hf.1), ?_⟩
      have r3 := r2.pop.pop.put eo ((WA.cons w4 .nil).app _ w)
      refine c _ (.d .none) _ (R2.set j (some (.ref p), .l (xs ++ [x]))) ?_ trivial ⟨I, r3.push ⟨_, rfl, .non⟩ rfl⟩ ?_
      · rw [← e1, ← e2]; exact set_fst eo
      · rw [show ev (R2.set j (some (V.ref p), SV.l (xs ++ [x]))) = (ev R2).set j (.l (xs ++ [x])) from map_set2]; exact hf.2
    | u => simp only [appF, gg] at hf
    | d x => simp only [appF, gg] at hf
    | k x => simp only [appF, gg] at hf
    | st => simp only [appF, gg] at hf
    | a x => simp only [appF, gg] at hf
  | _ => exact hf.elim
/-! ### targets -/
def SimG (K : PySem.W.Frag) (g : TG) (f : PyData → Env → (Env → Prop) → Prop) (js : List Nat) : Prop := ∀ (I0 H0 : Hp) (sa : Option Addr) (H : Hp) (R tk : List Rt) (x : V) (d : PyData) (Q : Env → Prop) (tQ : L2.St → Hp → Prop), Rp K I0 H0 sa H R ((some x, .d d) :: tk) → f d (ev R) Q →
  (∀ R', R'.length = R.length → (∀ i, i ∉ js → (sl R')[i]? = (sl R)[i]?) → Rp K I0 H0 sa H R' tk → Q (ev R') → tQ (sl R') H) → g x (sl R) H tQ
def SimGs (K : PySem.W.Frag) (g : TGs) (f : List PyData → Env → (Env → Prop) → Prop) (js : List Nat) : Prop := ∀ (I0 H0 : Hp) (sa : Option Addr) (H : Hp) (R tk : List Rt) (vs : List V) (xs : List PyData) (Q : Env → Prop) (tQ : L2.St → Hp → Prop), vs.length = xs.length → Rp K I0 H0 sa H R (blk vs xs ++ tk) → f xs (ev R) Q →
  (∀ R', R'.length = R.length → (∀ i, i ∉ js → (sl R')[i]? = (sl R)[i]?) → Rp K I0 H0 sa H R' tk → Q (ev R') → tQ (sl R') H) → g vs (sl R) H tQ
abbrev pgN (i : Nat) : PyData → Env → (Env → Prop) → Prop := fun d e Q => Q (e.set i (.d d))
theorem sim_gN (i : Nat) : SimG K (gName i) (pgN i) [i] := fun I0 H0 sa H R tk x d Q tQ r hp c => by
  obtain ⟨I, r⟩ := r
  have := c (R.set i (some x, .d d)) (by rw [List.length_set]) (fun j hj => by
    rw [show sl (R.set i (some x, SV.d d)) = (sl R).set i (some x) from map_set, List.getElem?_set_ne (fun z => hj (by rw [z]; exact List.mem_cons_self))]) ⟨I, r.move i⟩ (by
    rw [show ev (R.set i (some x, SV.d d)) = (ev R).set i (.d d) from map_set2]; exact hp)
  rw [show sl (R.set i (some x, SV.d d)) = (sl R).set i (some x) from map_set] at this
  exact this
abbrev pgsN : List PyData → Env → (Env → Prop) → Prop
  | [], e, Q => Q e
  | _ :: _, _, _ => False
theorem sim_gsN : SimGs K gNil pgsN [] := fun I0 H0 sa H R tk vs xs Q tQ el r hp c => by
  cases xs with
  | nil =>
    cases vs with
    | nil => exact ⟨rfl, c R rfl (fun _ _ => rfl) r hp⟩
    | cons _ _ => cases el
  | cons _ _ => exact hp.elim
abbrev pgsC (f : PyData → Env → (Env → Prop) → Prop) (g : List PyData → Env → (Env → Prop) → Prop) : List PyData → Env → (Env → Prop) → Prop
  | [], _, _ => False
  | x :: xs, e, Q => f x e fun e1 => g xs e1 Q
theorem sim_gsC {t : TG} {u : TGs} {f : PyData → Env → (Env → Prop) → Prop} {g : List PyData → Env → (Env → Prop) → Prop} {js ks : List Nat} (h : SimG K t f js) (k : SimGs K u g ks) : SimGs K (gCons t u) (pgsC f g) (js ++ ks) := fun I0 H0 sa H R tk vs xs Q tQ el r hp c => by
  cases xs with
  | nil => exact hp.elim
  | cons x xs =>
    cases vs with
    | nil => cases el
    | cons v vs =>
      refine ⟨v, vs, rfl, h I0 H0 sa H R (blk vs xs ++ tk) v x _ _ r hp fun R1 e1 n1 r1 q1 => ?_⟩
      exact k I0 H0 sa H R1 tk vs xs _ _ (Nat.succ.inj el) r1 q1 fun R2 e2 n2 r2 q2 => c R2 (e2.trans e1) (fun i hi => (n2 i fun z => hi (List.mem_append_right _ z)).trans (n1 i fun z => hi (List.mem_append_left _ z))) r2 q2
theorem RepI.pushA : ∀ {vs : List V} {xs : List PyData}, RepI K I0 H0 sa I H R tk → WA K I vs xs → RepI K I0 H0 sa I H R (blk vs xs ++ tk)
  | [], [], h, _ => h
  | _ :: _, _ :: _, h, .cons a b => RepI.push (r := (some _, .d _)) (RepI.pushA h b) ⟨_, rfl, a⟩ rfl
abbrev pgT (n : Nat) (f : List PyData → Env → (Env → Prop) → Prop) : PyData → Env → (Env → Prop) → Prop
  | .tuple xs, e, Q => xs.length = n ∧ f xs e Q
  | _, _, _ => False
theorem sim_gT {u : TGs} {f : List PyData → Env → (Env → Prop) → Prop} {js : List Nat} (n : Nat) (h : SimGs K u f js) : SimG K (gTup K n u) (pgT n f) js := fun I0 H0 sa H R tk x d Q tQ r hp c => by
  cases d with
  | tuple xs =>
    obtain ⟨I, r⟩ := r
    obtain ⟨_, e1, w⟩ := r.top
    cases e1
    cases w with
    | tup hs w =>
      exact ⟨_, _, rfl, sqT_same r.ih hs, by rw [w.len]; exact hp.1, h I0 H0 sa H R tk _ xs _ _ w.len ⟨I, r.pop.pushA w⟩ hp.2 c⟩
  | _ => exact hp.elim
/-- a, b = e -/
abbrev pAsg (p : PDx) (f : PyData → Env → (Env → Prop) → Prop) : PSx := fun E e => p e fun x e1 => f x e1 E.nx
theorem sim_asg {t : TE} {g : TG} {p : PDx} {f : PyData → Env → (Env → Prop) → Prop} {js : List Nat} (h : SimD K t p) (k : SimG K g f js) : SimS K (tAsg t g) (pAsg p f) := fun I0 H0 sa H R tk E D r rel hp => by
  refine h I0 H0 sa H R tk _ _ r hp fun v x H1 R1 e1 r1 q1 => ?_
  rw [← e1]
  exact k I0 H0 sa H1 R1 tk v x _ _ r1 q1 fun R2 e2 _ r2 q2 => rel.nx H1 R2 (e2.trans (len_of e1)) r2 q2
/-! ### sources of loops -/
def SimI (K : PySem.W.Frag) (wi : TI) (p : PAx) : Prop := ∀ (I0 H0 : Hp) (sa : Option Addr) (H : Hp) (R tk : List Rt) (Q : List PyData → Env → Prop) (tR : It → Hp → Prop), Rp K I0 H0 sa H R tk → p (ev R) Q →
  (∀ (J : It) (G : Hp → Prop) (Y : Nat → Hp → V → Hp → Prop) (xs : List PyData) (I1 H1 : Hp) (R1 : List Rt), sl R1 = sl R → RepI K I0 H0 sa I1 H1 R1 tk → Walk J xs.length G Y → (∀ H', Same I1 H' → G H') →
    (∀ i H' x H2, i < xs.length → Same I1 H' → Y i H' x H2 → ∃ d, xs[i]? = some d ∧ ∀ I', Same I1 I' → Same I' H' → Res K I' H' H2 x (.d d)) → Q xs (ev R1) → tR J H1) → wi (sl R) H tR
abbrev lsq : PyData → (List PyData → Prop) → Prop
  | .list xs, P => P xs
  | _, _ => False
abbrev tsq : PyData → (List PyData → Prop) → Prop
  | .tuple xs, P => P xs
  | _, _ => False
abbrev pItL (p : PDx) : PAx := fun e Q => p e fun x e1 => lsq x fun xs => Q xs e1
abbrev pItT (p : PDx) : PAx := fun e Q => p e fun x e1 => tsq x fun xs => Q xs e1
theorem sim_itL {t : TE} {p : PDx} (h : SimD K t p) : SimI K (iList K t) (pItL p) := fun I0 H0 sa H R tk Q tR rp hp c => by
  refine h I0 H0 sa H R tk _ _ rp hp fun v x H1 R1 e1 r1 q1 => ?_
  obtain ⟨I1, r1⟩ := r1
  obtain ⟨_, e2, w⟩ := r1.top
  cases e2
  cases w with
  | @lst a ws xs ha wa =>
    refine ⟨a, rfl, ⟨ws, SqL.of (r1.ih _ _ ha)⟩, ?_⟩
    refine c (Itl K a) (fun H => SqL K H a ws) (YAt ws) xs I1 H1 R1 e1 r1.pop (wa.len ▸ walk_list) (fun H' s => SqL.of (s _ _ ha)) (fun i H' x H2 hi s y => ?_) q1
    obtain ⟨rfl, hx⟩ := y
    obtain ⟨d, hd, wd⟩ := wa.at hx
    exact ⟨d, hd, fun I' s1 s2 => res_same s2 (wd.mono s1)⟩
  | _ => exact q1.elim
theorem sim_itT {t : TE} {p : PDx} (h : SimD K t p) : SimI K (iTup K t) (pItT p) := fun I0 H0 sa H R tk Q tR rp hp c => by
  refine h I0 H0 sa H R tk _ _ rp hp fun v x H1 R1 e1 r1 q1 => ?_
  obtain ⟨I1, r1⟩ := r1
  obtain ⟨_, e2, w⟩ := r1.top
  cases e2
  cases w with
  | @tup a ws xs ha wa =>
    refine ⟨a, rfl, ⟨ws, sqT_same r1.ih ha⟩, ?_⟩
    refine c (Itt K a) (fun H => SqT K H a ws) (YAt ws) xs I1 H1 R1 e1 r1.pop (wa.len ▸ walk_tup) (fun H' s => sqT_same s ha) (fun i H' x H2 hi s y => ?_) q1
    obtain ⟨rfl, hx⟩ := y
    obtain ⟨d, hd, wd⟩ := wa.at hx
    exact ⟨d, hd, fun I' s1 s2 => res_same s2 (wd.mono s1)⟩
  | _ => exact q1.elim
/-- range -/
def rng (lo : Int) (n : Nat) : List PyData := (List.range n).map fun i => .int (lo + (i : Nat))
theorem rng_len (lo : Int) (n : Nat) : (rng lo n).length = n := by unfold rng; rw [List.length_map, List.length_range]
theorem rng_at {lo : Int} {n i : Nat} (h : i < n) : (rng lo n)[i]? = some (.int (lo + (i : Nat))) := by unfold rng; rw [List.getElem?_map, List.getElem?_range h]; rfl
abbrev rg1 : List PyData → (List PyData → Prop) → Prop
  | [.int j], P => -(2 ^ 62) ≤ j ∧ j < 2 ^ 62 ∧ P (rng 0 j.toNat)
  | _, _ => False
abbrev rg2 : List PyData → (List PyData → Prop) → Prop
  | [.int i, .int j], P => (-(2 ^ 62) ≤ i ∧ i < 2 ^ 62 ∧ -(2 ^ 62) ≤ j ∧ j < 2 ^ 62) ∧ P (rng i (j - i).toNat)
  | _, _ => False
abbrev pRg1 (p : PAx) : PAx := fun e Q => p e fun xs e1 => rg1 xs fun ys => Q ys e1
abbrev pRg2 (p : PAx) : PAx := fun e Q => p e fun xs e1 => rg2 xs fun ys => Q ys e1
theorem rng_go {lo : Int} {n : Nat} {xs : List PyData} (e : xs = rng lo n) : Walk (Itr lo n) xs.length (fun _ => True) (YFn fun i => .int (lo + i)) := by
  subst e; rw [rng_len]; exact walk_range
theorem sim_rg1 {t : TA} {p : PAx} (h : SimA K t p) : SimI K (iRng1 t) (pRg1 p) := fun I0 H0 sa H R tk Q tR rp hp c => by
  refine h I0 H0 sa H R tk _ _ rp hp fun vs xs H1 R1 e1 el r1 q1 => ?_
  obtain ⟨I1, r0⟩ := r1
  obtain ⟨w, r1⟩ := r0.wa el
  clear r0
  cases w with
  | nil => exact q1.elim
  | cons a b =>
    cases b with
    | cons _ _ => cases a <;> exact q1.elim
    | nil =>
      cases a with
      | int j =>
        obtain ⟨b1, b2, q⟩ := q1
        refine ⟨j, rfl, b1, b2, c (Itr 0 j.toNat) (fun _ => True) _ _ I1 H1 R1 e1 r1 (rng_go rfl) (fun _ _ => trivial) (fun i H' x H2 hi s y => ?_) q⟩
        obtain ⟨rfl, rfl⟩ := y
        rw [rng_len] at hi
        exact ⟨_, rng_at hi, fun I' s1 s2 => res_same s2 (.int _)⟩
      | _ => exact q1.elim
theorem sim_rg2 {t : TA} {p : PAx} (h : SimA K t p) : SimI K (iRng2 t) (pRg2 p) := fun I0 H0 sa H R tk Q tR rp hp c => by
  refine h I0 H0 sa H R tk _ _ rp hp fun vs xs H1 R1 e1 el r1 q1 => ?_
  obtain ⟨I1, r0⟩ := r1
  obtain ⟨w, r1⟩ := r0.wa el
  clear r0
  cases w with
  | nil => exact q1.elim
  | cons a b =>
    cases b with
    | nil => cases a <;> exact q1.elim
    | cons a2 b2 =>
      cases b2 with
      | cons _ _ => cases a <;> cases a2 <;> exact q1.elim
      | nil =>
        cases a with
        | int i =>
          cases a2 with
          | int j =>
            obtain ⟨b1, q⟩ := q1
            refine ⟨i, j, rfl, b1, c (Itr i (j - i).toNat) (fun _ => True) _ _ I1 H1 R1 e1 r1 (rng_go rfl) (fun _ _ => trivial) (fun i H' x H2 hi s y => ?_) q⟩
            obtain ⟨rfl, rfl⟩ := y
            rw [rng_len] at hi
            exact ⟨_, rng_at hi, fun I' s1 s2 => res_same s2 (.int _)⟩
          | _ => exact q1.elim
        | _ => exact q1.elim
/-! ### for -/
abbrev pFor (p : PAx) (f : PyData → Env → (Env → Prop) → Prop) (q : PSx) : PSx := fun E e => p e fun xs e1 => ∃ Wp : Nat → Env → Prop, Wp 0 e1 ∧
  (∀ (i : Nat) (x : PyData) (e' : Env), xs[i]? = some x → Wp i e' → f x e' fun e2 => q ⟨Wp (i + 1), E.rt, E.nx, Wp (i + 1)⟩ e2) ∧ (∀ e', Wp xs.length e' → E.nx e')
theorem sim_for {wi : TI} {g : TG} {tb : TS} {p : PAx} {f : PyData → Env → (Env → Prop) → Prop} {q : PSx} {js : List Nat} (h : SimI K wi p) (k : SimG K g f js) (b : SimS K tb q) : SimS K (tFor wi g tb) (pFor p f q) := fun I0 H0 sa H R tk E D rp rel hp => by
  refine h I0 H0 sa H R tk _ _ rp hp fun J G Y xs I1 H1 R1 e1 r1 w hG hY ⟨Wp, w0, ws, wd⟩ => ?_
  have ln := len_of e1
  rw [← e1]
  refine for_it w (fun i σ' H' => ∃ R', σ' = sl R' ∧ R'.length = R.length ∧ Rp K I1 H0 sa H' R' tk ∧ Wp i (ev R')) ⟨R1, rfl, ln, ⟨I1, r1.base⟩, w0⟩ ?_ ?_ ?_
  · rintro i σ' H' _ ⟨R', rfl, _, ⟨I', r'⟩, _⟩
    exact hG H' (r'.i0.trans r'.ih)
  · rintro i x σ' H' H2 hi ⟨R', rfl, l', ⟨I', r'⟩, hw⟩ y
    obtain ⟨d, hd, hr⟩ := hY i H' x H2 hi (r'.i0.trans r'.ih) y
    obtain ⟨I2, r2⟩ := r'.res (hr I' r'.i0 r'.ih)
    refine k I1 H0 sa H2 R' tk x d _ _ ⟨I2, r2⟩ (ws i d (ev R') hd hw) fun R3 e3 _ r3 q3 => ?_
    refine b I1 H0 sa H2 R3 tk _ _ r3 ⟨fun H4 R4 l4 r4 q4 => ⟨R4, rfl, l4.trans (e3.trans l'), r4, q4⟩, fun v s H4 R4 l4 n4 r4 q4 => ?_, fun H4 R4 l4 r4 q4 => ?_, fun H4 R4 l4 r4 q4 => ⟨R4, rfl, l4.trans (e3.trans l'), r4, q4⟩⟩ q3
    · exact rel.rt v s H4 R4 (l4.trans (e3.trans l')) n4 (let ⟨I4, r4⟩ := r4; ⟨I4, r1.unbase r4⟩) q4
    · exact rel.nx H4 R4 (l4.trans (e3.trans l')) (let ⟨I4, r4⟩ := r4; ⟨I4, r1.unbase r4⟩) q4
  · rintro σ' H' ⟨R', rfl, l', ⟨I', r'⟩, hw⟩
    exact rel.nx H' R' l' ⟨I', r1.unbase r'⟩ (wd _ hw)
/-! ### while -/
abbrev pWhile (c : PTx) (q : PSx) : PSx := fun E e => ∃ Wp : Nat → Env → Prop, (∃ m, Wp m e) ∧ ∀ m e', Wp m e' → c e' fun b e1 => if b = true then q ⟨fun e2 => ∃ m', m' < m ∧ Wp m' e2, E.rt, E.nx, fun e2 => ∃ m', m' < m ∧ Wp m' e2⟩ e1 else E.nx e1
theorem sim_while {c : TT} {tb : TS} {pc : PTx} {q : PSx} (h : SimT K c pc) (b : SimS K tb q) : SimS K (tWhile c tb) (pWhile pc q) := fun I0 H0 sa H R tk E D rp rel ⟨Wp, ⟨m0, w0⟩, ws⟩ => by
  refine ⟨fun m σ' H' => ∃ R', σ' = sl R' ∧ R'.length = R.length ∧ Rp K I0 H0 sa H' R' tk ∧ Wp m (ev R'), ⟨m0, R, rfl, rfl, rp, w0⟩, ?_⟩
  rintro m σ' H' ⟨R', rfl, l', r', hw⟩
  refine h I0 H0 sa H' R' tk _ _ r' (ws m (ev R') hw) fun bb H2 R2 e2 r2 q2 => ?_
  have l2 := (len_of e2).trans l'
  rw [← e2]
  cases bb with
  | true =>
    refine ⟨fun σ'' H'' => ∃ m', m' < m ∧ ∃ R', σ'' = sl R' ∧ R'.length = R.length ∧ Rp K I0 H0 sa H'' R' tk ∧ Wp m' (ev R'), fun _ _ x => x, ?_⟩
    refine b I0 H0 sa H2 R2 tk ⟨fun e2 => ∃ m', m' < m ∧ Wp m' e2, E.rt, E.nx, fun e2 => ∃ m', m' < m ∧ Wp m' e2⟩ _ r2 ⟨fun H4 R4 l4 r4 ⟨m', a, b⟩ => ⟨m', a, R4, rfl, l4.trans l2, r4, b⟩, fun v s H4 R4 l4 n4 r4 q4 => rel.rt v s H4 R4 (l4.trans l2) n4 r4 q4, fun H4 R4 l4 r4 q4 => rel.nx H4 R4 (l4.trans l2) r4 q4, fun H4 R4 l4 r4 ⟨m', a, b⟩ => ⟨m', a, R4, rfl, l4.trans l2, r4, b⟩⟩ q2
  | false => exact rel.nx H2 R2 l2 r2 q2
end
end PL

/-! P6: comprehensions -/
namespace PL
open PySem PySem.Spec PyProof.Rows L2 RN
section
variable {K : PySem.W.Frag} {I0 H0 : Hp} {sa : Option Addr} {I I' H H' : Hp} {R tk : List Rt}
def wipeE (e : Env) : List Nat → Env
  | [] => e
  | v :: vs => (wipeE e vs).set v .u
def wipeR (R : List Rt) : List Nat → List Rt
  | [] => R
  | v :: vs => (wipeR R vs).set v (none, .u)
theorem wipeR_sl : ∀ vs, sl (wipeR R vs) = wipe (sl R) vs
  | [] => rfl
  | v :: vs => by
    show sl ((wipeR R vs).set v (none, .u)) = (wipe (sl R) vs).set v none
    rw [← wipeR_sl vs]; exact map_set
theorem wipeR_ev : ∀ vs, ev (wipeR R vs) = wipeE (ev R) vs
  | [] => rfl
  | v :: vs => by
    show ev ((wipeR R vs).set v (none, .u)) = (wipeE (ev R) vs).set v .u
    rw [← wipeR_ev vs]; exact map_set2
theorem wipeR_len : ∀ vs, (wipeR R vs).length = R.length
  | [] => rfl
  | v :: vs => by
    show ((wipeR R vs).set v (none, .u)).length = _
    rw [List.length_set, wipeR_len vs]
theorem RepI.wipe (h : RepI K I0 H0 sa I H R tk) : ∀ vs, RepI K I0 H0 sa I H (wipeR R vs) tk
  | [] => h
  | v :: vs => (RepI.wipe h vs).clear v none
theorem wipe_at (σ : L2.St) (i : Nat) : ∀ vs : List Nat, (wipe σ vs)[i]? = if i ∈ vs ∧ i < σ.length then some none else σ[i]?
  | [] => by rw [if_neg (fun h => by cases h.1)]; rfl
  | v :: vs => by
    show ((L2.wipe σ vs).set v none)[i]? = _
    rw [List.getElem?_set, wipe_length, wipe_at σ i vs]
    by_cases e : v = i
    · subst e
      rw [if_pos rfl]
      by_cases l : v < σ.length
      · rw [if_pos l, if_pos ⟨List.mem_cons_self, l⟩]
      · rw [if_neg l, if_neg (fun h => l h.2)]
        exact (List.getElem?_eq_none_iff.mpr (by omega)).symm
    · rw [if_neg e]
      by_cases m : i ∈ vs ∧ i < σ.length
      · rw [if_pos m, if_pos ⟨List.mem_cons_of_mem _ m.1, m.2⟩]
      · rw [if_neg m, if_neg (fun h => m ⟨(List.mem_cons.mp h.1).resolve_left (fun z => e z.symm), h.2⟩)]
theorem wipe_eq {σ σ' : L2.St} {vs js : List Nat} (l : σ'.length = σ.length) (h : ∀ i, i ∉ js → σ'[i]? = σ[i]?) (s : ∀ j ∈ js, j ∈ vs) : wipe σ' vs = wipe σ vs := by
  apply List.ext_getElem?
  intro i
  rw [wipe_at, wipe_at, l]
  by_cases m : i ∈ vs ∧ i < σ.length
  · rw [if_pos m, if_pos m]
  · rw [if_neg m, if_neg m]
    by_cases n : i ∈ vs
    · have : ¬ i < σ.length := fun z => m ⟨n, z⟩
      rw [List.getElem?_eq_none_iff.mpr (by omega), List.getElem?_eq_none_iff.mpr (by omega)]
    · exact h i fun z => n (s i z)
theorem wipe_wipe (σ : L2.St) (vs : List Nat) : wipe (wipe σ vs) vs = wipe σ vs := by
  apply List.ext_getElem?
  intro i
  rw [wipe_at, wipe_at, wipe_length]
  by_cases m : i ∈ vs ∧ i < σ.length
  · rw [if_pos m, if_pos m]
  · rw [if_neg m, if_neg m]
/-- roots that differ in what is not known alone -/
inductive Near : List Rt → List Rt → Prop
  | nil : Near [] []
  | same {r : Rt} {R S : List Rt} : Near R S → Near (r :: R) (r :: S)
  | free {o o' : Option V} {R S : List Rt} : Near R S → Near ((o, .u) :: R) ((o', .u) :: S)
theorem Near.ads {R S : List Rt} (h : Near R S) : ads S = ads R := by
  induction h with
  | nil => rfl
  | @same r R S _ ih => unfold PL.ads at ih ⊢; rw [List.filterMap_cons, List.filterMap_cons, ih]
  | @free o o' R S _ ih => exact ih
theorem Near.mem {R S : List Rt} (h : Near R S) : ∀ r ∈ S, r ∈ R ∨ r.2 = .u := by
  induction h with
  | nil => intro r h; cases h
  | same _ ih => intro r h; rcases List.mem_cons.mp h with rfl | h; exact .inl List.mem_cons_self; exact (ih r h).imp (List.mem_cons_of_mem _) id
  | free _ ih => intro r h; rcases List.mem_cons.mp h with rfl | h; exact .inr rfl; exact (ih r h).imp (List.mem_cons_of_mem _) id
theorem Near.ev {R S : List Rt} (h : Near R S) : ev S = ev R := by
  induction h with
  | nil => rfl
  | same _ ih => unfold PL.ev at ih ⊢; rw [List.map_cons, List.map_cons, ih]
  | free _ ih => unfold PL.ev at ih ⊢; rw [List.map_cons, List.map_cons, ih]
theorem RepI.near {S : List Rt} (h : RepI K I0 H0 sa I H R tk) (n : Near R S) : RepI K I0 H0 sa I H S tk := by
  refine ⟨h.ih, h.i0, h.fr, h.bs, fun r hr => ?_, ?_, h.sa⟩
  · rcases List.mem_append.mp hr with x | x
    · rcases n.mem r x with y | y
      · exact h.ok r (List.mem_append_left _ y)
      · rw [y]; exact trivial
    · exact h.ok r (List.mem_append_right _ x)
  · rw [ads_app, n.ads, ← ads_app]; exact h.nd
/-- the slots of a block as they were -/
theorem near_of : ∀ {R : List Rt} {σ : L2.St}, σ.length = R.length → (∀ (i : Nat) (r : Rt), R[i]? = some r → r.2 = .u ∨ σ[i]? = some r.1) → Near R (σ.zip (ev R)) ∧ sl (σ.zip (ev R)) = σ
  | [], [], _, _ => ⟨.nil, rfl⟩
  | [], _ :: _, e, _ => by cases e
  | _ :: _, [], e, _ => by cases e
  | r :: R, o :: σ, e, h => by
    obtain ⟨a, b⟩ := near_of (R := R) (σ := σ) (Nat.succ.inj e) fun i r hr => h (i + 1) r hr
    obtain ⟨o', s⟩ := r
    refine ⟨?_, ?_⟩
    · rcases h 0 (o', s) rfl with x | x
      · simp only at x; subst x; exact .free a
      · cases x; exact .same a
    · show o :: sl (σ.zip (ev R)) = o :: σ
      rw [b]
abbrev pLc (vs : List Nat) (p : PAx) (f : PyData → Env → (Env → Prop) → Prop) (c : PTx) (q : PDx) : PEx := fun e Q => p e fun xs e1 => ∃ Wp : Nat → List PyData → Env → Prop, Wp 0 [] (wipeE e1 vs) ∧
  (∀ (i : Nat) (x : PyData) (acc : List PyData) (e' : Env), xs[i]? = some x → Wp i acc e' → f x e' fun e2 => c e2 fun b e3 => if b = true then q e3 fun y e4 => acc.length < 1000 ∧ Wp (i + 1) (acc ++ [y]) (wipeE e4 vs) else Wp (i + 1) acc (wipeE e3 vs)) ∧
  (∀ acc e', Wp xs.length acc e' → Q (.l acc) e')
theorem gt_wipe : ∀ (e : Env) (vs : List Nat) (i : Nat), i ∈ vs → gt (wipeE e vs) i = .u := by
  have g : ∀ (e : Env) (v i : Nat), gt (e.set v .u) i = if i = v then .u else gt e i := fun e => by
    induction e with
    | nil => intro v i; rw [List.set_nil]; split <;> rfl
    | cons s e ih =>
      intro v i
      cases v with
      | zero => cases i with
        | zero => rfl
        | succ i => rfl
      | succ v => cases i with
        | zero => rfl
        | succ i =>
          show gt (e.set v .u) i = _
          rw [ih]
          by_cases h : i = v
          · rw [if_pos h, if_pos (by omega)]
          · rw [if_neg h, if_neg (by omega)]; rfl
  intro e vs
  induction vs with
  | nil => intro i h; cases h
  | cons v vs ih =>
    intro i h
    show gt ((wipeE e vs).set v .u) i = .u
    rw [g]
    split
    · rfl
    · next n => exact ih i ((List.mem_cons.mp h).resolve_left n)
theorem gt_get {R : List Rt} : ∀ {i : Nat} {r : Rt}, R[i]? = some r → gt (ev R) i = r.2 := by
  induction R with
  | nil => intro i r h; simp at h
  | cons x R ih =>
    intro i r h
    cases i with
    | zero => cases h; rfl
    | succ i => exact ih h
theorem sim_lc {wi : TI} {g : TG} {tt : TT} {te : TE} {vs js : List Nat} {p : PAx} {f : PyData → Env → (Env → Prop) → Prop} {c : PTx} {q : PDx} (h : SimI K wi p) (k : SimG K g f js) (ht : SimT K tt c) (he : SimD K te q) (hj : ∀ j ∈ js, j ∈ vs) :
    SimE K (tLc wi g tt te vs) (pLc vs p f c q) := fun I0 H0 sa H R tk Q tQ rp hp cn => by
  refine h I0 H0 sa H R tk _ _ rp hp fun J G Y xs I1 H1 R1 e1 r1 w hG hY ⟨Wp, w0, ws, wd⟩ D nD => ?_
  rw [← e1]
  refine lc_it w (fun i H' => ∃ R' acc, sl R' = L2.wipe (sl R1) vs ∧ (∀ j ∈ vs, gt (ev R') j = .u) ∧ (∃ I', RepI K I1 H0 sa I' H' R' ((some (.ref D), .l acc) :: tk)) ∧ Wp i acc (ev R'))
    ⟨wipeR R1 vs, [], wipeR_sl vs, fun j hj => by rw [wipeR_ev]; exact gt_wipe _ _ _ hj, ⟨I1, (r1.base.wipe vs).new nD .nil⟩, by rw [wipeR_ev]; exact w0⟩ ?_ ?_ ?_
  · rintro i H' _ ⟨R', acc, _, _, ⟨I', r'⟩, _⟩
    exact hG H' (r'.i0.trans r'.ih)
  · rintro i x H' H2 hi ⟨R', acc, es, eu, ⟨I', r'⟩, hw⟩ y
    obtain ⟨d, hd, hr⟩ := hY i H' x H2 hi (r'.i0.trans r'.ih) y
    obtain ⟨I2, r2⟩ := r'.res (hr I' r'.i0 r'.ih)
    rw [← es]
    refine k I1 H0 sa H2 R' _ x d _ _ ⟨I2, r2⟩ (ws i d acc (ev R') hd hw) fun R3 l3 n3 r3 q3 => ⟨?_, ?_⟩
    · rw [wipe_eq (σ := sl R') (σ' := sl R3) (by rw [List.length_map, List.length_map, l3]) n3 hj, es, wipe_wipe]
    refine ht I1 H0 sa H2 R3 _ _ _ r3 q3 fun b H4 R4 e4 r4 q4 => ?_
    have ew : L2.wipe (sl R4) vs = L2.wipe (sl R1) vs := by
      rw [e4, wipe_eq (σ := sl R') (σ' := sl R3) (by rw [List.length_map, List.length_map, l3]) n3 hj, es, wipe_wipe]
    cases b with
    | true =>
      rw [← e4]
      refine he I1 H0 sa H4 R4 _ _ _ r4 q4 fun z yd H5 R5 e5 r5 ⟨ln, q5⟩ => ?_
      obtain ⟨I5, r5⟩ := r5
      obtain ⟨_, e6, w5⟩ := r5.top
      cases e6
      obtain ⟨pD, wD, e7, hD, wa, _⟩ := r5.pop.top
      cases e7
      refine ⟨wD, hD, small1000 (by rw [wa.len]; exact Nat.le_of_lt ln), wipeR R5 vs, acc ++ [yd], ?_, fun j hj => by rw [wipeR_ev]; exact gt_wipe _ _ _ hj, ⟨I5, (r5.pop.putT ((WA.cons w5 .nil).app _ wa)).wipe vs⟩, by rw [wipeR_ev]; exact q5⟩
      rw [wipeR_sl, e5, ew, es]
    | false =>
      obtain ⟨I4, r4⟩ := r4
      refine ⟨wipeR R4 vs, acc, ?_, fun j hj => by rw [wipeR_ev]; exact gt_wipe _ _ _ hj, ⟨I4, r4.wipe vs⟩, by rw [wipeR_ev]; exact q4⟩
      rw [wipeR_sl, ew, es]
  · rintro H' ⟨R', acc, es, eu, ⟨I', r'⟩, hw⟩
    have ll : (sl R1).length = R'.length := by
      have := congrArg List.length es
      rw [wipe_length, List.length_map] at this
      exact this.symm
    obtain ⟨n, en⟩ := near_of (R := R') (σ := sl R1) ll fun i r hr => by
      by_cases m : i ∈ vs
      · left
        rw [← gt_get hr]; exact eu i m
      · right
        have h1 : (sl R')[i]? = some r.1 := by rw [List.getElem?_map, hr]; rfl
        rw [es, wipe_at, if_neg (fun z => m z.1)] at h1
        exact h1
    refine cn _ (.l acc) H' _ (en.trans e1) trivial ⟨I', (r1.unbase r').near n⟩ ?_
    rw [n.ev]
    exact wd acc _ hw
end
end PL

/-! P7: calls, defs -/
namespace PL
open PySem PySem.Spec PyProof.Rows L2 RN
section
variable {K : PySem.W.Frag} {I0 H0 : Hp} {sa : Option Addr} {I I' H H' : Hp} {R tk : List Rt}
def ArgOk (K : PySem.W.Frag) (I H : Hp) (sa : Option Addr) (v : V) : SV → Prop
  | .d x => W K I v x
  | .k xs => ∃ p ws, v = .ref p ∧ FrzT I p ws ∧ WA K I ws xs
  | .st => ∃ p, v = .ref p ∧ sa = some p
  | _ => False
def ArgsOk (K : PySem.W.Frag) (I H : Hp) (sa : Option Addr) : List V → List SV → Prop
  | [], [] => True
  | v :: vs, s :: ss => ArgOk K I H sa v s ∧ ArgsOk K I H sa vs ss
  | _, _ => False
def ResS (K : PySem.W.Frag) (I H : Hp) (sa : Option Addr) (H' : Hp) (z : V) (s : SV) : Prop := ∃ I', Same I I' ∧ Same I' H' ∧ (∀ b o, some b ≠ sa → H b = some o → H' b = some o) ∧ (∀ b o, I b = none → H b = some o → mu o = true → I' b = none) ∧ (∀ p, sa = some p → StOk I' H' p) ∧ match s with
  | .d x => W K I' z x
  | .k xs => ∃ p ws, z = .ref p ∧ FrzT I' p ws ∧ WA K I' ws xs
  | .l xs => ∃ p ws, z = .ref p ∧ H p = none ∧ H' p = some (.lst ws) ∧ WA K I' ws xs ∧ I' p = none
  | .st => ∃ p, z = .ref p ∧ H p = none ∧ StOk I' H' p ∧ I' p = none
  | _ => False
/-- a def by what it does to pure values -/
def spP (K : PySem.W.Frag) (f : List SV → (SV → Prop) → Prop) : Sp := fun vs H Q _ => ∃ I sa ss P, Same I H ∧ (∀ p, sa = some p → StOk I H p ∧ I p = none) ∧ ArgsOk K I H sa vs ss ∧ f ss P ∧ ∀ s, P s → ∀ z H', ResS K I H sa H' z s → Q z H'
theorem args_len : ∀ {vs : List V} {ss : List SV}, ArgsOk K I H sa vs ss → vs.length = ss.length
  | [], [], _ => rfl
  | [], _ :: _, h => h.elim
  | _ :: _, [], h => h.elim
  | _ :: _, _ :: _, h => congrArg Nat.succ (args_len h.2)
def blkS (vs : List V) (ss : List SV) : List Rt := (vs.zip ss).map fun p => (some p.1, p.2.rt)
def AlAll (σ : L2.St) : List V → List SV → Prop
  | v :: vs, s :: ss => s.alk v σ ∧ AlAll σ vs ss
  | _, _ => True
abbrev PLx := Env → (List SV → Env → Prop) → Prop
def SimL (K : PySem.W.Frag) (t : TA) (p : PLx) : Prop := ∀ (I0 H0 : Hp) (sa : Option Addr) (H : Hp) (R tk : List Rt) (Q : List SV → Env → Prop) (tQ : List V → Hp → Prop), Rp K I0 H0 sa H R tk → p (ev R) Q →
  (∀ vs ss H' R', sl R' = sl R → vs.length = ss.length → AlAll (sl R') vs ss → Rp K I0 H0 sa H' R' (blkS vs ss ++ tk) → Q ss (ev R') → tQ vs H') → t (sl R) H tQ
abbrev plN : PLx := fun e Q => Q [] e
abbrev plC (p : PEx) (q : PLx) : PLx := fun e Q => p e fun s e1 => q e1 fun ss e2 => Q (s :: ss) e2
theorem sim_lN : SimL K tNil plN := fun I0 H0 sa H R tk Q tQ r hp c => c [] [] H R rfl rfl trivial r hp
theorem sim_lC {te : TE} {t : TA} {p : PEx} {q : PLx} (h : SimE K te p) (g : SimL K t q) : SimL K (tCons te t) (plC p q) := fun I0 H0 sa H R tk Q tQ r hp c => by
  refine h I0 H0 sa H R tk _ _ r hp fun v s H' R' e al r' hq => ?_
  rw [← e]
  refine g I0 H0 sa H' R' _ _ _ r' hq fun vs ss H2 R2 e2 el ala r2 hq2 => ?_
  exact c (v :: vs) (s :: ss) H2 R2 (e2.trans e) (by rw [List.length_cons, List.length_cons, el]) ⟨by rw [e2]; exact al, ala⟩ (r2.perm List.perm_middle) hq2
/-- an argument: a list becomes data for good, the state stays -/
abbrev argn : SV → Env → (SV → Env → Prop) → Prop
  | .d x, e, Q => Q (.d x) e
  | .k xs, e, Q => Q (.k xs) e
  | .l xs, e, Q => Q (.d (.list xs)) e
  | .a j, e, Q => match gt e j with
    | .l xs => Q (.d (.list xs)) (e.set j (.d (.list xs)))
    | .st => Q (.a j) e
    | _ => False
  | _, _, _ => False
abbrev pArg (p : PEx) : PEx := fun e Q => p e fun s e1 => argn s e1 Q
theorem sim_arg {t : TE} {p : PEx} (h : SimE K t p) : SimE K t (pArg p) := fun I0 H0 sa H R tk Q tQ r hp c => by
  refine h I0 H0 sa H R tk _ tQ r hp fun v s H' R' e al r' q => ?_
  cases s with
  | u => exact q.elim
  | st => exact q.elim
  | d x => exact c v (.d x) H' R' e trivial r' q
  | k xs => exact c v (.k xs) H' R' e trivial r' q
  | l xs =>
    obtain ⟨I, r'⟩ := r'
    obtain ⟨I', _, r2⟩ := r'.freeze
    exact c v (.d (.list xs)) H' R' e trivial ⟨I', r2⟩ q
  | a j =>
    cases g : gt (ev R') j with
    | l xs =>
      obtain ⟨R2, e2, e3, r2⟩ := r'.freezeA al g
      refine c v (.d (.list xs)) H' R2 (e2.trans e) trivial r2 ?_
      rw [e3]
      simp only [argn, g] at q
      exact q
    | st =>
      simp only [argn, g] at q
      exact c v (.a j) H' R' e al r' q
    | u => simp only [argn, g] at q
    | d x => simp only [argn, g] at q
    | k x => simp only [argn, g] at q
    | a x => simp only [argn, g] at q
/-- what the call gets for what was found -/
abbrev as1 (e : Env) (j0 : Nat) : SV → SV → Prop
  | .d x, .d y => x = y
  | .k xs, .k ys => xs = ys
  | .k xs, .d y => y = .tuple xs
  | .a j, .st => j = j0 ∧ gt e j = .st
  | _, _ => False
def asA (e : Env) (j0 : Nat) : List SV → List SV → Prop
  | [], [] => True
  | s :: ss, t :: ts => as1 e j0 s t ∧ asA e j0 ss ts
  | _, _ => False
def pCall (f : List SV → (SV → Prop) → Prop) (q : PLx) : PEx := fun e Q => q e fun ss e1 => ∃ j0 ts, asA e1 j0 ss ts ∧ f ts fun s => Q s e1
theorem RepI.popS : ∀ {vs : List V} {ss : List SV}, vs.length = ss.length → RepI K I0 H0 sa I H R (blkS vs ss ++ tk) → RepI K I0 H0 sa I H R tk
  | [], [], _, h => h
  | [], _ :: _, e, _ => by cases e
  | _ :: _, [], e, _ => by cases e
  | v :: vs, s :: ss, e, h => RepI.popS (vs := vs) (ss := ss) (Nat.succ.inj e) (RepI.pop (r := (some v, s.rt)) h)
theorem RepI.pushO (h : RepI K I0 H0 sa I H R tk) (h2 : RepI K I0 H0 sa I' H' R tk) {p : Addr} (np : H p = none) {s : SV} (ns : s.own = true) (k : Ok K I' H0 sa H' (some (.ref p)) s) : RepI K I0 H0 sa I' H' R ((some (.ref p), s) :: tk) := by
  refine ⟨h2.ih, h2.i0, h2.fr, h2.bs, fun r' hr => ?_, ?_, h2.sa⟩
  · rcases List.mem_append.mp hr with x | x
    · exact h2.ok r' (List.mem_append_left _ x)
    · rcases List.mem_cons.mp x with x | x
      · rw [x]; exact k
      · exact h2.ok r' (List.mem_append_right _ x)
  · have e : ads (R ++ ((some (.ref p), s) : Rt) :: tk) = ads R ++ p :: ads tk := by
      unfold ads
      rw [List.filterMap_append, List.filterMap_cons_some (show ad ((some (.ref p), s) : Rt) = some p by unfold ad; rw [ns]; rfl)]
    rw [e]
    have nd := h.nd
    rw [ads_app] at nd
    refine (List.perm_middle.nodup_iff).mpr (List.nodup_cons.mpr ⟨fun q => ?_, nd⟩)
    obtain ⟨_, ⟨ob, e, _⟩, _⟩ := h.own_some (show p ∈ ads (R ++ tk) by rw [ads_app]; exact q)
    rw [np] at e; cases e
theorem sim_call {E : XK} {t : TA} {f : List SV → (SV → Prop) → Prop} {q : PLx} (h : SimL K t q) : SimE K (tCall (spP K f) [] E t) (pCall f q) := fun I0 H0 sa H R tk Q tQ rp hp c => by
  refine h I0 H0 sa H R tk _ _ rp hp fun vs ss H1 R1 e1 el al r1 ⟨j0, ts, ha, hf⟩ => ?_
  obtain ⟨I, r1⟩ := r1
  have r2 := r1.popS el
  -- the state, if it is handed on
  have hs : ∃ sa' : Option Addr, (∀ v, (sl R1)[j0]? = some (some v) → gt (ev R1) j0 = .st → ∃ p, v = .ref p ∧ sa' = some p) ∧ (∀ p, sa' = some p → StOk I H1 p ∧ I p = none ∧ ((some (.ref p), .st) : Rt) ∈ R1 ∧ (sa = some p ∨ H0 p = none)) := by
    by_cases g : gt (ev R1) j0 = .st
    · obtain ⟨o, eo⟩ := gt_at (R := R1) (i := j0) (by rw [g]; exact fun z => by cases z)
      rw [g] at eo
      obtain ⟨p, ep, a, b, d⟩ := r2.ok _ (List.mem_append_left tk (List.mem_of_getElem? eo))
      simp only at ep; subst ep
      refine ⟨some p, fun v hv _ => ?_, fun p' e' => ?_⟩
      · rw [List.getElem?_map, eo] at hv
        cases hv
        exact ⟨p, rfl, rfl⟩
      · cases e'
        exact ⟨a, b, List.mem_of_getElem? eo, d⟩
    · exact ⟨none, fun v _ h => absurd h g, fun p e => by cases e⟩
  obtain ⟨sa', g1, g2⟩ := hs
  show spP K f (vs ++ []) H1 tQ E
  rw [List.append_nil]
  refine ⟨I, sa', ts, _, r1.ih, fun p e => ⟨(g2 p e).1, (g2 p e).2.1⟩, ?_, hf, fun s ps z H' hr => ?_⟩
  · -- the arguments
    have go : ∀ {vs : List V} {ss ts : List SV}, vs.length = ss.length → AlAll (sl R1) vs ss → RepI K I0 H0 sa I H1 R1 (blkS vs ss ++ tk) → asA (ev R1) j0 ss ts → ArgsOk K I H1 sa' vs ts := by
      intro vs
      induction vs with
      | nil =>
        intro ss ts e al r h
        cases ss with
        | nil => cases ts with
          | nil => trivial
          | cons _ _ => exact h.elim
        | cons _ _ => cases e
      | cons v vs ih =>
        intro ss ts e al r h
        cases ss with
        | nil => cases e
        | cons s ss =>
          cases ts with
          | nil => exact h.elim
          | cons t ts =>
            have r : RepI K I0 H0 sa I H1 R1 ((some v, s.rt) :: (blkS vs ss ++ tk)) := r
            refine ⟨?_, ih (Nat.succ.inj e) al.2 r.pop h.2⟩
            have h1 := h.1
            have k := r.top
            cases s with
            | u => cases t <;> exact h1.elim
            | st => cases t <;> exact h1.elim
            | l _ => cases t <;> exact h1.elim
            | d x =>
              cases t with
              | d y => obtain ⟨_, e1, w⟩ := k; cases e1; cases h1; exact w
              | _ => exact h1.elim
            | k xs =>
              obtain ⟨p, ws, e1, f, w⟩ := k
              cases e1
              cases t with
              | d y => cases h1; exact .tup f.sq w
              | k ys => cases h1; exact ⟨p, ws, rfl, f, w⟩
              | _ => exact h1.elim
            | a j =>
              cases t with
              | st =>
                obtain ⟨rfl, gs⟩ := h1
                exact g1 v al.1 gs
              | _ => exact h1.elim
    exact go el al r1 ha
  · obtain ⟨I', s1, s2, sb, fr, hst, m⟩ := hr
    have r3 : RepI K I0 H0 sa I' H' R1 tk := r2.call sa' s1 s2 fr sb fun p e => ⟨hst p e, List.mem_append_left _ (g2 p e).2.2.1⟩
    have fin : ∀ s' : SV, s = s' → s'.rt = s' → s'.alk z (sl R1) → RepI K I0 H0 sa I' H' R1 ((some z, s') :: tk) → tQ z H' := fun s' es er ea r4 => by
      subst es
      exact c z s H' R1 e1 ea ⟨I', by rw [er]; exact r4⟩ ps
    cases s with
    | d x => exact fin _ rfl rfl trivial (r3.push ⟨z, rfl, m⟩ rfl)
    | k xs => obtain ⟨p, ws, rfl, a, b⟩ := m; exact fin _ rfl rfl trivial (r3.push ⟨p, ws, rfl, a, b⟩ rfl)
    | l xs => obtain ⟨p, ws, rfl, a, b, w, d⟩ := m; exact fin _ rfl rfl trivial (r2.pushO r3 a rfl ⟨p, ws, rfl, b, w, d, r2.fresh0 a⟩)
    | st => obtain ⟨p, rfl, a, b, d⟩ := m; exact fin _ rfl rfl trivial (r2.pushO r3 a rfl ⟨p, rfl, b, d, .inr (r2.fresh0 a)⟩)
    | u => exact m.elim
    | a j => exact m.elim
/-! ### defs -/
def startE (N : List Str) (ss : List SV) : Env := ss ++ List.replicate (N.length - ss.length) .u
def startR (N : List Str) (vs : List V) (ss : List SV) : List Rt := (vs.zip ss).map (fun p => (some p.1, p.2)) ++ List.replicate (N.length - vs.length) (none, .u)
theorem zip_both : ∀ {vs : List V} {ss : List SV}, vs.length = ss.length → ((vs.zip ss).map (fun p => ((some p.1, p.2) : Rt))).map Prod.fst = vs.map some ∧ ((vs.zip ss).map (fun p => ((some p.1, p.2) : Rt))).map Prod.snd = ss
  | [], [], _ => ⟨rfl, rfl⟩
  | [], _ :: _, e => by cases e
  | _ :: _, [], e => by cases e
  | v :: vs, s :: ss, e => by
    obtain ⟨a, b⟩ := zip_both (Nat.succ.inj e)
    exact ⟨by rw [List.zip_cons_cons, List.map_cons, List.map_cons, a]; rfl, by rw [List.zip_cons_cons, List.map_cons, List.map_cons, b]⟩
theorem startR_sl {N : List Str} {vs : List V} {ss : List SV} (e : vs.length = ss.length) : sl (startR N vs ss) = L2.start N vs := by
  unfold sl startR L2.start
  rw [List.map_append, (zip_both e).1, List.map_replicate]
theorem startR_ev {N : List Str} {vs : List V} {ss : List SV} (e : vs.length = ss.length) : ev (startR N vs ss) = startE N ss := by
  unfold ev startR startE
  rw [List.map_append, (zip_both e).2, List.map_replicate, e]
/-- what is given back: the state never -/
abbrev retF (P : SV → Prop) : SV → Prop
  | .st => False
  | s => P s
/-- at most one of the arguments is the state -/
def oneSt : List SV → Prop
  | [] => True
  | .st :: ss => ∀ s ∈ ss, s.own = false
  | _ :: ss => oneSt ss
theorem ads_none {n : Nat} : ads (List.replicate n ((none, .u) : Rt)) = [] := by
  induction n with
  | zero => rfl
  | succ n ih => rw [List.replicate_succ]; exact ih
theorem start_nd : ∀ {vs : List V} {ss : List SV}, ArgsOk K I H sa vs ss → oneSt ss → (ads ((vs.zip ss).map (fun p => ((some p.1, p.2) : Rt)))).Nodup
  | [], [], _, _ => List.nodup_nil
  | [], _ :: _, h, _ => h.elim
  | _ :: _, [], h, _ => h.elim
  | v :: vs, s :: ss, h, o => by
    have no : ∀ {vs : List V} {ss : List SV}, (∀ s ∈ ss, s.own = false) → ads ((vs.zip ss).map (fun p => ((some p.1, p.2) : Rt))) = [] := by
      intro vs
      induction vs with
      | nil => intro ss _; rfl
      | cons v vs ih =>
        intro ss n
        cases ss with
        | nil => rfl
        | cons s ss =>
          rw [List.zip_cons_cons, List.map_cons]
          unfold ads
          rw [List.filterMap_cons_none (show ad (some v, s) = none by unfold ad; rw [n s List.mem_cons_self]; rfl)]
          exact ih fun x hx => n x (List.mem_cons_of_mem _ hx)
    rw [List.zip_cons_cons, List.map_cons]
    cases s with
    | st =>
      obtain ⟨p, rfl, _⟩ := h.1
      unfold ads
      rw [List.filterMap_cons_some (show ad (some (V.ref p), SV.st) = some p from rfl)]
      have := no (vs := vs) (ss := ss) o
      unfold ads at this
      rw [this]
      exact List.nodup_cons.mpr ⟨(fun z => by cases z), List.nodup_nil⟩
    | d x => exact start_nd h.2 o
    | k x => exact start_nd h.2 o
    | u => exact h.1.elim
    | l x => exact h.1.elim
    | a x => exact h.1.elim
theorem start_ok : ∀ {vs : List V} {ss : List SV}, (∀ p, sa = some p → StOk I H p ∧ I p = none) → ArgsOk K I H sa vs ss → ∀ r ∈ (vs.zip ss).map (fun p => ((some p.1, p.2) : Rt)), Ok K I H sa H r.1 r.2
  | [], [], _, _ => fun r hr => by cases hr
  | [], _ :: _, _, h => h.elim
  | _ :: _, [], _, h => h.elim
  | v :: vs, s :: ss, g, h => by
    rw [List.zip_cons_cons, List.map_cons]
    intro r hr
    rcases List.mem_cons.mp hr with rfl | hr
    · have h1 := h.1
      cases s with
      | d x => exact ⟨v, rfl, h1⟩
      | k x => obtain ⟨p, ws, rfl, a, b⟩ := h1; exact ⟨p, ws, rfl, a, b⟩
      | st => obtain ⟨p, rfl, e⟩ := h1; exact ⟨p, rfl, (g p e).1, (g p e).2, .inl e⟩
      | u => exact h1.elim
      | l x => exact h1.elim
      | a x => exact h1.elim
    · exact start_ok g h.2 r hr
theorem def_read {N : List Str} {vs : List V} {ss : List SV} {t : TS} {p : PSx} {P : SV → Prop} {Q : VK} (hs : SimS K t p) (s0 : Same I H) (g : ∀ p, sa = some p → StOk I H p ∧ I p = none) (ha : ArgsOk K I H sa vs ss) (o : oneSt ss)
    (hp : p ⟨fun _ => P (.d .none), fun s _ => retF P s, fun _ => False, fun _ => False⟩ (startE N ss)) (hq : ∀ s, P s → ∀ z H', ResS K I H sa H' z s → Q z H') : t { nx := fun _ H' => Q .non H', rt := Q } (L2.start N vs) H := by
  have el := args_len ha
  rw [← startR_sl (N := N) el]
  have r0 : RepI K I H sa I H (startR N vs ss) [] := by
    refine ⟨s0, Same.refl _, fun _ _ e _ _ => e, fun _ _ _ e => e, fun r hr => ?_, ?_, fun p e => ?_⟩
    · rw [List.append_nil] at hr
      rcases List.mem_append.mp hr with x | x
      · exact start_ok g ha r x
      · obtain ⟨_, rfl⟩ := List.mem_replicate.mp x
        exact trivial
    · rw [List.append_nil]
      unfold startR
      rw [ads_app, ads_none, List.append_nil]
      exact start_nd ha o
    · obtain ⟨a, b⟩ := g p e
      obtain ⟨_, _, _, _, _, _, h1, _⟩ := id a
      exact ⟨a, b, _, h1, rfl⟩
  refine hs I H sa H _ [] ⟨fun _ => P (.d .none), fun s _ => retF P s, fun _ => False, fun _ => False⟩ _ ⟨I, r0⟩ ⟨fun H' R' _ r' q => ?_, fun v s H' R' _ n r' q => ?_, fun _ _ _ _ q => q.elim, fun _ _ _ _ q => q.elim⟩ (by rw [startR_ev el]; exact hp)
  · obtain ⟨I', r'⟩ := r'
    exact hq _ q .non H' ⟨I', r'.i0, r'.ih, fun b o n e => r'.bs b o n e, r'.fr, fun p e => (r'.sa p e).1, .non⟩
  · obtain ⟨I', r'⟩ := r'
    refine hq s (by cases s <;> first | exact q | exact q.elim | cases n) v H' ⟨I', r'.i0, r'.ih, fun b o n e => r'.bs b o n e, r'.fr, fun p e => (r'.sa p e).1, ?_⟩
    have k := r'.top
    cases s with
    | u => cases n
    | d x => obtain ⟨_, e, w⟩ := k; cases e; exact w
    | k x => obtain ⟨p, ws, e, a, b⟩ := k; cases e; exact ⟨p, ws, rfl, a, b⟩
    | l x => obtain ⟨p, ws, e, a, b, c, d⟩ := k; cases e; exact ⟨p, ws, rfl, d, a, b, c⟩
    | st => exact q.elim
    | a x => cases n
end
end PL

/-! P8: two clauses, stars, the frame of a def -/
namespace PL
open PySem PySem.Spec PyProof.Rows L2 RN
section
variable {K : PySem.W.Frag} {I0 H0 : Hp} {sa : Option Addr} {I I' H H' : Hp} {R tk : List Rt}
abbrev pLc2 (vs vs1 : List Nat) (p : PAx) (f : PyData → Env → (Env → Prop) → Prop) (c : PTx) (p1 : PAx) (f1 : PyData → Env → (Env → Prop) → Prop) (c1 : PTx) (q : PDx) : PEx := fun e Q => p e fun xs e1 => ∃ Wp : Nat → List PyData → Env → Prop, Wp 0 [] (wipeE e1 vs) ∧
  (∀ (i : Nat) (x : PyData) (acc : List PyData) (e' : Env), xs[i]? = some x → Wp i acc e' → f x e' fun e2 => c e2 fun b e3 => if b = true then
    p1 e3 fun ys e4 => ∃ Wq : Nat → List PyData → Env → Prop, Wq 0 acc (wipeE e4 vs1) ∧
      (∀ (j : Nat) (y : PyData) (acc' : List PyData) (e5 : Env), ys[j]? = some y → Wq j acc' e5 → f1 y e5 fun e6 => c1 e6 fun b1 e7 => if b1 = true then q e7 fun z e8 => acc'.length < 1000 ∧ Wq (j + 1) (acc' ++ [z]) (wipeE e8 vs1) else Wq (j + 1) acc' (wipeE e7 vs1)) ∧
      (∀ acc' e5, Wq ys.length acc' e5 → Wp (i + 1) acc' (wipeE e5 vs))
    else Wp (i + 1) acc (wipeE e3 vs)) ∧
  (∀ acc e', Wp xs.length acc e' → Q (.l acc) e')
theorem wipe_sub {σ σ' : L2.St} {vs vs1 : List Nat} (h : wipe σ' vs1 = wipe σ vs1) (s : ∀ j ∈ vs1, j ∈ vs) : wipe σ' vs = wipe σ vs := by
  have l : σ'.length = σ.length := by
    have := congrArg List.length h
    rwa [wipe_length, wipe_length] at this
  refine wipe_eq (js := vs1) l (fun i hi => ?_) s
  have := congrArg (fun l => l[i]?) h
  simp only [wipe_at, hi, false_and, if_false] at this
  exact this
theorem sim_lc2 {wi wi1 : TI} {g g1 : TG} {tt tt1 : TT} {te : TE} {vs vs1 js js1 : List Nat} {p p1 : PAx} {f f1 : PyData → Env → (Env → Prop) → Prop} {c c1 : PTx} {q : PDx} (h : SimI K wi p) (k : SimG K g f js) (ht : SimT K tt c)
    (h1 : SimI K wi1 p1) (k1 : SimG K g1 f1 js1) (ht1 : SimT K tt1 c1) (he : SimD K te q) (hj : ∀ j ∈ js, j ∈ vs) (hj1 : ∀ j ∈ js1, j ∈ vs1) (hv : ∀ j ∈ vs1, j ∈ vs) :
    SimE K (tLc2 wi g tt wi1 g1 tt1 te vs vs1) (pLc2 vs vs1 p f c p1 f1 c1 q) := fun I0 H0 sa H R tk Q tQ rp hp cn => by
  refine h I0 H0 sa H R tk _ _ rp hp fun J G Y xs I1 H1 R1 e1 r1 w hG hY ⟨Wp, w0, ws, wd⟩ D nD => ?_
  rw [← e1]
  refine _root_.R1.walk_it w (fun i H' => ∃ R' acc, sl R' = L2.wipe (sl R1) vs ∧ (∀ j ∈ vs, gt (ev R') j = .u) ∧ (∃ I', RepI K I1 H0 sa I' H' R' ((some (.ref D), .l acc) :: tk)) ∧ Wp i acc (ev R'))
    ⟨wipeR R1 vs, [], wipeR_sl vs, fun j hj => by rw [wipeR_ev]; exact gt_wipe _ _ _ hj, ⟨I1, (r1.base.wipe vs).new nD .nil⟩, by rw [wipeR_ev]; exact w0⟩ ?_ ?_ ?_
  · rintro i H' _ ⟨R', acc, _, _, ⟨I', r'⟩, _⟩
    exact hG H' (r'.i0.trans r'.ih)
  · rintro i x H' H2 hi ⟨R', acc, es, eu, ⟨I', r'⟩, hw⟩ y
    obtain ⟨d, hd, hr⟩ := hY i H' x H2 hi (r'.i0.trans r'.ih) y
    obtain ⟨I2, r2⟩ := r'.res (hr I' r'.i0 r'.ih)
    rw [← es]
    refine k I1 H0 sa H2 R' _ x d _ _ ⟨I2, r2⟩ (ws i d acc (ev R') hd hw) fun R3 l3 n3 r3 q3 => ⟨?_, ?_⟩
    · rw [wipe_eq (σ := sl R') (σ' := sl R3) (by rw [List.length_map, List.length_map, l3]) n3 hj, es, wipe_wipe]
    refine ht I1 H0 sa H2 R3 _ _ _ r3 q3 fun b H4 R4 e4 r4 q4 => ?_
    have ew : L2.wipe (sl R4) vs = sl R' := by
      rw [e4, wipe_eq (σ := sl R') (σ' := sl R3) (by rw [List.length_map, List.length_map, l3]) n3 hj, es, wipe_wipe]
    cases b with
    | false =>
      obtain ⟨I4, r4⟩ := r4
      refine ⟨wipeR R4 vs, acc, ?_, fun j hj => by rw [wipeR_ev]; exact gt_wipe _ _ _ hj, ⟨I4, r4.wipe vs⟩, by rw [wipeR_ev]; exact q4⟩
      rw [wipeR_sl, ew]
    | true =>
      rw [← e4]
      refine h1 I1 H0 sa H4 R4 _ _ _ r4 q4 fun J2 G2 Y2 ys I5 H5 R5 e5 r5 w2 hG2 hY2 ⟨Wq, v0, vs', vd⟩ => ?_
      rw [← e5]
      refine _root_.R1.walk_it w2 (fun j H' => ∃ R' acc', sl R' = L2.wipe (sl R5) vs1 ∧ (∃ I', RepI K I5 H0 sa I' H' R' ((some (.ref D), .l acc') :: tk)) ∧ Wq j acc' (ev R'))
        ⟨wipeR R5 vs1, acc, wipeR_sl vs1, ⟨I5, r5.base.wipe vs1⟩, by rw [wipeR_ev]; exact v0⟩ ?_ ?_ ?_
      · rintro j H' _ ⟨R', acc, _, ⟨I', r'⟩, _⟩
        exact hG2 H' (r'.i0.trans r'.ih)
      · rintro j z H6 H7 hj2 ⟨R6, acc', es6, ⟨I6, r6⟩, hw6⟩ y6
        obtain ⟨d6, hd6, hr6⟩ := hY2 j H6 z H7 hj2 (r6.i0.trans r6.ih) y6
        obtain ⟨I7, r7⟩ := r6.res (hr6 I6 r6.i0 r6.ih)
        rw [← es6]
        refine k1 I5 H0 sa H7 R6 _ z d6 _ _ ⟨I7, r7⟩ (vs' j d6 acc' (ev R6) hd6 hw6) fun R8 l8 n8 r8 q8 => ⟨?_, ?_⟩
        · rw [wipe_eq (σ := sl R6) (σ' := sl R8) (by rw [List.length_map, List.length_map, l8]) n8 hj1, es6, wipe_wipe]
        refine ht1 I5 H0 sa H7 R8 _ _ _ r8 q8 fun b1 H9 R9 e9 r9 q9 => ?_
        have ew9 : L2.wipe (sl R9) vs1 = sl R6 := by
          rw [e9, wipe_eq (σ := sl R6) (σ' := sl R8) (by rw [List.length_map, List.length_map, l8]) n8 hj1, es6, wipe_wipe]
        cases b1 with
        | true =>
          rw [← e9]
          refine he I5 H0 sa H9 R9 _ _ _ r9 q9 fun zz yd H10 R10 e10 r10 ⟨ln, q10⟩ => ?_
          obtain ⟨I10, r10⟩ := r10
          obtain ⟨_, e11, w10⟩ := r10.top
          cases e11
          obtain ⟨pD, wD, e12, hD, wa, _⟩ := r10.pop.top
          cases e12
          refine ⟨wD, hD, small1000 (by rw [wa.len]; exact Nat.le_of_lt ln), wipeR R10 vs1, acc' ++ [yd], ?_, ⟨I10, (r10.pop.putT ((WA.cons w10 .nil).app _ wa)).wipe vs1⟩, by rw [wipeR_ev]; exact q10⟩
          rw [wipeR_sl, e10, ew9]
        | false =>
          obtain ⟨I9, r9⟩ := r9
          refine ⟨wipeR R9 vs1, acc', ?_, ⟨I9, r9.wipe vs1⟩, by rw [wipeR_ev]; exact q9⟩
          rw [wipeR_sl, ew9]
      · rintro H' ⟨R6, acc', es6, ⟨I6, r6⟩, hw6⟩
        refine ⟨wipeR R6 vs, acc', ?_, fun j hj => by rw [wipeR_ev]; exact gt_wipe _ _ _ hj, ⟨I6, (r5.unbase r6).wipe vs⟩, by rw [wipeR_ev]; exact vd acc' _ hw6⟩
        rw [wipeR_sl, wipe_sub (σ := sl R5) (by rw [es6, wipe_wipe]) hv, e5, ew]
  · rintro H' ⟨R', acc, es, eu, ⟨I', r'⟩, hw⟩
    have ll : (sl R1).length = R'.length := by
      have := congrArg List.length es
      rw [wipe_length, List.length_map] at this
      exact this.symm
    obtain ⟨n, en⟩ := near_of (R := R') (σ := sl R1) ll fun i r hr => by
      by_cases m : i ∈ vs
      · left
        rw [← gt_get hr]; exact eu i m
      · right
        have h1 : (sl R')[i]? = some r.1 := by rw [List.getElem?_map, hr]; rfl
        rw [es, wipe_at, if_neg (fun z => m z.1)] at h1
        exact h1
    refine cn _ (.l acc) H' _ (en.trans e1) trivial ⟨I', (r1.unbase r').near n⟩ ?_
    rw [n.ev]
    exact wd acc _ hw
/-! ### (*a, b) -/
abbrev pStar (p : PEx) (q : PAx) : PAx := fun e Q => p e fun s e1 => sq s e1 fun xs => q e1 fun ys e2 => Q (xs ++ ys) e2
theorem blk_app : ∀ {vs : List V} {xs : List PyData} {us : List V} {ys : List PyData}, vs.length = xs.length → blk (vs ++ us) (xs ++ ys) = blk vs xs ++ blk us ys
  | [], [], _, _, _ => rfl
  | [], _ :: _, _, _, e => by cases e
  | _ :: _, [], _, _, e => by cases e
  | v :: vs, x :: xs, us, ys, e => by
    have := blk_app (us := us) (ys := ys) (Nat.succ.inj e)
    unfold blk at this ⊢
    rw [List.cons_append, List.cons_append, List.zip_cons_cons, List.map_cons, this, List.zip_cons_cons, List.map_cons, List.cons_append]
theorem sim_star {te : TE} {t : TA} {p : PEx} {q : PAx} (h : SimE K te p) (g : SimA K t q) : SimA K (StX.tStar K te t) (pStar p q) := fun I0 H0 sa H R tk Q tQ r hp c => by
  refine h I0 H0 sa H R tk _ _ r hp fun v s H' R' e al r' hq => ?_
  obtain ⟨I, r'⟩ := r'
  obtain ⟨xs, ⟨pa, ws, rfl, hs, w⟩, hq⟩ := r'.rd (v := v) (s := s) r'.top al hq
  refine ⟨pa, ws, rfl, hs.symm.imp id And.left, ?_⟩
  rw [← e]
  refine g I0 H0 sa H' R' _ _ _ ⟨I, (r'.pop).pushA w⟩ hq fun us ys H2 R2 e2 el r2 hq2 => ?_
  refine c (ws ++ us) (xs ++ ys) H2 R2 (e2.trans e) (by rw [List.length_append, List.length_append, w.len, el]) ?_ hq2
  rw [blk_app w.len, List.append_assoc]
  refine r2.perm ?_
  rw [← List.append_assoc, ← List.append_assoc]
  exact List.perm_append_comm.append_right tk
end
section
variable {P : Program} {w : World} {K : PySem.W.Frag} {mg : Str → Option Value} {base : Heap}
/-- a def by its pure reading -/
theorem fn_p {x qual : Str} {st : Stmt} {fa : Addr} {fd : FuncData} {N ps : List Str} {k : Nat} {f : List SV → (SV → Prop) → Prop} (F : Fun K x qual st fa fd) (S : FnScope N ps (defScope st)) (hl : ∀ ss Pp, f ss Pp → ss.length = ps.length ∧ oneSt ss)
    (hb : ∀ (cdv : Value) (A : Around) (outer : List PySem.Env) (s : Shared) (H : Hp) (E : XK), Room k (A.deeper (envOfC qual (defScope st) s.heap.objs.size fa cdv)) →
      ∃ t p, PSs (cxOf CX0 P w K mg base N qual (defScope st) fa cdv A outer s H E).nox (defBody st) t ∧ SimS K t p ∧ ∀ ss Pp, f ss Pp → p ⟨fun _ => Pp (.d .none), fun s _ => retF Pp s, fun _ => False, fun _ => False⟩ (startE N ss)) :
    FnOk P w K mg base CX0 (k + 1) fa fd ps (spP K f) := by
  refine F.ok S (fun vs H Q E h => ?_) (fun cdv A outer s H vs Q E hr h => ?_)
  · obtain ⟨I, sa, ss, Pp, _, _, ha, hf, _⟩ := h
    rw [args_len ha]; exact (hl _ _ hf).1
  · obtain ⟨I, sa, ss, Pp, s0, g, ha, hf, hq⟩ := h
    obtain ⟨t, p, d, hs, hr⟩ := hb cdv A outer s H E hr
    exact ⟨t, d, def_read hs s0 g ha (hl _ _ hf).2 (hr ss Pp hf) hq⟩
end
end PL

/-! P9: more operations -/
namespace PL
open PySem PySem.Spec PyProof.Rows L2 RN
section
variable {K : PySem.W.Frag} {I0 H0 : Hp} {sa : Option Addr} {I I' H H' : Hp} {R tk : List Rt}
abbrev pRetN : PSx := fun E e => E.rt (.d .none) e
theorem sim_retN : SimS K tRetN pRetN := fun I0 H0 sa H R tk E D r rel hp => rel.rt .non (.d .none) H R rfl rfl (let ⟨I, r⟩ := r; ⟨I, r.push ⟨_, rfl, .non⟩ rfl⟩) hp
/-! ### is None -/
abbrev isF (x y : PyData) (P : SV → Prop) : Prop := P (.d (.bool (isN x)))
theorem rule_isN : RuleR K (fun x y H Q => y = .non ∧ Q (.bl (decide (x = .non))) H) (fun x y P => y = .none ∧ isF x y P) := fun I H v u x y P Q s wx wy ⟨ey, f⟩ c => by
  subst ey
  cases wy
  refine ⟨rfl, c _ _ _ (res_same (x := .bool (isN x)) s ?_) f⟩
  cases wx <;> exact .bl _
theorem rule_notN : RuleR K (fun x y H Q => y = .non ∧ Q (.bl (!decide (x = .non))) H) (fun x y P => y = .none ∧ P (.d (.bool (!isN x)))) := fun I H v u x y P Q s wx wy ⟨ey, f⟩ c => by
  subst ey
  cases wy
  refine ⟨rfl, c _ _ _ (res_same (x := .bool (!isN x)) s ?_) f⟩
  cases wx <;> exact .bl _
/-! ### builtins of one datum -/
def RuleU (K : PySem.W.Frag) (r : List V → Hp → VK → Prop) (f : PyData → (SV → Prop) → Prop) : Prop := ∀ (I H : Hp) (v : V) (x : PyData) (P : SV → Prop) (Q : VK), Same I H → W K I v x → f x P → (∀ z s H', Res K I H H' z s → P s → Q z H') → r [v] H Q
abbrev pU (f : PyData → (SV → Prop) → Prop) (p : PDx) : PEx := fun e Q => p e fun x e1 => f x fun s => Q s e1
theorem sim_u {r : List V → Hp → VK → Prop} {f : PyData → (SV → Prop) → Prop} (hr : RuleU K r f) {t : TE} {p : PDx} (h : SimD K t p) : SimE K (tCB r (tCons t tNil)) (pU f p) := fun I0 H0 sa H R tk Q tQ rp hp c => by
  refine h I0 H0 sa H R tk _ _ rp hp fun v x H1 R1 e1 r1 hq => ?_
  obtain ⟨I, r1⟩ := r1
  obtain ⟨_, e2, w⟩ := r1.top
  cases e2
  refine hr I H1 v x _ _ r1.ih w hq fun z s2 H' rs ps => ?_
  obtain ⟨I', r3⟩ := r1.pop.res rs
  exact c z s2 H' R1 e1 (res_al rs) ⟨I', by rw [res_rt rs]; exact r3⟩ ps
abbrev toInt : PyData → (SV → Prop) → Prop
  | .int i, P => P (.d (.int i))
  | .bool b, P => P (.d (.int (if b then 1 else 0)))
  | _, _ => False
theorem rule_toInt : RuleU K (fun xs H Q => (∃ i, xs = [.int i] ∧ Q (.int i) H) ∨ ∃ k, xs = [.bl k] ∧ Q (.int (if k then 1 else 0)) H) toInt := fun I H v x P Q s w f c => by
  cases w with
  | int i => exact .inl ⟨i, rfl, c _ _ _ (res_same s (.int _)) f⟩
  | bl b => exact .inr ⟨b, rfl, c _ _ _ (res_same s (.int _)) f⟩
  | _ => exact f.elim
abbrev toStr : PyData → (SV → Prop) → Prop
  | .int i, P => i.natAbs.log2 < 1920 ∧ P (.d (.str (toString i)))
  | _, _ => False
theorem rule_toStr : RuleU K (fun xs H Q => ∃ i, xs = [.int i] ∧ i.natAbs.log2 < 1920 ∧ Q (.str (toString i)) H) toStr := fun I H v x P Q s w f c => by
  cases w with
  | int i => exact ⟨i, rfl, f.1, c _ _ _ (res_same s (.str _)) f.2⟩
  | _ => exact f.elim
/-! ### len(set(ints)) -/
def intsD : List PyData → Option (List Int)
  | [] => some []
  | .int i :: xs => (intsD xs).map (i :: ·)
  | _ => none
theorem wa_ints : ∀ {ws : List V} {xs : List PyData} {ns : List Int}, WA K I ws xs → intsD xs = some ns → ws = ns.map V.int
  | _, [], _, .nil, h => by cases h; rfl
  | _, _ :: _, ns, .cons a b, h => by
    cases a with
    | int c =>
      rename_i xs _
      unfold intsD at h
      cases e : intsD xs with
      | none => rw [e] at h; cases h
      | some cs => rw [e] at h; cases h; rw [wa_ints b e]; rfl
    | _ => cases h
theorem ints_map : ∀ ns : List Int, intsD (ns.map .int) = some ns
  | [] => rfl
  | n :: ns => by show (intsD (ns.map .int)).map (n :: ·) = _; rw [ints_map ns]; rfl
abbrev pLenSet (p : PEx) : PDx := fun e Q => p e fun s e1 => sq s e1 fun xs => ∃ ns, intsD xs = some ns ∧ ns.length ≤ 1000 ∧ Q (.int (R1.dist ns).length) e1
theorem sim_lenSet {t : TE} {p : PEx} (h : SimE K t p) : SimD K (R1.tLenSetX K t) (pLenSet p) := fun I0 H0 sa H R tk Q tQ rp hp c => by
  refine h I0 H0 sa H R tk _ _ rp hp fun v s H1 R1 e1 al r1 hq => ?_
  obtain ⟨I, r1⟩ := r1
  obtain ⟨xs, ⟨pa, ws, rfl, hs, w⟩, ns, e2, l, q⟩ := r1.rd (v := v) (s := s) r1.top al hq
  rw [wa_ints w e2] at hs
  exact ⟨pa, ns, rfl, hs.imp And.left id, l, c _ _ H1 R1 e1 ⟨I, r1.pop.push ⟨_, rfl, .int _⟩ rfl⟩ q⟩
/-! ### t.index(z), t a tuple of texts whose object is known -/
def strsD : List PyData → Option (List Str)
  | [] => some []
  | .str i :: xs => (strsD xs).map (i :: ·)
  | _ => none
theorem wa_strs : ∀ {ws : List V} {xs : List PyData} {ns : List Str}, WA K I ws xs → strsD xs = some ns → ws = ns.map V.str
  | _, [], _, .nil, h => by cases h; rfl
  | _, _ :: _, ns, .cons a b, h => by
    cases a with
    | str c =>
      rename_i xs _
      unfold strsD at h
      cases e : strsD xs with
      | none => rw [e] at h; cases h
      | some cs => rw [e] at h; cases h; rw [wa_strs b e]; rfl
    | _ => cases h
theorem strs_map : ∀ ns : List Str, strsD (ns.map .str) = some ns
  | [] => rfl
  | n :: ns => by show (strsD (ns.map .str)).map (n :: ·) = _; rw [strs_map ns]; rfl
abbrev kn : SV → (List PyData → Prop) → Prop
  | .k xs, P => P xs
  | _, _ => False
abbrev tixF (xs : List PyData) (y : PyData) (P : PyData → Prop) : Prop := match y with
  | .str z => ∃ (ys : List Str) (j : Nat), strsD xs = some ys ∧ ys[j]? = some z ∧ (∀ m, m < j → ys[m]? ≠ some z) ∧ P (.int (j : Nat))
  | _ => False
abbrev pTix (p : PEx) (q : PDx) : PDx := fun e Q => p e fun s e1 => kn s fun xs => q e1 fun y e2 => tixF xs y fun x => Q x e2
theorem sim_tix {to te : TE} {p : PEx} {q : PDx} (h : SimE K to p) (g : SimD K te q) : SimD K (RT.tBMF (RT.rTIx K) to (tCons te tNil)) (pTix p q) := fun I0 H0 sa H R tk Q tQ rp hp c => by
  refine h I0 H0 sa H R tk _ _ rp hp fun v s H1 R1 e1 al r1 hq => ?_
  cases s with
  | k xs =>
    obtain ⟨I1, r1i⟩ := id r1
    obtain ⟨pa, ws, ep, f, w⟩ := r1i.top
    cases ep
    obtain ⟨o, d, fo⟩ := f
    refine ⟨⟨pa, ws, rfl, o, d, r1i.ih _ _ fo⟩, ?_⟩
    rw [← e1]
    refine g I0 H0 sa H1 R1 _ _ _ r1 hq fun u y H2 R2 e2 r2 hf => ?_
    obtain ⟨I, r2⟩ := r2
    obtain ⟨_, e3, w2⟩ := r2.top
    cases e3
    obtain ⟨pa2, ws2, ep2, f2, w3⟩ := r2.pop.top
    cases ep2
    cases w2 with
    | str z =>
      obtain ⟨ys, j, e4, e5, e6, q⟩ := hf
      rw [wa_strs w3 e4] at f2
      exact ⟨pa, ys, z, j, rfl, rfl, sqT_same r2.ih f2.sq, e5, e6, c _ _ H2 R2 (e2.trans e1) ⟨I, r2.pop.pop.push ⟨_, rfl, .int _⟩ rfl⟩ q⟩
    | _ => exact hf.elim
  | _ => exact hq.elim
/-! ### x += n -/
abbrev augF (g : Int → Int → Int) : SV → PyData → (SV → Prop) → Prop
  | .d (.int a), .int b, P => P (.d (.int (g a b)))
  | _, _, _ => False
abbrev pAug (i : Nat) (g : Int → Int → Int) (q : PDx) : PSx := fun E e => (∃ a, gt e i = .d (.int a)) ∧ q e fun y e1 => augF g (gt e1 i) y fun s => E.nx (e1.set i s)
theorem sim_aug {te : TE} {q : PDx} (i : Nat) (g : Int → Int → Int) (h : SimD K te q) : SimS K (tAug i te (ipI g)) (pAug i g q) := fun I0 H0 sa H R tk E D r rel hp => by
  obtain ⟨⟨a0, ga⟩, hp⟩ := hp
  have hd : ∃ v, (sl R)[i]? = some (some v) := by
    obtain ⟨o, eo⟩ := gt_at (R := R) (i := i) (by rw [ga]; exact fun z => by cases z)
    obtain ⟨I, r⟩ := r
    have k := r.ok _ (List.mem_append_left _ (List.mem_of_getElem? eo))
    rw [ga] at k
    obtain ⟨v, e, _⟩ := k
    exact ⟨v, by rw [List.getElem?_map, eo]; exact congrArg some e⟩
  · obtain ⟨v, hv⟩ := hd
    refine ⟨v, hv, h I0 H0 sa H R tk _ _ r hp fun u y H1 R1 e1 r1 hq => ?_⟩
    obtain ⟨I, r1⟩ := r1
    obtain ⟨_, e2, w⟩ := r1.top
    cases e2
    cases gg : gt (ev R1) i with
    | d x =>
      rw [gg] at hq
      cases x with
      | int a =>
        cases w with
        | int b =>
          have k := gt_ok r1 gg (fun z => by cases z) (v := v) (by rw [e1]; exact hv)
          obtain ⟨_, e3, w3⟩ := k
          cases e3
          cases w3
          refine ⟨a, b, rfl, rfl, ?_⟩
          have := rel.nx H1 (R1.set i (some (.int (g a b)), .d (.int (g a b)))) (by rw [List.length_set]; exact len_of e1) ⟨I, (r1.pop.push (r := (some (.int (g a b)), .d (.int (g a b)))) ⟨_, rfl, .int _⟩ rfl).move i⟩ (by
            rw [show ev (R1.set i (some (V.int (g a b)), SV.d (.int (g a b)))) = (ev R1).set i (.d (.int (g a b))) from map_set2]; exact hq)
          rw [show sl (R1.set i (some (V.int (g a b)), SV.d (.int (g a b)))) = (sl R1).set i (some (.int (g a b))) from map_set, e1] at this
          exact this
        | _ => exact hq.elim
      | _ => exact hq.elim
    | _ => rw [gg] at hq; exact hq.elim
end
/-! ### the size of data: items alone -/
mutual
def wl : PyData → Nat
  | .list ds => ds.length + wlAll ds
  | .tuple ds => ds.length + wlAll ds
  | .none => 0
  | .bool _ => 0
  | .int _ => 0
  | .str _ => 0
  | .dict _ => 0
def wlAll : List PyData → Nat
  | [] => 0
  | d :: ds => wl d + wlAll ds
end
/-- data that alike can go through -/
structure AlB (d : PyData) : Prop where
  dp : d.depth < 30
  wt : wl d ≤ 1000000
/-! ### the contracts that every law has -/
abbrev drawF : List SV → (SV → Prop) → Prop := fun ss P => ∃ m : Int, ss = [.st, .d (.int m)] ∧ 1 ≤ m ∧ m < 2 ^ 60 ∧ ∀ v : Int, 0 ≤ v → v < m → P (.d (.int v))
abbrev stateF : List SV → (SV → Prop) → Prop := fun ss P => ∃ ns : List Int, ss = [.d (.list (ns.map .int))] ∧ P .st
abbrev alikeF : List SV → (SV → Prop) → Prop := fun ss P => ∃ x, ss = [.d x, .d x] ∧ AlB x ∧ P (.d (.bool true))
end PL

namespace K20
open PySem PySem.Spec PyProof.Rows L2
def topS (i : Nat) : Stmt := PySem.Challenge.pw_onelooker_k20_orders_closed.main.body.getD i (.Pass ⟨0, 0, 0, 0⟩)
abbrev s_block_count : Stmt := topS 1
theorem sc_block_count : FnScope ["marks"] ["marks"] (defScope s_block_count) := ⟨rfl, rfl, rfl, by decide +kernel, rfl, by decide +kernel, by decide +kernel⟩
abbrev s_block_of : Stmt := topS 3
theorem sc_block_of : FnScope ["names", "cell", "name"] ["names", "cell", "name"] (defScope s_block_of) := ⟨rfl, rfl, rfl, by decide +kernel, rfl, by decide +kernel, by decide +kernel⟩
abbrev s_reached : Stmt := topS 5
theorem sc_reached : FnScope ["following", "start", "high", "found", "seen", "at"] ["following", "start"] (defScope s_reached) := ⟨rfl, rfl, rfl, by decide +kernel, rfl, by decide +kernel, by decide +kernel⟩
abbrev s_closed_pairs : Stmt := topS 6
theorem sc_closed_pairs : FnScope ["pairs", "following", "low", "high"] ["pairs"] (defScope s_closed_pairs) := ⟨rfl, rfl, rfl, by decide +kernel, rfl, by decide +kernel, by decide +kernel⟩
abbrev s_orders : Stmt := topS 7
theorem sc_orders : FnScope ["count", "choices", "pair", "low", "high", "chosen", "more"] ["count"] (defScope s_orders) := ⟨rfl, rfl, rfl, by decide +kernel, rfl, by decide +kernel, by decide +kernel⟩
abbrev s_below_truth : Stmt := topS 8
theorem sc_below_truth : FnScope ["card", "names", "cell", "own", "atom"] ["card", "names", "cell", "own", "atom"] (defScope s_below_truth) := ⟨rfl, rfl, rfl, by decide +kernel, rfl, by decide +kernel, by decide +kernel⟩
abbrev s_all_hold : Stmt := topS 9
theorem sc_all_hold : FnScope ["card", "names", "literals", "cell", "own", "atom", "sign"] ["card", "names", "literals", "cell", "own"] (defScope s_all_hold) := ⟨rfl, rfl, rfl, by decide +kernel, rfl, by decide +kernel, by decide +kernel⟩
abbrev s_below_parts : Stmt := topS 10
theorem sc_below_parts : FnScope ["card", "names", "literals", "cell", "own"] ["card", "names", "literals", "cell"] (defScope s_below_parts) := ⟨rfl, rfl, rfl, by decide +kernel, rfl, by decide +kernel, by decide +kernel⟩
abbrev s_below_part : Stmt := topS 11
theorem sc_below_part : FnScope ["card", "names", "literals", "cell", "asserted", "own", "atom", "sign", "low", "high"] ["card", "names", "literals", "cell"] (defScope s_below_part) := ⟨rfl, rfl, rfl, by decide +kernel, rfl, by decide +kernel, by decide +kernel⟩
abbrev s_l_state : Stmt := topS 13
theorem sc_l_state : FnScope ["_law_script"] ["_law_script"] (defScope s_l_state) := ⟨rfl, rfl, rfl, by decide +kernel, rfl, by decide +kernel, by decide +kernel⟩
abbrev s_l_draw : Stmt := topS 14
theorem sc_l_draw : FnScope ["_law_state_here", "_law_many", "_law_cell", "_law_found", "_law_mixed"] ["_law_state_here", "_law_many"] (defScope s_l_draw) := ⟨rfl, rfl, rfl, by decide +kernel, rfl, by decide +kernel, by decide +kernel⟩
abbrev s_l_alike : Stmt := topS 15
theorem sc_l_alike : FnScope ["_law_actual", "_law_due", "_law_k"] ["_law_actual", "_law_due"] (defScope s_l_alike) := ⟨rfl, rfl, rfl, by decide +kernel, rfl, by decide +kernel, by decide +kernel⟩
abbrev s_l_names : Stmt := topS 16
theorem sc_l_names : FnScope ["_law_state_here", "_law_count", "_law_style", "_law_at", "_law_names_here", "_law_k"] ["_law_state_here", "_law_count"] (defScope s_l_names) := ⟨rfl, rfl, rfl, by decide +kernel, rfl, by decide +kernel, by decide +kernel⟩
abbrev s_l_marks : Stmt := topS 17
theorem sc_l_marks : FnScope ["_law_count", "_law_rows", "_law_k", "_law_wider", "_law_row", "_law_mark"] ["_law_count"] (defScope s_l_marks) := ⟨rfl, rfl, rfl, by decide +kernel, rfl, by decide +kernel, by decide +kernel⟩
abbrev s_l_cells : Stmt := topS 18
theorem sc_l_cells : FnScope ["_law_count", "_law_cells_here", "_law_size", "_law_marks_here"] ["_law_count"] (defScope s_l_cells) := ⟨rfl, rfl, rfl, by decide +kernel, rfl, by decide +kernel, by decide +kernel⟩
abbrev s_l_closed : Stmt := topS 19
theorem sc_l_closed : FnScope ["_law_pairs_here", "_law_found", "_law_places", "_law_middle", "_law_low", "_law_high", "_law_pair"] ["_law_pairs_here"] (defScope s_l_closed) := ⟨rfl, rfl, rfl, by decide +kernel, rfl, by decide +kernel, by decide +kernel⟩
abbrev s_l_pairs : Stmt := topS 20
theorem sc_l_pairs : FnScope ["_law_state_here", "_law_start", "_law_gap", "_law_chain", "_law_found", "_law_k"] ["_law_state_here"] (defScope s_l_pairs) := ⟨rfl, rfl, rfl, by decide +kernel, rfl, by decide +kernel, by decide +kernel⟩
abbrev s_l_all_orders : Stmt := topS 21
theorem sc_l_all_orders : FnScope ["_law_count", "_law_rows", "_law_low", "_law_high", "_law_row"] ["_law_count"] (defScope s_l_all_orders) := ⟨rfl, rfl, rfl, by decide +kernel, rfl, by decide +kernel, by decide +kernel⟩
abbrev s_l_below : Stmt := topS 22
theorem sc_l_below : FnScope ["_law_state_here", "_law_names_here", "_law_owner", "_law_found", "_law_k", "_law_low", "_law_high"] ["_law_state_here", "_law_names_here"] (defScope s_l_below) := ⟨rfl, rfl, rfl, by decide +kernel, rfl, by decide +kernel, by decide +kernel⟩
abbrev s_l_blocks : Stmt := topS 23
theorem sc_l_blocks : FnScope ["_law_names_here", "_law_cell", "_law_low", "_law_high"] ["_law_names_here", "_law_cell", "_law_low", "_law_high"] (defScope s_l_blocks) := ⟨rfl, rfl, rfl, by decide +kernel, rfl, by decide +kernel, by decide +kernel⟩
abbrev s_l_good : Stmt := topS 24
theorem sc_l_good : FnScope ["_law_listed", "_law_names_here", "_law_cell", "_law_literals", "_law_found", "_law_order", "_law_wrong", "_law_row"] ["_law_listed", "_law_names_here", "_law_cell", "_law_literals"] (defScope s_l_good) := ⟨rfl, rfl, rfl, by decide +kernel, rfl, by decide +kernel, by decide +kernel⟩
abbrev s_l_fewest : Stmt := topS 25
theorem sc_l_fewest : FnScope ["_law_parts", "_law_best", "_law_part"] ["_law_parts"] (defScope s_l_fewest) := ⟨rfl, rfl, rfl, by decide +kernel, rfl, by decide +kernel, by decide +kernel⟩
abbrev s_l_truths : Stmt := topS 26
theorem sc_l_truths : FnScope ["_law_names_here", "_law_cell", "_law_order", "_law_low", "_law_high", "_law_due"] ["_law_names_here", "_law_cell", "_law_order"] (defScope s_l_truths) := ⟨rfl, rfl, rfl, by decide +kernel, rfl, by decide +kernel, by decide +kernel⟩
abbrev s_law : Stmt := topS 27
theorem sc_law : FnScope ["_law_script", "_law_state_here", "_law_pairs_here", "_law_due", "_law_handed", "_law_asked", "_law_count", "_law_listed", "_law_names_here", "_law_literals", "_law_given", "_law_cells_here", "_law_cell", "_law_here", "_law_good_here"] ["_law_script"] (defScope s_law) := ⟨rfl, rfl, rfl, by decide +kernel, rfl, by decide +kernel, by decide +kernel⟩
structure Ad where
  f_block_count : Addr
  d_block_count : FuncData
  f_block_of : Addr
  d_block_of : FuncData
  f_reached : Addr
  d_reached : FuncData
  f_closed_pairs : Addr
  d_closed_pairs : FuncData
  f_orders : Addr
  d_orders : FuncData
  f_below_truth : Addr
  d_below_truth : FuncData
  f_all_hold : Addr
  d_all_hold : FuncData
  f_below_parts : Addr
  d_below_parts : FuncData
  f_below_part : Addr
  d_below_part : FuncData
  f_l_state : Addr
  d_l_state : FuncData
  f_l_draw : Addr
  d_l_draw : FuncData
  f_l_alike : Addr
  d_l_alike : FuncData
  f_l_names : Addr
  d_l_names : FuncData
  f_l_marks : Addr
  d_l_marks : FuncData
  f_l_cells : Addr
  d_l_cells : FuncData
  f_l_closed : Addr
  d_l_closed : FuncData
  f_l_pairs : Addr
  d_l_pairs : FuncData
  f_l_all_orders : Addr
  d_l_all_orders : FuncData
  f_l_below : Addr
  d_l_below : FuncData
  f_l_blocks : Addr
  d_l_blocks : FuncData
  f_l_good : Addr
  d_l_good : FuncData
  f_l_fewest : Addr
  d_l_fewest : FuncData
  f_l_truths : Addr
  d_l_truths : FuncData
  f_law : Addr
  d_law : FuncData
structure Top (K : PySem.W.Frag) (mg : Str → Option Value) (a : Ad) : Prop where
  F_block_count : Fun K "block_count" "block_count" s_block_count a.f_block_count a.d_block_count
  m_block_count : mg "block_count" = some (.ref a.f_block_count)
  b_block_count : Binds K a.d_block_count ["marks"] []
  F_block_of : Fun K "block_of" "block_of" s_block_of a.f_block_of a.d_block_of
  m_block_of : mg "block_of" = some (.ref a.f_block_of)
  b_block_of : Binds K a.d_block_of ["names", "cell", "name"] []
  F_reached : Fun K "_reached" "_reached" s_reached a.f_reached a.d_reached
  m_reached : mg "_reached" = some (.ref a.f_reached)
  b_reached : Binds K a.d_reached ["following", "start"] []
  F_closed_pairs : Fun K "closed_pairs" "closed_pairs" s_closed_pairs a.f_closed_pairs a.d_closed_pairs
  m_closed_pairs : mg "closed_pairs" = some (.ref a.f_closed_pairs)
  b_closed_pairs : Binds K a.d_closed_pairs ["pairs"] []
  F_orders : Fun K "orders" "orders" s_orders a.f_orders a.d_orders
  m_orders : mg "orders" = some (.ref a.f_orders)
  b_orders : Binds K a.d_orders ["count"] []
  F_below_truth : Fun K "below_truth" "below_truth" s_below_truth a.f_below_truth a.d_below_truth
  m_below_truth : mg "below_truth" = some (.ref a.f_below_truth)
  b_below_truth : Binds K a.d_below_truth ["card", "names", "cell", "own", "atom"] []
  F_all_hold : Fun K "_all_hold" "_all_hold" s_all_hold a.f_all_hold a.d_all_hold
  m_all_hold : mg "_all_hold" = some (.ref a.f_all_hold)
  b_all_hold : Binds K a.d_all_hold ["card", "names", "literals", "cell", "own"] []
  F_below_parts : Fun K "below_parts" "below_parts" s_below_parts a.f_below_parts a.d_below_parts
  m_below_parts : mg "below_parts" = some (.ref a.f_below_parts)
  b_below_parts : Binds K a.d_below_parts ["card", "names", "literals", "cell"] []
  F_below_part : Fun K "below_part" "below_part" s_below_part a.f_below_part a.d_below_part
  m_below_part : mg "below_part" = some (.ref a.f_below_part)
  b_below_part : Binds K a.d_below_part ["card", "names", "literals", "cell"] []
  F_l_state : Fun K "_law_state" "_law_state" s_l_state a.f_l_state a.d_l_state
  m_l_state : mg "_law_state" = some (.ref a.f_l_state)
  b_l_state : Binds K a.d_l_state ["_law_script"] []
  F_l_draw : Fun K "_law_draw" "_law_draw" s_l_draw a.f_l_draw a.d_l_draw
  m_l_draw : mg "_law_draw" = some (.ref a.f_l_draw)
  b_l_draw : Binds K a.d_l_draw ["_law_state_here", "_law_many"] []
  F_l_alike : Fun K "_law_alike" "_law_alike" s_l_alike a.f_l_alike a.d_l_alike
  m_l_alike : mg "_law_alike" = some (.ref a.f_l_alike)
  b_l_alike : Binds K a.d_l_alike ["_law_actual", "_law_due"] []
  F_l_names : Fun K "_law_names" "_law_names" s_l_names a.f_l_names a.d_l_names
  m_l_names : mg "_law_names" = some (.ref a.f_l_names)
  b_l_names : Binds K a.d_l_names ["_law_state_here", "_law_count"] []
  F_l_marks : Fun K "_law_marks" "_law_marks" s_l_marks a.f_l_marks a.d_l_marks
  m_l_marks : mg "_law_marks" = some (.ref a.f_l_marks)
  b_l_marks : Binds K a.d_l_marks ["_law_count"] []
  F_l_cells : Fun K "_law_cells" "_law_cells" s_l_cells a.f_l_cells a.d_l_cells
  m_l_cells : mg "_law_cells" = some (.ref a.f_l_cells)
  b_l_cells : Binds K a.d_l_cells ["_law_count"] []
  F_l_closed : Fun K "_law_closed" "_law_closed" s_l_closed a.f_l_closed a.d_l_closed
  m_l_closed : mg "_law_closed" = some (.ref a.f_l_closed)
  b_l_closed : Binds K a.d_l_closed ["_law_pairs_here"] []
  F_l_pairs : Fun K "_law_pairs" "_law_pairs" s_l_pairs a.f_l_pairs a.d_l_pairs
  m_l_pairs : mg "_law_pairs" = some (.ref a.f_l_pairs)
  b_l_pairs : Binds K a.d_l_pairs ["_law_state_here"] []
  F_l_all_orders : Fun K "_law_all_orders" "_law_all_orders" s_l_all_orders a.f_l_all_orders a.d_l_all_orders
  m_l_all_orders : mg "_law_all_orders" = some (.ref a.f_l_all_orders)
  b_l_all_orders : Binds K a.d_l_all_orders ["_law_count"] []
  F_l_below : Fun K "_law_below" "_law_below" s_l_below a.f_l_below a.d_l_below
  m_l_below : mg "_law_below" = some (.ref a.f_l_below)
  b_l_below : Binds K a.d_l_below ["_law_state_here", "_law_names_here"] []
  F_l_blocks : Fun K "_law_blocks" "_law_blocks" s_l_blocks a.f_l_blocks a.d_l_blocks
  m_l_blocks : mg "_law_blocks" = some (.ref a.f_l_blocks)
  b_l_blocks : Binds K a.d_l_blocks ["_law_names_here", "_law_cell", "_law_low", "_law_high"] []
  F_l_good : Fun K "_law_good" "_law_good" s_l_good a.f_l_good a.d_l_good
  m_l_good : mg "_law_good" = some (.ref a.f_l_good)
  b_l_good : Binds K a.d_l_good ["_law_listed", "_law_names_here", "_law_cell", "_law_literals"] []
  F_l_fewest : Fun K "_law_fewest" "_law_fewest" s_l_fewest a.f_l_fewest a.d_l_fewest
  m_l_fewest : mg "_law_fewest" = some (.ref a.f_l_fewest)
  b_l_fewest : Binds K a.d_l_fewest ["_law_parts"] []
  F_l_truths : Fun K "_law_truths" "_law_truths" s_l_truths a.f_l_truths a.d_l_truths
  m_l_truths : mg "_law_truths" = some (.ref a.f_l_truths)
  b_l_truths : Binds K a.d_l_truths ["_law_names_here", "_law_cell", "_law_order"] []
  F_law : Fun K "law" "law" s_law a.f_law a.d_law
  m_law : mg "law" = some (.ref a.f_law)
  b_law : Binds K a.d_law ["_law_script"] []
  z_all : mg "all" = none
  z_any : mg "any" = none
  z_bool : mg "bool" = none
  z_int : mg "int" = none
  z_isinstance : mg "isinstance" = none
  z_len : mg "len" = none
  z_list : mg "list" = none
  z_max : mg "max" = none
  z_range : mg "range" = none
  z_set : mg "set" = none
  z_sorted : mg "sorted" = none
  z_str : mg "str" = none
  z_tuple : mg "tuple" = none
end K20

namespace K20
open PySem PySem.Spec PyProof.Rows L2
section
variable {P : Program} {w : World} {K : PySem.W.Frag} {mg : Str → Option Value} {base : Heap} {a : Ad}
/-- the drawing state at st -/
structure Sta (sc : Addr) (H : Hp) (st : Addr) : Prop where
  ex : ∃ (ns : List Int) (i b s l : Int), sc ≠ st ∧ H st = some (.lst [.ref sc, .int i, .int b, .int s, .int l]) ∧ H sc = some (.lst (ns.map V.int)) ∧ 0 ≤ i ∧ 0 ≤ b ∧ 0 ≤ s ∧ s < 10 ^ 18 ∧ 0 ≤ l ∧ l ≤ 6
/-- all else stays -/
def Kp (st : Addr) (H H' : Hp) : Prop := ∀ b o, b ≠ st → H b = some o → H' b = some o
theorem Kp.refl (st : Addr) (H : Hp) : Kp st H H := fun _ _ _ h => h
theorem Kp.trans {st : Addr} {H H1 H2 : Hp} (x : Kp st H H1) (y : Kp st H1 H2) : Kp st H H2 := fun b o n h => y b o n (x b o n h)
theorem Kp.put {st : Addr} {H H1 : Hp} {o : HO} (x : Kp st H H1) : Kp st H (upd H1 st o) := fun b u n h => by
  rw [upd_ne n]
  exact x b u n h
theorem Same.kp {st : Addr} {H H' : Hp} (h : Same H H') : Kp st H H' := fun b o _ e => h b o e
def spDraw : Sp := fun vs H Q _ => ∃ (sc st : Addr) (m : Int), vs = [.ref st, .int m] ∧ Sta sc H st ∧ 1 ≤ m ∧ m < 2 ^ 60 ∧ ∀ H' v, Kp st H H' → Sta sc H' st → 0 ≤ v → v < m → Q (.int v) H'
theorem ixv {K : PySem.W.Frag} {i : Nat} {p : Addr} {xs : List V} {v : V} {σ : L2.St} {H : Hp} {Q : VK} (j : Nat) (h0 : σ[i]? = some (some (.ref p))) (h : SqL K H p xs) (e : xs[j]? = some v) (q : Q v H) : tOp (rIx K) (tVar i) (tC (.int (j : Int))) σ H Q :=
  ⟨.ref p, h0, .inl ⟨p, xs, j, v, rfl, rfl, h, atI_nat e, q⟩⟩
theorem eqi {K : PySem.W.Frag} {x y : Int} {H : Hp} {Q : Bool → Hp → Prop} (q : Q (decide (x = y)) H) : (fun x y H Q => rEq x y H Q ∨ rEqD K x y H Q) (.int x) (.int y) H (fun z H' => ∃ k, z = .bl k ∧ Q k H') := .inl ⟨rfl, _, rfl, by
  have e : decide (V.int x = V.int y) = decide (x = y) := by
    by_cases h : x = y
    · rw [decide_eq_true h, decide_eq_true (by rw [h])]
    · rw [decide_eq_false h, decide_eq_false (fun z => h (V.int.inj z))]
  rw [e]; exact q⟩
theorem setv {p : Addr} {xs : List V} {v : V} {H : Hp} {Q : Hp → Prop} (j : Nat) (h : H p = some (.lst xs)) (hj : j < xs.length) (q : Q (upd H p (.lst (xs.set j v)))) : rSetL (.ref p) (.int (j : Int)) v H Q := ⟨p, xs, j, j, rfl, rfl, h, by
  unfold ixN
  rw [if_pos (by omega), if_pos (by omega)]
  simp, q⟩
theorem sta_cell {H : Hp} {st : Addr} {xs : List V} {j : Nat} {v : V} (h : H st = some (.lst xs)) (e : xs[j]? = some v) : (∃ (p : Addr) (ys : List V) (i : Int) (u : V), V.ref st = .ref p ∧ V.int (j : Int) = .int i ∧ SqL K H p ys ∧ atI ys i = some u ∧ u = v) := ⟨st, xs, j, v, rfl, rfl, SqL.of h, atI_nat e, rfl⟩
theorem ok_draw (T : Top K mg a) : FnOk P w K mg base CX0 1 a.f_l_draw a.d_l_draw ["_law_state_here", "_law_many"] spDraw := by
  refine T.F_l_draw.ok sc_l_draw (fun vs H Q E h => ?_) (fun cdv A outer s H vs Q E hr h => ?_)
  · obtain ⟨_, st, m, rfl, _⟩ := h
    rfl
  · obtain ⟨sc, st, m, rfl, ⟨ns, i, b, s, l, hne, hst, hsc, hi, hb, hs0, hs1, hl0, hl1⟩, hm0, hm1, q⟩ := h
    refine ⟨_, (pss_cons (ps_if (pt_cmpR (OpR.or op_lt op_lt_str) (pv 1) pe_int (nomark _))
      (pss_one (ps_ret pe_int))
      pss_nil)
    (C8.pss_cut (ps_if (PW.pt (pw_and (pt_cmpR (OpR.or op_eq (op_eqD hr.units)) (pe_ix ix_seq (pv 0) pe_int (fun _ _ => rfl)) pe_int (nomark _)) (pw_and (pt_cmpR (OpR.or op_eq (op_eqD hr.units)) (pe_ix ix_seq (pv 0) pe_int (fun _ _ => rfl)) pe_int (nomark _)) (pw_and1 (pt_cmpR (OpR.or op_lt op_lt_str) (pe_ix ix_seq (pv 0) pe_int (fun _ _ => rfl)) (pe_callB (CallR.or call_len_str call_len_seq) (by rfl) T.z_len (by decide +kernel) (pa_cons (pe_ix ix_seq (pv 0) pe_int (fun _ _ => rfl)) pa_nil)) (nomark _))))))
      (pss_cons (ps_set (i := 2) sc_l_draw.nd rfl (.inl rfl) (pe_ix ix_seq (pe_ix ix_seq (pv 0) pe_int (fun _ _ => rfl)) (pe_ix ix_seq (pv 0) pe_int (fun _ _ => rfl)) (fun _ _ => rfl)))
      (pss_cons (ps_asg (pe_op (OpR.or op_add (OpR.or op_add_str (OpR.or op_cat op_catT))) (pe_ix ix_seq (pv 0) pe_int (fun _ _ => rfl)) pe_int) (pg_sub (pv 0) pe_int set_list))
      (pss_cons (ps_if (pt_cmpR (OpR.or op_lt op_lt_str) (pv 2) pe_int (nomark _))
        (pss_one (ps_set (i := 2) sc_l_draw.nd rfl (.inl rfl) (pe_op op_sub pe_int (pe_op (OpR.or op_mul op_mulW) pe_int (pv 2)))))
        pss_nil)
      (pss_one (ps_if (pt_cmpR (OpR.or op_ge op_ge_str) (pv 2) (pe_op op_pow pe_int pe_int) (nomark _))
        (pss_one (ps_asg (pv 2) (pg_sub (pv 0) pe_int set_list)))
        (pss_cons (ps_asg (pv 2) (pg_sub (pv 0) pe_int set_list))
        (pss_one (ps_asg pe_int (pg_sub (pv 0) pe_int set_list)))))))))
      pss_nil)
    (pss_cons (ps_if (pt_cmpR (OpR.or op_gt op_gt_str) (pe_ix ix_seq (pv 0) pe_int (fun _ _ => rfl)) pe_int (nomark _))
      (pss_cons (ps_set (i := 3) sc_l_draw.nd rfl (.inl rfl) (pe_op op_mod (pe_callTy (CallR.or call_int1 call_int_str) (by rfl) T.z_int (by decide +kernel) (pa_cons (pe_ix ix_seq (pv 0) pe_int (fun _ _ => rfl)) pa_nil)) (pv 1)))
      (pss_cons (ps_asg (pe_op op_fdivW (pe_ix ix_seq (pv 0) pe_int (fun _ _ => rfl)) (pv 1)) (pg_sub (pv 0) pe_int set_list))
      (pss_one (ps_ret (pv 3)))))
      pss_nil)
    (pss_cons (ps_if (pt_cmpR (OpR.or op_gt op_gt_str) (pe_ix ix_seq (pv 0) pe_int (fun _ _ => rfl)) pe_int (nomark _))
      (pss_cons (ps_asg (pe_op op_sub (pe_ix ix_seq (pv 0) pe_int (fun _ _ => rfl)) pe_int) (pg_sub (pv 0) pe_int set_list))
      (pss_cons (ps_set (i := 4) sc_l_draw.nd rfl (.inl rfl) (pe_op op_mod (pe_callTy (CallR.or call_int1 call_int_str) (by rfl) T.z_int (by decide +kernel) (pa_cons (pe_op (OpR.or op_mul op_mulW) (pe_ix ix_seq (pv 0) pe_int (fun _ _ => rfl)) (pe_op (OpR.or op_add (OpR.or op_add_str (OpR.or op_cat op_catT))) pe_int (pe_op (OpR.or op_mul op_mulW) pe_int (pe_ix ix_seq (pv 0) pe_int (fun _ _ => rfl))))) pa_nil)) pe_int))
      (pss_cons (ps_set (i := 4) sc_l_draw.nd rfl (.inl rfl) (pe_op op_mod (pe_callTy (CallR.or call_int1 call_int_str) (by rfl) T.z_int (by decide +kernel) (pa_cons (pe_op (OpR.or op_mul op_mulW) (pv 4) (pe_op (OpR.or op_add (OpR.or op_add_str (OpR.or op_cat op_catT))) pe_int (pe_ix ix_seq (pv 0) pe_int (fun _ _ => rfl)))) pa_nil)) pe_int))
      (pss_one (ps_ret (pe_op op_mod (pe_callTy (CallR.or call_int1 call_int_str) (by rfl) T.z_int (by decide +kernel) (pa_cons (pv 4) pa_nil)) (pv 1)))))))
      pss_nil)
    (pss_one (ps_ret pe_int)))))), ?_⟩
    refine ⟨.int m, rfl, .inl ⟨m, 2, rfl, rfl, _, rfl, ite2 (fun e => ?_) (fun e => ?_)⟩⟩
    · exact q H 0 (Kp.refl _ _) ⟨ns, i, b, s, l, hne, hst, hsc, hi, hb, hs0, hs1, hl0, hl1⟩ (by omega) (by omega)
    · have hm2 : 2 ≤ m := by
        have := of_decide_eq_false (Bool.eq_false_iff.mpr e)
        omega
      refine ⟨fun σ' H' => ∃ y2 y3 y4, σ' = [some (.ref st), some (.int m), y2, y3, y4] ∧ Kp st H H' ∧ Sta sc H' st, ?_, ?_⟩
      · -- load
        have S0 : Sta sc H st := ⟨ns, i, b, s, l, hne, hst, hsc, hi, hb, hs0, hs1, hl0, hl1⟩
        refine ixv 2 rfl (SqL.of hst) rfl (eqi (ite2 (fun e1 => ?_) (fun e1 => ?_)))
        rotate_left
        · exact iteF ⟨_, _, _, rfl, Kp.refl _ _, S0⟩
        refine ixv 4 rfl (SqL.of hst) rfl (eqi (ite2 (fun e2 => ?_) (fun e2 => ?_)))
        rotate_left
        · exact iteF ⟨_, _, _, rfl, Kp.refl _ _, S0⟩
        refine ixv 1 rfl (SqL.of hst) rfl (ixv 0 rfl (SqL.of hst) rfl (.inr ⟨sc, _, rfl, .inl (SqL.of hsc), .inl ⟨i, _, rfl, rfl, _, rfl, ite2 (fun e3 => ?_) (fun e3 => ?_)⟩⟩))
        rotate_left
        · exact ⟨_, _, _, rfl, Kp.refl _ _, S0⟩
        have h3 : i < ns.length := by
          have := of_decide_eq_true e3
          simpa using this
        obtain ⟨j, rfl⟩ : ∃ j : Nat, i = j := ⟨i.toNat, by omega⟩
        have hj : j < ns.length := by omega
        refine ixv 0 rfl (SqL.of hst) rfl (ixv 1 rfl (SqL.of hst) rfl (.inl ⟨sc, _, _, .int ns[j], rfl, rfl, SqL.of hsc, atI_nat (by simp [hj]), ?_⟩))
        refine ixv 1 rfl (SqL.of hst) rfl (.inl ⟨_, 1, rfl, rfl, ?_⟩)
        refine ⟨.ref st, rfl, setv 1 hst (by simp) ?_⟩
        -- the cell, not below 0
        have tail : ∀ (c : Int) (y3 y4 : Option V), 0 ≤ c → tIfS (tTest (tOp (fun x y H Q => rI0 (fun i j => V.bl (decide (j ≤ i))) x y H Q ∨ ∃ i j, x = V.str i ∧ y = V.str j ∧ Q (V.bl (!decide (i.cps.toList < j.cps.toList))) H) (tVar 2) (tOp (rI CPow fun i j => V.int (i ^ j.toNat)) (tC (.int 10)) (tC (.int 18)))))
            (tAsg (tVar 2) (gSub (tVar 0) (tC (.int 2)) rSetL)) (tSeq (tAsg (tVar 2) (gSub (tVar 0) (tC (.int 3)) rSetL)) (tAsg (tC (.int 6)) (gSub (tVar 0) (tC (.int 4)) rSetL)))
            { nx := fun σ' H' => ∃ y2 y3 y4, σ' = [some (.ref st), some (.int m), y2, y3, y4] ∧ Kp st H H' ∧ Sta sc H' st, rt := Q } [some (.ref st), some (.int m), some (.int c), y3, y4] (upd H st (.lst [.ref sc, .int (j + 1), .int b, .int s, .int l])) := by
          intro c y3 y4 hc
          have hsc' : (upd H st (.lst [.ref sc, .int (j + 1), .int b, .int s, .int l])) sc = some (.lst (ns.map V.int)) := by
            rw [upd_ne hne]; exact hsc
          refine ⟨.int c, rfl, 10, 18, rfl, rfl, ⟨by decide, by decide⟩, .inl ⟨c, _, rfl, rfl, _, rfl, ite2 (fun e => ?_) (fun e => ?_)⟩⟩
          · refine ⟨.int c, rfl, .ref st, rfl, setv 2 upd_same (by simp) ?_⟩
            refine ⟨_, _, _, rfl, (Kp.refl _ _).put.put, ns, j + 1, c, s, l, hne, upd_same, ?_, by omega, hc, hs0, hs1, hl0, hl1⟩
            rw [upd_ne hne]; exact hsc'
          · have hlt : c < 10 ^ 18 := by
              have := of_decide_eq_false (Bool.eq_false_iff.mpr e)
              have e18 : (10 : Int) ^ (18 : Int).toNat = 10 ^ 18 := rfl
              rw [e18] at this
              omega
            refine ⟨.int c, rfl, .ref st, rfl, setv 3 upd_same (by simp) ?_⟩
            refine ⟨.ref st, rfl, setv 4 upd_same (by simp) ?_⟩
            refine ⟨_, _, _, rfl, (Kp.refl _ _).put.put.put, ns, j + 1, b, c, 6, hne, upd_same, ?_, by omega, hb, hc, hlt, by omega, by omega⟩
            rw [upd_ne hne, upd_ne hne]; exact hsc'
        refine ⟨.int ns[j], rfl, .inl ⟨_, 0, rfl, rfl, _, rfl, ite2 (fun e => ?_) (fun e => ?_)⟩⟩
        · have hneg : ns[j] < 0 := of_decide_eq_true e
          refine ⟨.int ns[j], rfl, .inl ⟨2, _, rfl, rfl, .inl ⟨by decide, by decide⟩, 1, _, rfl, rfl, ?_⟩⟩
          exact tail (1 - 2 * ns[j]) _ _ (by omega)
        · have hpos : ¬ ns[j] < 0 := of_decide_eq_false (Bool.eq_false_iff.mpr e)
          exact tail ns[j] _ _ (by omega)
      · rintro σ' H1 ⟨y2, y3, y4, rfl, hk, ns, i, b, s, l, hne, hst, hsc, hi, hb, hs0, hs1, hl0, hl1⟩
        have hsc2 : ∀ o, (upd H1 st o) sc = some (.lst (ns.map V.int)) := fun o => by
          rw [upd_ne hne]; exact hsc
        refine ixv 2 rfl (SqL.of hst) rfl (.inl ⟨b, 0, rfl, rfl, _, rfl, ite2 (fun e => ?_) (fun e => ?_)⟩)
        · have hb1 : 0 < b := of_decide_eq_true e
          refine ixv 2 rfl (SqL.of hst) rfl (.inl (.inl ⟨b, rfl, .int m, rfl, b, m, rfl, rfl, by omega, ?_⟩))
          refine ixv 2 rfl (SqL.of hst) rfl ⟨.int m, rfl, b, m, rfl, rfl, wide_div (b := 60) (by omega) (by omega) (by decide) (by decide), .ref st, rfl, setv 2 hst (by simp) ?_⟩
          refine ⟨.int (b % m), rfl, q _ _ hk.put ⟨ns, i, b / m, s, l, hne, upd_same, hsc2 _, hi, Int.ediv_nonneg hb (by omega), hs0, hs1, hl0, hl1⟩ (Int.emod_nonneg _ (by omega)) (Int.emod_lt_of_pos _ (by omega))⟩
        · refine ixv 4 rfl (SqL.of hst) rfl (.inl ⟨l, 0, rfl, rfl, _, rfl, ite2 (fun e2 => ?_) (fun e2 => ?_)⟩)
          · have hl2 : 0 < l := of_decide_eq_true e2
            refine ixv 4 rfl (SqL.of hst) rfl ⟨l, 1, rfl, rfl, .ref st, rfl, setv 4 hst (by simp) ?_⟩
            have hA : (upd H1 st (.lst [.ref sc, .int i, .int b, .int s, .int (l - 1)])) st = some (.lst [.ref sc, .int i, .int b, .int s, .int (l - 1)]) := upd_same
            refine ixv 3 rfl (SqL.of hA) rfl (ixv 4 rfl (SqL.of hA) rfl (.inl ⟨2, l - 1, rfl, rfl, .inl ⟨by decide, by decide⟩, ?_⟩))
            refine .inl ⟨48271, _, rfl, rfl, .inl ⟨s, _, rfl, rfl, .inl ⟨by omega, by omega⟩, ?_⟩⟩
            refine .inl (.inl ⟨_, rfl, _, 2147483647, rfl, rfl, by (show (0 : Int) < _; decide), ?_⟩)
            have h4 := Int.emod_nonneg (s * (48271 + 2 * (l - 1))) (show (2147483647 : Int) ≠ 0 by decide)
            have h5 := Int.emod_lt_of_pos (s * (48271 + 2 * (l - 1))) (show (0 : Int) < 2147483647 by decide)
            refine ⟨.int (s * (48271 + 2 * (l - 1)) % 2147483647), rfl, ixv 4 rfl (SqL.of hA) rfl (.inl ⟨16807, l - 1, rfl, rfl, .inl ⟨_, _, rfl, rfl, .inl ⟨by omega, by omega⟩, ?_⟩⟩)⟩
            refine .inl (.inl ⟨_, rfl, _, 1000003, rfl, rfl, by (show (0 : Int) < _; decide), ?_⟩)
            refine ⟨_, rfl, .inl (.inl ⟨_, rfl, .int m, rfl, _, m, rfl, rfl, by omega, ?_⟩)⟩
            exact q _ _ hk.put ⟨ns, i, b, s, l - 1, hne, upd_same, hsc2 _, hi, hb, hs0, hs1, by omega, by omega⟩ (Int.emod_nonneg _ (by omega)) (Int.emod_lt_of_pos _ (by omega))
          · exact q _ _ hk ⟨ns, i, b, s, l, hne, hst, hsc, hi, hb, hs0, hs1, hl0, hl1⟩ (by omega) (by omega)
end
end K20


namespace K20
open PySem PySem.Spec PyProof.Rows L2
section
variable {P : Program} {w : World} {K : PySem.W.Frag} {mg : Str → Option Value} {base : Heap} {a : Ad}
def spState (K : PySem.W.Frag) : Sp := fun vs H Q _ => ∃ (p : Addr) (ns : List Int), vs = [.ref p] ∧ SqL K H p (ns.map V.int) ∧ ∀ H' st sc, H st = none → Same H H' → Sta sc H' st → Q (.ref st) H'
theorem same_upd {H : Hp} {p : Addr} {o : HO} (h : H p = none) : Same H (upd H p o) := fun b x e => by
  rw [upd_ne (ne_of_none e h)]
  exact e
theorem ok_state (T : Top K mg a) : FnOk P w K mg base CX0 1 a.f_l_state a.d_l_state ["_law_script"] (spState K) := by
  refine T.F_l_state.ok sc_l_state (fun vs H Q E h => ?_) (fun cdv A outer s H vs Q E hr h => ?_)
  · obtain ⟨st, m, rfl, _⟩ := h
    rfl
  · obtain ⟨p, ns, rfl, hS, q⟩ := h
    refine ⟨_, (pss_one (ps_ret (pe_lst (pa_cons (pe_callTy call_list_of (by rfl) T.z_list (by decide +kernel) (pa_cons (pv 0) pa_nil)) (pa_cons pe_int (pa_cons pe_int (pa_cons pe_int (pa_cons pe_int pa_nil)))))))), ?_⟩
    refine ⟨.ref p, rfl, p, _, rfl, .inl hS, fun sc nsc => ?_⟩
    refine ⟨by show 5 ≤ sizeLine; decide, fun st nst => ?_⟩
    have hne : sc ≠ st := fun e => by
      rw [← e, upd_same] at nst
      cases nst
    have n0 : H st = none := by
      rw [upd_ne (Ne.symm hne)] at nst
      exact nst
    refine q _ st sc n0 ((same_upd nsc).trans (same_upd nst)) ⟨ns, 0, 0, 0, 0, hne, upd_same, ?_, by omega, by omega, by omega, by decide, by omega, by omega⟩
    rw [upd_ne hne, upd_same]
/-! ### alike -/
theorem tyx_l {H : Hp} {p : Addr} {xs : List V} (h : SqL K H p xs) : TyX K H (.ref p) (.type "list") := by
  rcases h with (h | ⟨o, h⟩) | ⟨o, its, n, h, hc, _⟩
  · exact .base (.lst h)
  · exact .base (.frz h)
  · exact .kList h hc
theorem tyx_t {H : Hp} {p : Addr} {xs : List V} (h : SqT K H p xs) : TyX K H (.ref p) (.type "tuple") := by
  rcases h with (h | ⟨o, h⟩) | ⟨o, its, n, h, hc, _⟩
  · exact .base (.tup h)
  · exact .fTuple h
  · exact .kTuple h hc
/-- alike by one more layer -/
inductive SmS (K : PySem.W.Frag) (R : Hp → V → V → Prop) (H : Hp) : V → V → Prop where
  | non : SmS K R H .non .non
  | bl (b : Bool) : SmS K R H (.bl b) (.bl b)
  | int (i : Int) : SmS K R H (.int i) (.int i)
  | str (x : Str) : SmS K R H (.str x) (.str x)
  | lst {p q : Addr} {xs ys : List V} (hx : SqL K H p xs) (hy : SqL K H q ys) (l : xs.length = ys.length) (lt : xs.length ≤ 1000000) (r : ∀ (i : Nat) x y, xs[i]? = some x → ys[i]? = some y → R H x y) : SmS K R H (.ref p) (.ref q)
  | tup {p q : Addr} {xs ys : List V} (hx : SqT K H p xs) (hy : SqT K H q ys) (l : xs.length = ys.length) (lt : xs.length ≤ 1000000) (r : ∀ (i : Nat) x y, xs[i]? = some x → ys[i]? = some y → R H x y) : SmS K R H (.ref p) (.ref q)
def Sm (K : PySem.W.Frag) : Nat → Hp → V → V → Prop
  | 0 => fun _ _ _ => False
  | n + 1 => SmS K (Sm K n)
def spAl (R : Hp → V → V → Prop) : Sp := fun vs H Q _ => ∃ x y, vs = [x, y] ∧ R H x y ∧ Q (.bl true) H
theorem isiv {K : PySem.W.Frag} {σ : L2.St} {H : Hp} {i : Nat} {x : V} {t c : String} {b : Bool} {Q : VK} (h0 : σ[i]? = some (some x)) (ht : TyX K H x (.type t)) (hb : kitB t c = some b) (q : Q (.bl b) H) : tCB (rIsi K) (tCons (tVar i) (tCons (tC (.ty c)) tNil)) σ H Q :=
  ⟨x, h0, x, .ty c, .type t, .type c, b, rfl, .ty _, ht, kit_ty hb, q⟩
theorem isit {K : PySem.W.Frag} {σ : L2.St} {H : Hp} {i : Nat} {x : V} {t c : String} {b : Bool} {Q : Bool → Hp → Prop} (h0 : σ[i]? = some (some x)) (ht : TyX K H x (.type t)) (hb : kitB t c = some b) (q : Q b H) : tB (tCB (rIsi K) (tCons (tVar i) (tCons (tC (.ty c)) tNil))) σ H Q :=
  isiv h0 ht hb ⟨b, rfl, q⟩
theorem al_step {k : Nat} {R : Hp → V → V → Prop} (T : Top K mg a) (G_l_alike : FnOk P w K mg base CX0 k a.f_l_alike a.d_l_alike ["_law_actual", "_law_due"] (spAl R)) : FnOk P w K mg base CX0 (k + 1) a.f_l_alike a.d_l_alike ["_law_actual", "_law_due"] (spAl (SmS K R)) := by
  refine T.F_l_alike.ok sc_l_alike (fun vs H Q E h => ?_) (fun cdv A outer s H vs Q E hr h => ?_)
  · obtain ⟨x, y, rfl, _⟩ := h
    rfl
  · obtain ⟨x, y, rfl, S, q⟩ := h
    refine ⟨_, (pss_cons (ps_if (pt_cmpR op_isN (pv 1) pe_non (nomark _))
      (pss_one (ps_ret (pe_cmpR op_isN (pv 0) pe_non (nomark _))))
      pss_nil)
    (pss_cons (ps_if (PW.pt (pw_or (pt_val (pe_callB call_isi (by rfl) T.z_isinstance (by decide +kernel) (pa_cons (pv 1) (pa_cons (pe_bltn (v := .ty "bool") (by rfl) T.z_bool (by decide +kernel) rfl) pa_nil)))) (pw_or1 (pt_val (pe_callB call_isi (by rfl) T.z_isinstance (by decide +kernel) (pa_cons (pv 0) (pa_cons (pe_bltn (v := .ty "bool") (by rfl) T.z_bool (by decide +kernel) rfl) pa_nil)))))))
      (pss_one (ps_ret (pe_and (pe_callB call_isi (by rfl) T.z_isinstance (by decide +kernel) (pa_cons (pv 1) (pa_cons (pe_bltn (v := .ty "bool") (by rfl) T.z_bool (by decide +kernel) rfl) pa_nil))) (pe_and (pe_callB call_isi (by rfl) T.z_isinstance (by decide +kernel) (pa_cons (pv 0) (pa_cons (pe_bltn (v := .ty "bool") (by rfl) T.z_bool (by decide +kernel) rfl) pa_nil))) (pe_one (pe_cmpR (OpR.or op_eq (op_eqD hr.units)) (pv 0) (pv 1) (nomark _)))))))
      pss_nil)
    (pss_cons (ps_if (pt_val (pe_callB call_isi (by rfl) T.z_isinstance (by decide +kernel) (pa_cons (pv 1) (pa_cons (pe_bltn (v := .ty "int") (by rfl) T.z_int (by decide +kernel) rfl) pa_nil))))
      (pss_one (ps_ret (pe_and (pe_callB call_isi (by rfl) T.z_isinstance (by decide +kernel) (pa_cons (pv 0) (pa_cons (pe_bltn (v := .ty "int") (by rfl) T.z_int (by decide +kernel) rfl) pa_nil))) (pe_one (pe_cmpR (OpR.or op_eq (op_eqD hr.units)) (pv 0) (pv 1) (nomark _))))))
      pss_nil)
    (pss_cons (ps_if (pt_val (pe_callB call_isi (by rfl) T.z_isinstance (by decide +kernel) (pa_cons (pv 1) (pa_cons (pe_bltn (v := .ty "str") (by rfl) T.z_str (by decide +kernel) rfl) pa_nil))))
      (pss_one (ps_ret (pe_and (pe_callB call_isi (by rfl) T.z_isinstance (by decide +kernel) (pa_cons (pv 0) (pa_cons (pe_bltn (v := .ty "str") (by rfl) T.z_str (by decide +kernel) rfl) pa_nil))) (pe_one (pe_cmpR (OpR.or op_eq (op_eqD hr.units)) (pv 0) (pv 1) (nomark _))))))
      pss_nil)
    (pss_cons (ps_if (pt_val (pe_callB call_isi (by rfl) T.z_isinstance (by decide +kernel) (pa_cons (pv 1) (pa_cons (pe_bltn (v := .ty "list") (by rfl) T.z_list (by decide +kernel) rfl) pa_nil))))
      (pss_one (ps_if (pt_not (pt_val (pe_callB call_isi (by rfl) T.z_isinstance (by decide +kernel) (pa_cons (pv 0) (pa_cons (pe_bltn (v := .ty "list") (by rfl) T.z_list (by decide +kernel) rfl) pa_nil)))))
        (pss_one (ps_ret pe_bl))
        pss_nil))
      (pss_one (ps_if (pt_not (pt_val (pe_callB call_isi (by rfl) T.z_isinstance (by decide +kernel) (pa_cons (pv 0) (pa_cons (pe_bltn (v := .ty "tuple") (by rfl) T.z_tuple (by decide +kernel) rfl) pa_nil)))))
        (pss_one (ps_ret pe_bl))
        pss_nil)))
    (pss_cons (ps_if (pt_cmpR (OpR.or op_ne (op_neD hr.units)) (pe_callB (CallR.or call_len_str call_len_seq) (by rfl) T.z_len (by decide +kernel) (pa_cons (pv 0) pa_nil)) (pe_callB (CallR.or call_len_str call_len_seq) (by rfl) T.z_len (by decide +kernel) (pa_cons (pv 1) pa_nil)) (nomark _))
      (pss_one (ps_ret pe_bl))
      pss_nil)
    (pss_cons (ps_for PassesOwn.never rfl (pi_range1 (by rfl) T.z_range (pa_cons (pe_callB (CallR.or call_len_str call_len_seq) (by rfl) T.z_len (by decide +kernel) (pa_cons (pv 1) pa_nil)) pa_nil)) (pg_name (i := 2) sc_l_alike.nd rfl (.inl rfl))
      (pss_one (ps_if (pt_not (pt_val (pe_call G_l_alike hr (by rfl) T.m_l_alike T.F_l_alike.kp T.b_l_alike .nil pass0 (pa_cons (pe_ix ix_seq (pv 0) (pv 2) (fun _ _ => rfl)) (pa_cons (pe_ix ix_seq (pv 1) (pv 2) (fun _ _ => rfl)) pa_nil)))))
        (pss_one (ps_ret pe_bl))
        pss_nil)))
    (pss_one (ps_ret pe_bl))))))))), ?_⟩
    cases S with
    | non => exact ⟨_, rfl, rfl, _, rfl, iteT ⟨_, rfl, rfl, q⟩⟩
    | bl b =>
      refine ⟨_, rfl, rfl, _, rfl, iteF ?_⟩
      refine isit rfl (.base (.bl b)) (b := true) (by decide +kernel) ?_
      refine isit rfl (.base (.bl b)) (b := true) (by decide +kernel) ?_
      refine isit rfl (.base (.bl b)) (b := true) (by decide +kernel) ?_
      refine ⟨_, rfl, _, rfl, .inl ⟨rfl, ?_⟩⟩
      rw [decide_eq_true rfl]
      exact q
    | int i =>
      refine ⟨_, rfl, rfl, _, rfl, iteF ?_⟩
      refine isit rfl (.base (.int i)) (b := false) (by decide +kernel) ?_
      refine isit rfl (.base (.int i)) (b := false) (by decide +kernel) ?_
      refine isit rfl (.base (.int i)) (b := true) (by decide +kernel) ?_
      refine isit rfl (.base (.int i)) (b := true) (by decide +kernel) ?_
      refine ⟨_, rfl, _, rfl, .inl ⟨rfl, ?_⟩⟩
      rw [decide_eq_true rfl]
      exact q
    | str z =>
      refine ⟨_, rfl, rfl, _, rfl, iteF ?_⟩
      refine isit rfl (.base (.str z)) (b := false) (by decide +kernel) ?_
      refine isit rfl (.base (.str z)) (b := false) (by decide +kernel) ?_
      refine isit rfl (.base (.str z)) (b := false) (by decide +kernel) ?_
      refine isit rfl (.base (.str z)) (b := true) (by decide +kernel) ?_
      refine isit rfl (.base (.str z)) (b := true) (by decide +kernel) ?_
      refine ⟨_, rfl, _, rfl, .inl ⟨rfl, ?_⟩⟩
      rw [decide_eq_true rfl]
      exact q
    | @lst p p' xs ys hx hy l lt r =>
      refine ⟨_, rfl, rfl, _, rfl, iteF ?_⟩
      refine isit rfl (tyx_l hy) (b := false) (by decide +kernel) ?_
      refine isit rfl (tyx_l hx) (b := false) (by decide +kernel) ?_
      refine isit rfl (tyx_l hy) (b := false) (by decide +kernel) ?_
      refine isit rfl (tyx_l hy) (b := false) (by decide +kernel) ?_
      refine isit rfl (tyx_l hy) (b := true) (by decide +kernel) ?_
      refine isit rfl (tyx_l hx) (b := true) (by decide +kernel) ?_
      refine ⟨_, rfl, .inr ⟨p, xs, rfl, .inl hx, _, rfl, .inr ⟨p', ys, rfl, .inl hy, .inl ⟨rfl, _, rfl, ?_⟩⟩⟩⟩
      rw [l]
      refine iteNS rfl ?_
      refine ⟨_, rfl, .inr ⟨p', ys, rfl, .inl hy, _, rfl, by omega, by omega, for_range (lo := 0) (n := ys.length) (fun i σ' H' => ∃ y2, σ' = [some (.ref p), some (.ref p'), y2] ∧ H' = H) ⟨_, rfl, rfl⟩ ?_ ?_⟩⟩
      · rintro i σ' H' hi ⟨y2, rfl, rfl⟩
        have h1 : xs[i]? = some xs[i] := List.getElem?_eq_getElem (by omega)
        have h2 : ys[i]? = some ys[i] := List.getElem?_eq_getElem hi
        rw [Int.zero_add]
        refine ⟨_, rfl, _, rfl, .inl ⟨p, xs, i, xs[i], rfl, rfl, hx, atI_nat h1, ?_⟩⟩
        refine ⟨_, rfl, _, rfl, .inl ⟨p', ys, i, ys[i], rfl, rfl, hy, atI_nat h2, ?_⟩⟩
        exact ⟨_, _, rfl, r i _ _ h1 h2, _, rfl, _, rfl, rfl⟩
      · rintro σ' H' ⟨y2, rfl, rfl⟩
        exact q
    | @tup p p' xs ys hx hy l lt r =>
      refine ⟨_, rfl, rfl, _, rfl, iteF ?_⟩
      refine isit rfl (tyx_t hy) (b := false) (by decide +kernel) ?_
      refine isit rfl (tyx_t hx) (b := false) (by decide +kernel) ?_
      refine isit rfl (tyx_t hy) (b := false) (by decide +kernel) ?_
      refine isit rfl (tyx_t hy) (b := false) (by decide +kernel) ?_
      refine isit rfl (tyx_t hy) (b := false) (by decide +kernel) ?_
      refine isit rfl (tyx_t hx) (b := true) (by decide +kernel) ?_
      refine ⟨_, rfl, .inr ⟨p, xs, rfl, .inr hx, _, rfl, .inr ⟨p', ys, rfl, .inr hy, .inl ⟨rfl, _, rfl, ?_⟩⟩⟩⟩
      rw [l]
      refine iteNS rfl ?_
      refine ⟨_, rfl, .inr ⟨p', ys, rfl, .inr hy, _, rfl, by omega, by omega, for_range (lo := 0) (n := ys.length) (fun i σ' H' => ∃ y2, σ' = [some (.ref p), some (.ref p'), y2] ∧ H' = H) ⟨_, rfl, rfl⟩ ?_ ?_⟩⟩
      · rintro i σ' H' hi ⟨y2, rfl, rfl⟩
        have h1 : xs[i]? = some xs[i] := List.getElem?_eq_getElem (by omega)
        have h2 : ys[i]? = some ys[i] := List.getElem?_eq_getElem hi
        rw [Int.zero_add]
        refine ⟨_, rfl, _, rfl, .inr (.inl ⟨p, xs, i, xs[i], rfl, rfl, hx, atI_nat h1, ?_⟩)⟩
        refine ⟨_, rfl, _, rfl, .inr (.inl ⟨p', ys, i, ys[i], rfl, rfl, hy, atI_nat h2, ?_⟩)⟩
        exact ⟨_, _, rfl, r i _ _ h1 h2, _, rfl, _, rfl, rfl⟩
      · rintro σ' H' ⟨y2, rfl, rfl⟩
        exact q
theorem ok_alike (T : Top K mg a) : ∀ n, FnOk P w K mg base CX0 n a.f_l_alike a.d_l_alike ["_law_actual", "_law_due"] (spAl (Sm K n))
  | 0 => ⟨fun vs H Q E h => by
      obtain ⟨x, y, rfl, h, _⟩ := h
      exact h.elim, fun A outer s H args us vs Q E hr he hb hv h => by
      obtain ⟨x, y, rfl, h, _⟩ := h
      exact h.elim⟩
  | n + 1 => al_step T (ok_alike T n)
end
end K20

/-! the contracts of state, draw and alike over pure values -/
namespace K20
open PySem PySem.Spec PyProof.Rows L2 RN PL
/-! ### alike of equal data -/
theorem dps_le {K : PySem.W.Frag} {H : Hp} : ∀ {ds : List PyData} {xs : List V}, DpAll K H xs ds → xs.length = ds.length
  | [], _, h => by cases h; rfl
  | d :: ds, _, h => by
    cases h with
    | cons a b => rw [List.length_cons, List.length_cons, dps_le b]
mutual
theorem sm_dp {K : PySem.W.Frag} {H : Hp} : ∀ (d : PyData) (n : Nat) (x y : V), Dp K H x d → Dp K H y d → d.depth < n → wl d ≤ 1000000 → Sm K n H x y
  | _, 0, _, _, _, _, h, _ => absurd h (Nat.not_lt_zero _)
  | .none, n + 1, _, _, hx, hy, _, _ => by cases hx; cases hy; exact .non
  | .bool _, n + 1, _, _, hx, hy, _, _ => by cases hx; cases hy; exact .bl _
  | .int _, n + 1, _, _, hx, hy, _, _ => by cases hx; cases hy; exact .int _
  | .str _, n + 1, _, _, hx, hy, _, _ => by cases hx; cases hy; exact .str _
  | .list ds, n + 1, _, _, hx, hy, hd, hw => by
    cases hx with
    | lst hp ha =>
      cases hy with
      | lst hq hb =>
        have hd' : PyData.depthAll ds + 1 < n + 1 := hd
        have hw' : ds.length + wlAll ds ≤ 1000000 := hw
        obtain ⟨l1, f⟩ := sm_dps ds n _ _ ha hb (by omega) (by omega)
        exact .lst hp hq l1 (by rw [dps_le ha]; omega) f
  | .tuple ds, n + 1, _, _, hx, hy, hd, hw => by
    cases hx with
    | tup hp ha =>
      cases hy with
      | tup hq hb =>
        have hd' : PyData.depthAll ds + 1 < n + 1 := hd
        have hw' : ds.length + wlAll ds ≤ 1000000 := hw
        obtain ⟨l1, f⟩ := sm_dps ds n _ _ ha hb (by omega) (by omega)
        exact .tup hp hq l1 (by rw [dps_le ha]; omega) f
  | .dict _, n + 1, _, _, hx, _, _, _ => by cases hx
theorem sm_dps {K : PySem.W.Frag} {H : Hp} : ∀ (ds : List PyData) (n : Nat) (xs ys : List V), DpAll K H xs ds → DpAll K H ys ds → PyData.depthAll ds < n → wlAll ds ≤ 1000000 →
    xs.length = ys.length ∧ ∀ (i : Nat) x y, xs[i]? = some x → ys[i]? = some y → Sm K n H x y
  | [], _, _, _, ha, hb, _, _ => by cases ha; cases hb; exact ⟨rfl, fun i x y h => by simp at h⟩
  | d :: ds, n, _, _, ha, hb, hd, hw => by
    cases ha with
    | cons a1 a2 =>
      cases hb with
      | cons b1 b2 =>
        have hd' : max (PyData.depth d) (PyData.depthAll ds) < n := hd
        have hw' : wl d + wlAll ds ≤ 1000000 := hw
        obtain ⟨l1, f⟩ := sm_dps ds n _ _ a2 b2 (by omega) (by omega)
        refine ⟨by simp [l1], fun i x y hx hy => ?_⟩
        cases i with
        | zero => cases hx; cases hy; exact sm_dp d n _ _ a1 b1 (by omega) (by omega)
        | succ i => exact f i x y (by simpa using hx) (by simpa using hy)
end
section
variable {P : Program} {w : World} {K : PySem.W.Frag} {mg : Str → Option Value} {base : Heap} {a : Ad}
theorem gd_draw (T : Top K mg a) : FnOk P w K mg base CX0 1 a.f_l_draw a.d_l_draw ["_law_state_here", "_law_many"] (spP K drawF) := (ok_draw T).imp fun vs H Q E h => by
  obtain ⟨I, sa, ss, Pp, s0, g, ha, ⟨m, rfl, m0, m1, hf⟩, hq⟩ := h
  match vs, ha with
  | [v1, v2], ⟨a1, a2, _⟩ =>
    obtain ⟨p, rfl, rfl⟩ := a1
    cases a2
    obtain ⟨⟨sc, ns, i, b, s, l, h1, h2, h3⟩, ip⟩ := g p rfl
    have hne : sc ≠ p := fun z => by rw [z, ip] at h2; cases h2
    refine ⟨sc, p, m, rfl, ⟨ns, i, b, s, l, hne, h1, s0 _ _ h2, h3⟩, m0, m1, fun H' v k S v0 v1 => hq _ (hf v v0 v1) _ H' ⟨I, Same.refl _, fun b o e => k b o (fun z => by rw [z, ip] at e; cases e) (s0 _ _ e), fun b o n e => k b o (fun z => n (by rw [z])) e, fun b o e _ _ => e, fun q e => ?_, .int v⟩⟩
    cases e
    obtain ⟨ns', i', b', s', l', _, e1, e2, e3⟩ := S.ex
    exact ⟨sc, ns, i', b', s', l', e1, h2, e3⟩
def spState2 (K : PySem.W.Frag) : Sp := fun vs H Q _ => ∃ (p : Addr) (ns : List Int), vs = [.ref p] ∧ SqL K H p (ns.map V.int) ∧ ∀ H' st sc, H st = none → H sc = none → Same H H' → Sta sc H' st → H' sc = some (.lst (ns.map V.int)) → Q (.ref st) H'
theorem ok_state2 (T : Top K mg a) : FnOk P w K mg base CX0 1 a.f_l_state a.d_l_state ["_law_script"] (spState2 K) := by
  refine T.F_l_state.ok sc_l_state (fun vs H Q E h => ?_) (fun cdv A outer s H vs Q E hr h => ?_)
  · obtain ⟨st, m, rfl, _⟩ := h
    rfl
  · obtain ⟨p, ns, rfl, hS, q⟩ := h
    refine ⟨_, (pss_one (ps_ret (pe_lst (pa_cons (pe_callTy call_list_of (by rfl) T.z_list (by decide +kernel) (pa_cons (pv 0) pa_nil)) (pa_cons pe_int (pa_cons pe_int (pa_cons pe_int (pa_cons pe_int pa_nil)))))))), ?_⟩
    refine ⟨.ref p, rfl, p, _, rfl, .inl hS, fun sc nsc => ?_⟩
    refine ⟨by show 5 ≤ sizeLine; decide, fun st nst => ?_⟩
    have hne : sc ≠ st := fun e => by
      rw [← e, upd_same] at nst
      cases nst
    have n0 : H st = none := by
      rw [upd_ne (Ne.symm hne)] at nst
      exact nst
    have e1 : (upd (upd H sc (.lst (ns.map V.int))) st (.lst [.ref sc, .int 0, .int 0, .int 0, .int 0])) sc = some (.lst (ns.map V.int)) := by rw [upd_ne hne, upd_same]
    exact q _ st sc n0 nsc ((same_upd nsc).trans (same_upd nst)) ⟨ns, 0, 0, 0, 0, hne, upd_same, e1, by omega, by omega, by omega, by decide, by omega, by omega⟩ e1
theorem gd_state (T : Top K mg a) : FnOk P w K mg base CX0 1 a.f_l_state a.d_l_state ["_law_script"] (spP K stateF) := (ok_state2 T).imp fun vs H Q E h => by
  obtain ⟨I, sa, ss, Pp, s0, g, ha, ⟨ns, rfl, hf⟩, hq⟩ := h
  match vs, ha with
  | [v1], ⟨a1, _⟩ =>
    cases a1 with
    | @lst p ws _ hp hw =>
      have ew := PL.wa_ints hw (PL.ints_map ns)
      subst ew
      refine ⟨p, ns, rfl, SqL.of (s0 _ _ hp), fun H' st sc n0 n1 s1 S e1 => hq _ hf _ H' ⟨upd I sc (.lst (ns.map V.int)), sm_upd (free_of s0 n1), fun b o e => ?_, fun b o _ e => s1 _ _ e, fun b o e x _ => ?_, fun q e => ?_, st, rfl, n0, ?_, ?_⟩⟩
      · by_cases z : b = sc
        · rw [z, upd_same] at e; rw [z, e1, e]
        · rw [upd_ne z] at e; exact s1 _ _ (s0 _ _ e)
      · rw [upd_ne (fun z => by rw [z, n1] at x; cases x)]; exact e
      · obtain ⟨a, b⟩ := g q e
        obtain ⟨sc', ns', i, b', s, l, h1, h2, h3⟩ := a
        exact ⟨sc', ns', i, b', s, l, s1 _ _ h1, sm_upd (free_of s0 n1) _ _ h2, h3⟩
      · obtain ⟨ns', i, b, s, l, hne, h1, h2, h3⟩ := S.ex
        exact ⟨sc, ns, i, b, s, l, h1, upd_same, h3⟩
      · have hne : sc ≠ st := by obtain ⟨_, _, _, _, _, hne, _⟩ := S.ex; exact hne
        rw [upd_ne (Ne.symm hne)]
        exact free_of s0 n0
theorem gd_alike (T : Top K mg a) : FnOk P w K mg base CX0 30 a.f_l_alike a.d_l_alike ["_law_actual", "_law_due"] (spP K alikeF) := (ok_alike T 30).imp fun vs H Q E h => by
  obtain ⟨I, sa, ss, Pp, s0, g, ha, ⟨x, rfl, ⟨b1, b2⟩, hf⟩, hq⟩ := h
  match vs, ha with
  | [v1, v2], ⟨a1, a2, _⟩ =>
    exact ⟨v1, v2, rfl, sm_dp x 30 _ _ (W.mono s0 _ _ a1).dp (W.mono s0 _ _ a2).dp b1 b2, hq _ hf _ H ⟨I, Same.refl _, s0, fun _ _ _ e => e, fun _ _ e _ _ => e, fun p e => (g p e).1, .bl true⟩⟩
end
end K20

/-! blocks -/
namespace K20
open PySem PySem.Spec PyProof.Rows L2 RN PL
section
variable {P : Program} {w : World} {K : PySem.W.Frag} {mg : Str → Option Value} {base : Heap} {a : Ad}
def bofF : List SV → (SV → Prop) → Prop := fun ss P => ∃ (ys : List Str) (s : PyData) (ms : List PyData) (z : Str) (j : Nat) (m : PyData), ss = [.k (ys.map .str), .d (.tuple [s, .tuple ms]), .d (.str z)] ∧ ys[j]? = some z ∧ (∀ i, i < j → ys[i]? ≠ some z) ∧ ms[j]? = some m ∧ P (.d m)
theorem ok_bof (T : Top K mg a) : FnOk P w K mg base CX0 1 a.f_block_of a.d_block_of ["names", "cell", "name"] (spP K bofF) :=
  fn_p T.F_block_of sc_block_of (fun ss Pp ⟨_, _, _, _, _, _, e, _⟩ => by subst e; exact ⟨rfl, trivial⟩) fun cdv A outer s H E hr => ⟨_, _, (pss_one (ps_ret (pe_ix (R1.ix_seqK (K := K) rfl) (pe_ix (R1.ix_seqK (K := K) rfl) (pv 1) pe_int (fun _ _ => rfl)) (RT.pe_bmF PySem.F.slot_tuple_index PySem.F.type_tuple_index (RT.mt_tindex (K := K) rfl) (pv 0) (pa_cons (pv 2) pa_nil)) (fun _ _ => rfl)))),
    (PL.sim_ret (PL.sim_mv (PL.sim_val (PL.sim_ix (PL.sim_val (PL.sim_ix (PL.sim_var 1) PL.sim_int)) (PL.sim_tix (PL.sim_var 0) (PL.sim_dat (PL.sim_var 2))))))), fun ss Pp ⟨ys, s, ms, z, j, m, e, h1, h2, h3, h4⟩ => by
    subst e
    refine ⟨_, rfl, ys, j, strs_map ys, h1, h2, m, atI_nat h3, h4⟩⟩
end
end K20

/-! P10: what readings often need -/
namespace PL
open PySem PySem.Spec PyProof.Rows L2 RN
/-- a draw -/
theorem rd_draw {e : Env} {Q : SV → Env → Prop} (j : Nat) (m : Int) (c : ∀ v : Int, 0 ≤ v → v < m → Q (.d (.int v)) e) (h : gt e j = .st := by rfl) (m0 : 1 ≤ m := by decide) (m1 : m < 2 ^ 60 := by decide) : pCall drawF (plC (pArg (pVar j)) (plC (pArg (pE (pC (.int m)))) plN)) e Q := by
  show look j (gt e j) e _
  rw [h]
  simp only [look, argn, h]
  exact ⟨j, [.st, .d (.int m)], ⟨⟨rfl, h⟩, rfl, trivial⟩, m, rfl, m0, m1, c⟩
/-- x = draw(..) -/
theorem rd_dset {E : PEnds} {e : Env} {i : Nat} (j : Nat) (m : Int) (c : ∀ v : Int, 0 ≤ v → v < m → E.nx (e.set i (.d (.int v)))) (h : gt e j = .st := by rfl) (m0 : 1 ≤ m := by decide) (m1 : m < 2 ^ 60 := by decide) :
    pSet i (pM (pCall drawF (plC (pArg (pVar j)) (plC (pArg (pE (pC (.int m)))) plN)))) E e := rd_draw j m (fun v a b => c v a b) h m0 m1
/-- a comprehension whose rows leave the roots as they are: the row's test and value -/
theorem lc_map {vs : List Nat} {p : PAx} {f : PyData → Env → (Env → Prop) → Prop} {c : PTx} {q : PDx} {e e1 : Env} {Q : SV → Env → Prop} {xs : List PyData} (b : PyData → Bool) (m : PyData → PyData) (hl : xs.length ≤ 1000)
    (hs : ∀ x ∈ xs, ∀ P : Prop, ∀ P' : PyData → Prop, (b x = false → P) → (b x = true → P' (m x)) → f x (wipeE e1 vs) fun e2 => c e2 fun bb e3 => if bb = true then q e3 fun y e4 => wipeE e4 vs = wipeE e1 vs ∧ P' y else wipeE e3 vs = wipeE e1 vs ∧ P)
    (mono : ∀ (x : PyData) (A B : Env → Prop), (∀ e, A e → B e) → ∀ e, f x e A → f x e B) (monoc : ∀ (A B : Bool → Env → Prop), (∀ b e, A b e → B b e) → ∀ e, c e A → c e B) (monoq : ∀ (A B : PyData → Env → Prop), (∀ b e, A b e → B b e) → ∀ e, q e A → q e B)
    (hp : p e fun ys e2 => ys = xs ∧ e2 = e1) (monop : ∀ (A B : List PyData → Env → Prop), (∀ b e, A b e → B b e) → ∀ e, p e A → p e B) (hq : Q (.l ((xs.filter b).map m)) (wipeE e1 vs)) : pLc vs p f c q e Q := by
  refine monop _ _ (fun ys e2 ⟨h1, h2⟩ => ?_) e hp
  subst h1 h2
  refine ⟨fun i acc e' => e' = wipeE e2 vs ∧ acc = ((ys.take i).filter b).map m, ⟨rfl, rfl⟩, ?_, ?_⟩
  · rintro i x acc e' hx ⟨rfl, rfl⟩
    have hm := List.mem_of_getElem? hx
    have et : ys.take (i + 1) = ys.take i ++ [x] := by rw [List.take_add_one, hx]; rfl
    have la : (((ys.take i).filter b).map m).length < 1000 := by
      rw [List.length_map]
      have h1 := List.length_filter_le b (ys.take i)
      have h2 : i < ys.length := (List.getElem?_eq_some_iff.mp hx).1
      rw [List.length_take] at h1
      omega
    refine mono x _ _ (fun e4 h4 => ?_) _ (hs x hm (b x = false) (fun y => b x = true ∧ y = m x) id fun z => ⟨z, rfl⟩)
    refine monoc _ _ (fun bb e5 h5 => ?_) _ h4
    cases bb with
    | true =>
      refine monoq _ _ (fun y e6 h6 => ?_) _ h5
      obtain ⟨a1, a2, rfl⟩ := h6
      refine ⟨la, a1, ?_⟩
      rw [et, List.filter_append, List.map_append]
      simp [a2]
    | false =>
      obtain ⟨a1, a2⟩ := h5
      refine ⟨a1, ?_⟩
      rw [et, List.filter_append, List.map_append]
      simp [a2]
  · rintro acc e' ⟨rfl, rfl⟩
    rw [List.take_length]; exact hq
/-! ### texts sorted -/
theorem strs_srt (nm : List Str) : PySem.W.AllAlike (nm.map .str) ∧ PySem.W.Sortable (nm.map .str) ∧ R0.DepLe 60 (nm.map .str) := by
  refine ⟨fun d hd d' hd' => ?_, .inr fun d hd => ?_, fun d hd => ?_⟩
  · obtain ⟨x, _, rfl⟩ := List.mem_map.mp hd
    obtain ⟨y, _, rfl⟩ := List.mem_map.mp hd'
    rfl
  · obtain ⟨x, _, rfl⟩ := List.mem_map.mp hd
    exact ⟨fun z => (by cases z), fun xs z => (by cases z)⟩
  · obtain ⟨x, _, rfl⟩ := List.mem_map.mp hd
    exact Nat.zero_le _
theorem map_of {α : Type} (f : α → PyData) (l : List PyData) (h : ∀ d ∈ l, ∃ x, d = f x) : ∃ xs : List α, l = xs.map f := by
  induction l with
  | nil => exact ⟨[], rfl⟩
  | cons d l ih =>
    obtain ⟨x, rfl⟩ := h d List.mem_cons_self
    obtain ⟨xs, rfl⟩ := ih fun y hy => h y (List.mem_cons_of_mem _ hy)
    exact ⟨x :: xs, rfl⟩
theorem sortD_perm (xs : List PyData) : (sortD xs).Perm xs := List.mergeSort_perm _ _
theorem sortD_strs (nm : List Str) : ∃ nm' : List Str, sortD (nm.map .str) = nm'.map .str ∧ nm'.length = nm.length := by
  obtain ⟨nm', h⟩ := map_of PyData.str (sortD (nm.map .str)) fun d hd => by
    obtain ⟨x, _, rfl⟩ := List.mem_map.mp ((sortD_perm _).mem_iff.mp hd)
    exact ⟨x, rfl⟩
  refine ⟨nm', h, ?_⟩
  have := (sortD_perm (nm.map PyData.str)).length_eq
  rw [h, List.length_map, List.length_map] at this
  exact this
end PL

/-! names -/
namespace K20
open PySem PySem.Spec PyProof.Rows L2 RN PL
section
variable {P : Program} {w : World} {K : PySem.W.Frag} {mg : Str → Option Value} {base : Heap} {a : Ad}
def namesF : List SV → (SV → Prop) → Prop := fun ss P => ∃ n : Nat, ss = [.st, .d (.int (n : Int))] ∧ n ≤ 3 ∧ ∀ nm : List Str, nm.length = n → P (.k (nm.map .str))
theorem ok_names (T : Top K mg a) (G_l_draw : FnOk P w K mg base CX0 1 a.f_l_draw a.d_l_draw ["_law_state_here", "_law_many"] (spP K drawF)) : FnOk P w K mg base CX0 2 a.f_l_names a.d_l_names ["_law_state_here", "_law_count"] (spP K namesF) :=
  fn_p T.F_l_names sc_l_names (fun ss Pp ⟨n, e, _⟩ => by subst e; exact ⟨rfl, fun s hs => by rw [List.mem_singleton.mp hs]; rfl⟩) fun cdv A outer s H E hr => ⟨_, _, (pss_cons (ps_set (i := 2) sc_l_names.nd rfl (.inl rfl) (pe_call G_l_draw (hr.mono (by decide)) (by rfl) T.m_l_draw T.F_l_draw.kp T.b_l_draw .nil pass0 (pa_cons (pv 0) (pa_cons pe_int pa_nil))))
    (pss_cons (ps_set (i := 3) sc_l_names.nd rfl (.inr rfl) (pe_call G_l_draw (hr.mono (by decide)) (by rfl) T.m_l_draw T.F_l_draw.kp T.b_l_draw .nil pass0 (pa_cons (pv 0) (pa_cons pe_int pa_nil))))
    (pss_cons (ps_set (i := 4) sc_l_names.nd rfl (.inr rfl) (pe_lst (pa_cons pe_str (pa_cons pe_str (pa_cons pe_str pa_nil)))))
    (C8.pss_cut (ps_if (pt_cmpR (OpR.or op_eq (PL.op_eqDK (K := K) hr.units rfl)) (pv 2) pe_int (nomark _))
    (pss_one (ps_set (i := 4) sc_l_names.nd rfl (.inr rfl) (pe_lst (pa_cons (pe_op (OpR.or op_add (OpR.or op_add_str (OpR.or op_cat (PL.op_catAK (K := K) rfl)))) pe_str (pe_callTy call_str_int (by rfl) T.z_str (by decide +kernel) (pa_cons (pv 3) pa_nil))) (pa_cons (pe_op (OpR.or op_add (OpR.or op_add_str (OpR.or op_cat (PL.op_catAK (K := K) rfl)))) pe_str (pe_callTy call_str_int (by rfl) T.z_str (by decide +kernel) (pa_cons (pe_op (OpR.or op_add (OpR.or op_add_str (OpR.or op_cat (PL.op_catAK (K := K) rfl)))) (pv 3) pe_int) pa_nil))) (pa_cons pe_str pa_nil))))))
    (pss_one (ps_if (pt_cmpR (OpR.or op_eq (PL.op_eqDK (K := K) hr.units rfl)) (pv 2) pe_int (nomark _))
    (pss_one (ps_set (i := 4) sc_l_names.nd rfl (.inr rfl) (pe_lst (pa_cons pe_str (pa_cons pe_str (pa_cons pe_str pa_nil))))))
    (pss_one (ps_if (pt_cmpR (OpR.or op_eq (PL.op_eqDK (K := K) hr.units rfl)) (pv 2) pe_int (nomark _))
    (pss_one (ps_set (i := 4) sc_l_names.nd rfl (.inr rfl) (pe_lst (pa_cons pe_str (pa_cons (pe_op (OpR.or op_add (OpR.or op_add_str (OpR.or op_cat (PL.op_catAK (K := K) rfl)))) pe_str (pe_callTy call_str_int (by rfl) T.z_str (by decide +kernel) (pa_cons (pv 3) pa_nil))) (pa_cons (pe_op (OpR.or op_add (OpR.or op_add_str (OpR.or op_cat (PL.op_catAK (K := K) rfl)))) (pe_op (OpR.or op_add (OpR.or op_add_str (OpR.or op_cat (PL.op_catAK (K := K) rfl)))) pe_str (pe_callTy call_str_int (by rfl) T.z_str (by decide +kernel) (pa_cons (pv 3) pa_nil))) pe_str) pa_nil))))))
    pss_nil)))))
    (pss_one (ps_ret (pe_callTy RN.call_tupleF (by rfl) T.z_tuple (by decide +kernel) (pa_cons (pe_callB (R0.cr_sortD hr.units) (by rfl) T.z_sorted (by decide +kernel) (pa_cons (pe_lc (own := [("_law_k", 5)]) rfl sc_l_names.nd (pi_range1 (by rfl) T.z_range (pa_cons (pv 1) pa_nil)) (blkOk_by (own := [("_law_k", 5)]) (N := ["_law_state_here", "_law_count", "_law_style", "_law_at", "_law_names_here", "_law_k"]) (sc := defScope s_l_names) (by decide +kernel)) (fun _ _ _ _ _ => (pg_name (i := 5) sc_l_names.nd rfl (.inl rfl))) (fun _ _ _ _ _ => pts_nil) (fun _ _ _ _ _ => (pe_ix (R1.ix_seqK (K := K) rfl) (pv 4) (pe_op op_mod (pe_callTy call_int1 (by rfl) T.z_int (by decide +kernel) (pa_cons (pe_op (OpR.or op_add (OpR.or op_add_str (OpR.or op_cat (PL.op_catAK (K := K) rfl)))) (pv 5) (pv 3)) pa_nil)) pe_int) (fun _ _ => rfl)))) pa_nil)) pa_nil)))))))),
    (PL.sim_seq (PL.sim_set 2 (PL.sim_mv (PL.sim_call (PL.sim_lC (PL.sim_arg (PL.sim_var 0)) (PL.sim_lC (PL.sim_arg (PL.sim_val PL.sim_int)) PL.sim_lN)))))
    (PL.sim_seq (PL.sim_set 3 (PL.sim_mv (PL.sim_call (PL.sim_lC (PL.sim_arg (PL.sim_var 0)) (PL.sim_lC (PL.sim_arg (PL.sim_val PL.sim_int)) PL.sim_lN)))))
    (PL.sim_seq (PL.sim_set 4 (PL.sim_mv (PL.sim_lst (PL.sim_cons PL.sim_str (PL.sim_cons PL.sim_str (PL.sim_cons PL.sim_str PL.sim_nil))))))
    (PL.sim_cut (PL.sim_if (PL.sim_test (PL.sim_dat (PL.sim_op PL.rule_eq (PL.sim_dat (PL.sim_var 2)) PL.sim_int)))
    (PL.sim_set 4 (PL.sim_mv (PL.sim_lst (PL.sim_cons (PL.sim_dat (PL.sim_op PL.rule_add PL.sim_str (PL.sim_dat (PL.sim_u PL.rule_toStr (PL.sim_dat (PL.sim_var 3)))))) (PL.sim_cons (PL.sim_dat (PL.sim_op PL.rule_add PL.sim_str (PL.sim_dat (PL.sim_u PL.rule_toStr (PL.sim_dat (PL.sim_op PL.rule_add (PL.sim_dat (PL.sim_var 3)) PL.sim_int)))))) (PL.sim_cons PL.sim_str PL.sim_nil))))))
    (PL.sim_if (PL.sim_test (PL.sim_dat (PL.sim_op PL.rule_eq (PL.sim_dat (PL.sim_var 2)) PL.sim_int)))
    (PL.sim_set 4 (PL.sim_mv (PL.sim_lst (PL.sim_cons PL.sim_str (PL.sim_cons PL.sim_str (PL.sim_cons PL.sim_str PL.sim_nil))))))
    (PL.sim_if (PL.sim_test (PL.sim_dat (PL.sim_op PL.rule_eq (PL.sim_dat (PL.sim_var 2)) PL.sim_int)))
    (PL.sim_set 4 (PL.sim_mv (PL.sim_lst (PL.sim_cons PL.sim_str (PL.sim_cons (PL.sim_dat (PL.sim_op PL.rule_add PL.sim_str (PL.sim_dat (PL.sim_u PL.rule_toStr (PL.sim_dat (PL.sim_var 3)))))) (PL.sim_cons (PL.sim_dat (PL.sim_op PL.rule_add (PL.sim_dat (PL.sim_op PL.rule_add PL.sim_str (PL.sim_dat (PL.sim_u PL.rule_toStr (PL.sim_dat (PL.sim_var 3)))))) PL.sim_str)) PL.sim_nil))))))
    PL.sim_next)))
    (PL.sim_ret (PL.sim_mv (PL.sim_rdL PL.rd_tup (PL.sim_rdL PL.rd_sort (PL.sim_lc (PL.sim_rg1 (PL.sim_cons (PL.sim_dat (PL.sim_var 1)) PL.sim_nil)) (PL.sim_gN 5) PL.sim_yes (PL.sim_ix (PL.sim_var 4) (PL.sim_dat (PL.sim_op PL.rule_mod (PL.sim_dat (PL.sim_u PL.rule_toInt (PL.sim_dat (PL.sim_op PL.rule_add (PL.sim_dat (PL.sim_var 5)) (PL.sim_dat (PL.sim_var 3)))))) PL.sim_int))) (by decide)))))))))), fun ss Pp ⟨n, e, hn, q⟩ => by
    subst e
    refine rd_dset 0 4 fun v1 a0 a1 => ?_
    dsimp only
    refine rd_dset 0 9 fun v2 b0 b1 => ?_
    obtain ⟨l9, l10, t1, t2, t3, t4, t5⟩ : v2.natAbs.log2 < 1920 ∧ (v2 + 10).natAbs.log2 < 1920 ∧ ("a" : Str).length + (toString v2 : Str).length ≤ sizeLine ∧ ("a" : Str).length + (toString (v2 + 10) : Str).length ≤ sizeLine ∧ ("z" : Str).length + (toString v2 : Str).length ≤ sizeLine ∧ ("h" : Str).length + (toString v2 : Str).length ≤ sizeLine ∧ (("h" : Str) ++ (toString v2 : Str)).length + ("00" : Str).length ≤ sizeLine := by
      obtain ⟨m, hm, rfl⟩ : ∃ m : Nat, m < 9 ∧ v2 = (m : Int) := ⟨v2.toNat, by omega, by omega⟩
      have : ∀ m : Fin 9, (((m : Nat) : Int)).natAbs.log2 < 1920 ∧ (((m : Nat) : Int) + 10).natAbs.log2 < 1920 ∧ ("a" : Str).length + (toString ((m : Nat) : Int) : Str).length ≤ sizeLine ∧ ("a" : Str).length + (toString (((m : Nat) : Int) + 10) : Str).length ≤ sizeLine ∧ ("z" : Str).length + (toString ((m : Nat) : Int) : Str).length ≤ sizeLine ∧ ("h" : Str).length + (toString ((m : Nat) : Int) : Str).length ≤ sizeLine ∧ (("h" : Str) ++ (toString ((m : Nat) : Int) : Str)).length + ("00" : Str).length ≤ sizeLine := by decide +kernel
      exact this ⟨m, hm⟩
    refine ⟨by decide, fun e' => ∃ s2 s3 l3, e' = [.st, .d (.int (n : Int)), s2, .d (.int v2), .l ((l3 : List Str).map .str), s3] ∧ l3.length = 3, ?_, ?_⟩
    · have fin : ∀ x y z : Str, ∃ s2 s3 l3, ([.st, .d (.int (n : Int)), .d (.int v1), .d (.int v2), .l [.str x, .str y, .str z], .u] : PL.Env) = [.st, .d (.int (n : Int)), s2, .d (.int v2), .l ((l3 : List Str).map .str), s3] ∧ l3.length = 3 := fun x y z => ⟨_, _, [x, y, z], rfl, rfl⟩
      refine ite2 (fun _ => ⟨l9, t1, l10, t2, (by show 3 ≤ 1000; decide), fin _ _ _⟩) fun _ => ite2 (fun _ => ⟨by decide, fin _ _ _⟩) fun _ => ite2 (fun _ => ⟨l9, t3, l9, t4, t5, (by show 3 ≤ 1000; decide), fin _ _ _⟩) fun _ => fin _ _ _
    · rintro e' ⟨s2, s3, l3, rfl, h3⟩
      refine ⟨by omega, by omega, fun i acc e' => e' = [.st, .d (.int (n : Int)), s2, .d (.int v2), .l (l3.map .str), .u] ∧ ∃ ns : List Str, acc = ns.map .str ∧ ns.length = i, ⟨rfl, [], rfl, rfl⟩, ?_, ?_⟩
      · rintro i x acc e' hx ⟨rfl, ns, rfl, hl⟩
        have hi : i < n := by
          have := (List.getElem?_eq_some_iff.mp hx).1
          rw [rng_len] at this; omega
        rw [rng_at (by omega)] at hx
        cases hx
        refine ⟨(by show (0 : Int) < 3; decide), ?_⟩
        have h0 : 0 ≤ (0 + (i : Int) + v2) % 3 := Int.emod_nonneg _ (by decide)
        have h1 : (0 + (i : Int) + v2) % 3 < 3 := Int.emod_lt_of_pos _ (by decide)
        obtain ⟨j, hj⟩ : ∃ j : Nat, (0 + (i : Int) + v2) % 3 = (j : Int) := ⟨((0 + (i : Int) + v2) % 3).toNat, by omega⟩
        have hj3 : j < l3.length := by omega
        refine ⟨.str l3[j], ?_, ?_, rfl, ns ++ [l3[j]], ?_, ?_⟩
        · rw [hj]; exact atI_nat (by rw [List.getElem?_map, List.getElem?_eq_getElem hj3]; rfl)
        · rw [List.length_map]; omega
        · rw [List.map_append]; rfl
        · rw [List.length_append, hl]; rfl
      · rintro acc e' ⟨rfl, ns, rfl, hl⟩
        obtain ⟨nm, e1, e2⟩ := sortD_strs ns
        obtain ⟨c1, c2, c3⟩ := strs_srt ns
        refine ⟨c1, c2, c3, ?_⟩
        show Pp (.k (sortD (ns.map .str)))
        rw [e1]
        refine q nm ?_
        rw [e2, hl, rng_len]; omega⟩
end
end K20

/-! kinds of blocks and colors of blocks: the mathematics -/
namespace K21
open PySem L2
def rowsB {α : Type} (ks : List α) : Nat → List (List α)
  | 0 => [[]]
  | n + 1 => (rowsB ks n).flatMap fun r => ks.map fun k => r ++ [k]
theorem rowsB_mem {α : Type} {ks : List α} : ∀ {n : Nat} {r : List α}, r ∈ rowsB ks n → r.length = n ∧ ∀ k ∈ r, k ∈ ks
  | 0, r, h => by
    rw [List.mem_singleton.mp h]
    exact ⟨rfl, fun k hk => nomatch hk⟩
  | n + 1, r, h => by
    obtain ⟨q, hq, hr⟩ := List.mem_flatMap.mp h
    obtain ⟨k, hk, rfl⟩ := List.mem_map.mp hr
    obtain ⟨a, b⟩ := rowsB_mem hq
    refine ⟨by simp [a], fun j hj => ?_⟩
    rcases List.mem_append.mp hj with z | z
    · exact b j z
    · rw [List.mem_singleton.mp z]; exact hk
theorem flat_len {α β : Type} (f : α → List β) (c : Nat) : ∀ (l : List α), (∀ x ∈ l, (f x).length = c) → (l.flatMap f).length = l.length * c
  | [], _ => by simp
  | x :: l, h => by
    rw [List.flatMap_cons, List.length_append, h x List.mem_cons_self, flat_len f c l fun y hy => h y (List.mem_cons_of_mem _ hy), List.length_cons, Nat.add_mul]
    omega
theorem rowsB_len {α : Type} (ks : List α) : ∀ n, (rowsB ks n).length = ks.length ^ n
  | 0 => rfl
  | n + 1 => by
    show ((rowsB ks n).flatMap fun r => ks.map fun k => r ++ [k]).length = _
    rw [flat_len _ ks.length _ fun r _ => by simp, rowsB_len ks n, Nat.pow_succ]
theorem rowsB_small {α : Type} {ks : List α} (h : ks.length ≤ 3) {n : Nat} (hn : n ≤ 3) : (rowsB ks n).length ≤ 27 := by
  rw [rowsB_len]
  calc ks.length ^ n ≤ 3 ^ n := Nat.pow_le_pow_left h n
    _ ≤ 3 ^ 3 := Nat.pow_le_pow_right (by omega) hn
    _ = 27 := rfl
theorem rowsB_map {α β : Type} (f : α → β) (ks : List α) : ∀ n, rowsB (ks.map f) n = (rowsB ks n).map (List.map f)
  | 0 => rfl
  | n + 1 => by
    show ((rowsB (ks.map f) n).flatMap fun r => (ks.map f).map fun k => r ++ [k]) = ((rowsB ks n).flatMap fun r => ks.map fun k => r ++ [k]).map (List.map f)
    rw [rowsB_map f ks n, List.flatMap_map, List.map_flatMap]
    congr 1
    funext r
    rw [List.map_map, List.map_map]
    congr 1
    funext k
    simp
theorem rowsB_pos {α : Type} {ks : List α} (h : 0 < ks.length) : ∀ n, 0 < (rowsB ks n).length := fun n => by
  rw [rowsB_len]; exact Nat.pow_pos h
/-! ### kinds within their counts -/
abbrev KR := List (Str × Int)
def fitB (own : List Str) (p : Str × Int) : Bool := decide (p.2 = 0) || decide (((own.count p.1 : Nat) : Int) < p.2)
def fillS (rows : KR) : Nat → List (List Str)
  | 0 => [[]]
  | n + 1 => (fillS rows n).flatMap fun own => (rows.filter (fitB own)).map fun p => own ++ [p.1]
def capB (own : List Str) (p : Str × Int) : Bool := !(decide (0 < p.2) && decide (p.2 < ((own.count p.1 : Nat) : Int)))
def capOk (rows : KR) (own : List Str) : Bool := rows.all (capB own)
theorem nodup_inj {α β : Type} (f : α → β) : ∀ {l : List α}, (l.map f).Nodup → ∀ x ∈ l, ∀ y ∈ l, f x = f y → x = y
  | [], _, x, hx, _, _, _ => nomatch hx
  | z :: l, h, x, hx, y, hy, e => by
    rw [List.map_cons, List.nodup_cons] at h
    rcases List.mem_cons.mp hx with ex | hx1
    · rcases List.mem_cons.mp hy with ey | hy1
      · rw [ex, ey]
      · rw [ex] at e
        exact absurd (e ▸ List.mem_map_of_mem hy1) h.1
    · rcases List.mem_cons.mp hy with ey | hy1
      · rw [ey] at e
        exact absurd (e ▸ List.mem_map_of_mem hx1) h.1
      · exact nodup_inj f h.2 x hx1 y hy1 e
theorem capB_mono {own : List Str} {k : Str} {p : Str × Int} (h : capB own p = false) : capB (own ++ [k]) p = false := by
  unfold capB at h ⊢
  rw [Bool.not_eq_false', Bool.and_eq_true, decide_eq_true_eq, decide_eq_true_eq] at h ⊢
  refine ⟨h.1, ?_⟩
  have : own.count p.1 ≤ (own ++ [k]).count p.1 := by rw [List.count_append]; omega
  omega
theorem cap_step {rows : KR} (nd : (rows.map Prod.fst).Nodup) (nn : ∀ p ∈ rows, 0 ≤ p.2) {own : List Str} (h : capOk rows own = true) {p : Str × Int} (hp : p ∈ rows) : capOk rows (own ++ [p.1]) = fitB own p := by
  unfold capOk at h ⊢
  have h1 := List.all_eq_true.mp h
  have c1 : (own ++ [p.1]).count p.1 = own.count p.1 + 1 := by rw [List.count_append]; simp
  have n0 := nn p hp
  rw [Bool.eq_iff_iff, List.all_eq_true]
  constructor
  · intro g
    have gp := g p hp
    unfold capB at gp
    unfold fitB
    rw [c1] at gp
    rw [Bool.or_eq_true, decide_eq_true_eq, decide_eq_true_eq]
    rw [Bool.not_eq_true', Bool.and_eq_false_iff, decide_eq_false_iff_not, decide_eq_false_iff_not] at gp
    omega
  · intro g q hq
    by_cases e : q.1 = p.1
    · have : q = p := nodup_inj Prod.fst nd q hq p hp e
      subst this
      unfold capB
      unfold fitB at g
      rw [c1]
      rw [Bool.or_eq_true, decide_eq_true_eq, decide_eq_true_eq] at g
      rw [Bool.not_eq_true', Bool.and_eq_false_iff, decide_eq_false_iff_not, decide_eq_false_iff_not]
      omega
    · have c2 : (own ++ [p.1]).count q.1 = own.count q.1 := by
        rw [List.count_append, List.count_singleton]
        have : (p.1 == q.1) = false := by
          rw [beq_eq_false_iff_ne]; exact fun z => e z.symm
        simp [this]
      have := h1 q hq
      unfold capB at this ⊢
      rw [c2]; exact this
theorem filter_flat {α β : Type} (c : α → Bool) (f : α → List β) : ∀ l : List α, (l.filter c).flatMap f = l.flatMap fun r => if c r = true then f r else []
  | [] => rfl
  | x :: l => by
    rw [List.filter_cons, List.flatMap_cons]
    by_cases e : c x = true
    · rw [if_pos e, if_pos e, List.flatMap_cons, filter_flat c f l]
    · rw [if_neg e, if_neg e, filter_flat c f l]; rfl
theorem flat_filter {α β : Type} (c : β → Bool) (f : α → List β) : ∀ l : List α, (l.flatMap f).filter c = l.flatMap fun r => (f r).filter c
  | [] => rfl
  | x :: l => by rw [List.flatMap_cons, List.filter_append, flat_filter c f l, List.flatMap_cons]
theorem filter_map' {α β : Type} (c : β → Bool) (f : α → β) (d : α → Bool) : ∀ l : List α, (∀ x ∈ l, c (f x) = d x) → (l.map f).filter c = (l.filter d).map f
  | [], _ => rfl
  | x :: l, h => by
    have ih := filter_map' c f d l fun y hy => h y (List.mem_cons_of_mem _ hy)
    rw [List.map_cons, List.filter_cons, List.filter_cons, h x List.mem_cons_self]
    by_cases e : d x = true
    · rw [if_pos e, if_pos e, List.map_cons, ih]
    · rw [if_neg e, if_neg e, ih]
theorem fill_eq {rows : KR} (nd : (rows.map Prod.fst).Nodup) (nn : ∀ p ∈ rows, 0 ≤ p.2) : ∀ n, fillS rows n = (rowsB (rows.map Prod.fst) n).filter (capOk rows)
  | 0 => by
    have e : capOk rows [] = true := List.all_eq_true.mpr fun p hp => by
      have := nn p hp
      unfold capB
      rw [Bool.not_eq_true', Bool.and_eq_false_iff, decide_eq_false_iff_not, decide_eq_false_iff_not]
      simp
      omega
    show [[]] = List.filter (capOk rows) [[]]
    rw [List.filter_cons, if_pos e]; rfl
  | n + 1 => by
    show ((fillS rows n).flatMap fun own => (rows.filter (fitB own)).map fun p => own ++ [p.1]) = ((rowsB (rows.map Prod.fst) n).flatMap fun r => (rows.map Prod.fst).map fun k => r ++ [k]).filter (capOk rows)
    rw [fill_eq nd nn n, filter_flat, flat_filter]
    congr 1
    funext r
    rw [List.map_map]
    by_cases e : capOk rows r = true
    · rw [if_pos e]
      exact (filter_map' (capOk rows) _ (fitB r) rows fun p hp => cap_step nd nn e hp).symm
    · rw [if_neg e]
      symm
      rw [List.filter_eq_nil_iff]
      intro x hx
      obtain ⟨p, hp, rfl⟩ := List.mem_map.mp hx
      have e2 : capOk rows r = false := Bool.eq_false_iff.mpr e
      unfold capOk at e2
      rw [List.all_eq_false] at e2
      obtain ⟨q, hq, hc⟩ := e2
      have hc2 : capB r q = false := Bool.eq_false_iff.mpr hc
      intro z
      have := List.all_eq_true.mp z q hq
      rw [show ((fun k => r ++ [k]) ∘ Prod.fst) p = r ++ [p.1] from rfl, capB_mono hc2] at this
      cases this
/-- the size that a kinds card asks for -/
def ksz (rows : KR) : Int := if rows.any (fun p => decide (p.2 = 0)) = true then 3 else (rows.map Prod.snd).sum
/-! ### marks and cells -/
def ivals (ms : List Nat) : List Int := ms.map fun (n : Nat) => (n : Int)
def nvals (ms : List Nat) : List V := ms.map fun (n : Nat) => V.int (n : Int)
theorem nvals_i (ms : List Nat) : nvals ms = (ivals ms).map V.int := by
  unfold nvals ivals; rw [List.map_map]; rfl
def blk (ms : List Nat) : Nat := (R0.maxL (-1) (ivals ms) + 1).toNat
def nextP (ms : List Nat) : List (List Nat) := (List.range (blk ms + 1)).map fun m => ms ++ [m]
def parts : Nat → List (List Nat)
  | 0 => [[]]
  | n + 1 => (parts n).flatMap nextP
structure MkOk (n : Nat) (ms : List Nat) : Prop where
  len : ms.length = n
  le : blk ms ≤ 3
  lt : ∀ m ∈ ms, m < blk ms
  ds : (R1.dist (ivals ms)).length = blk ms
  mx : R0.maxL (-1) (ivals ms) + 1 = (blk ms : Int)
def mkB (n : Nat) (ms : List Nat) : Bool := decide (ms.length = n) && decide (blk ms ≤ 3) && ms.all (fun m => decide (m < blk ms)) && decide ((R1.dist (ivals ms)).length = blk ms) && decide (R0.maxL (-1) (ivals ms) + 1 = (blk ms : Int))
theorem mkB_ok {n : Nat} {ms : List Nat} (h : mkB n ms = true) : MkOk n ms := by
  unfold mkB at h
  simp only [Bool.and_eq_true, decide_eq_true_eq, List.all_eq_true] at h
  exact ⟨h.1.1.1.1, h.1.1.1.2, h.1.1.2, h.1.2, h.2⟩
theorem parts_all : (List.range 4).all (fun k => decide ((parts k).length ≤ 5) && (parts k).all (mkB k)) = true := by decide +kernel
theorem parts_ok {n : Nat} (h : n ≤ 3) : (parts n).length ≤ 5 ∧ ∀ r ∈ parts n, MkOk n r := by
  have := List.all_eq_true.mp parts_all n (List.mem_range.mpr (by omega))
  rw [Bool.and_eq_true] at this
  exact ⟨of_decide_eq_true this.1, fun r hr => mkB_ok (List.all_eq_true.mp this.2 r hr)⟩
def cellsS (ps : List (List Nat)) (s : Nat) : List (Nat × List Nat) := (ps.filter fun ms => decide (blk ms ≤ s)).map fun ms => (s, ms)
def cellsN (n : Nat) : List (Nat × List Nat) := ([1, 2, 3] : List Nat).flatMap (cellsS (parts n))
theorem cellsS_len (ps : List (List Nat)) (s : Nat) : (cellsS ps s).length ≤ ps.length := by
  unfold cellsS; rw [List.length_map]; exact List.length_filter_le _ _
theorem cells_all : (List.range 4).all (fun k => decide (0 < (cellsN k).length) && decide ((cellsN k).length ≤ 15) && (cellsN k).all fun c => mkB k c.2) = true := by decide +kernel
theorem cells_ok {n : Nat} (h : n ≤ 3) : 0 < (cellsN n).length ∧ (cellsN n).length ≤ 15 ∧ ∀ c ∈ cellsN n, MkOk n c.2 := by
  have := List.all_eq_true.mp cells_all n (List.mem_range.mpr (by omega))
  rw [Bool.and_eq_true, Bool.and_eq_true] at this
  exact ⟨of_decide_eq_true this.1.1, of_decide_eq_true this.1.2, fun r hr => mkB_ok (List.all_eq_true.mp this.2 r hr)⟩
/-! ### where a name stands -/
def ixS : List Str → Str → Nat
  | [], _ => 0
  | y :: ys, z => if y = z then 0 else ixS ys z + 1
theorem ixS_get {z : Str} : ∀ {ys : List Str}, z ∈ ys → ys[ixS ys z]? = some z ∧ ∀ m, m < ixS ys z → ys[m]? ≠ some z
  | [], h => nomatch h
  | y :: ys, h => by
    by_cases e : y = z
    · subst e
      rw [show ixS (y :: ys) y = 0 from if_pos rfl]
      exact ⟨rfl, fun m hm => absurd hm (Nat.not_lt_zero _)⟩
    · have hz : z ∈ ys := (List.mem_cons.mp h).elim (fun q => absurd q.symm e) id
      obtain ⟨a, b⟩ := ixS_get hz
      rw [show ixS (y :: ys) z = ixS ys z + 1 from if_neg e]
      refine ⟨by simpa using a, fun m hm => ?_⟩
      cases m with
      | zero => intro q; exact e (Option.some.inj q)
      | succ m =>
        intro q
        exact b m (by omega) (by simpa using q)
/-- the block of a name -/
def bk (nm : List Str) (ms : List Nat) (z : Str) : Nat := ms.getD (ixS nm z) 0
theorem bk_get {n : Nat} {nm : List Str} {ms : List Nat} (h : MkOk n ms) (l : nm.length = n) {z : Str} (hz : z ∈ nm) : ms[ixS nm z]? = some (bk nm ms z) ∧ bk nm ms z < blk ms := by
  obtain ⟨a, _⟩ := ixS_get hz
  have hi : ixS nm z < ms.length := by
    rw [h.len, ← l]
    exact (List.getElem?_eq_some_iff.mp a).1
  have e : ms[ixS nm z]? = some (bk nm ms z) := by
    unfold bk
    rw [List.getD_eq_getElem?_getD, List.getElem?_eq_getElem hi]; rfl
  exact ⟨e, h.lt _ (List.mem_of_getElem? e)⟩
/-! ### what holds -/
def kT (nm : List Str) (ms : List Nat) (own : List Str) (z k : Str) : Bool := decide (own[bk nm ms z]? = some k)
def rT (c : Int) (nm : List Str) (ms : List Nat) (own : List Int) (x y : Str) (s : Int) : Bool := decide ((own.getD (bk nm ms x) 0 + s) % c = own.getD (bk nm ms y) 0)
structure KL where
  o : Str
  z : Str
  k : Str
  b : Bool
structure RL where
  o : Str
  x : Str
  y : Str
  s : Int
  b : Bool
def KL.holds (nm : List Str) (ms : List Nat) (own : List Str) (l : KL) : Bool := kT nm ms own l.z l.k == l.b
def RL.holds (c : Int) (nm : List Str) (ms : List Nat) (own : List Int) (l : RL) : Bool := rT c nm ms own l.x l.y l.s == l.b
/-- all own parts -/
def kParts (rows : KR) (s : Nat) (ms : List Nat) : List (List Str) := (rowsB (rows.map Prod.fst) (blk ms)).filter fun own => capOk rows own && decide ((s : Int) = ksz rows)
def rParts (c : Nat) (ms : List Nat) : List (List Int) := rowsB ((List.range c).map fun (i : Nat) => (i : Int)) (blk ms)
theorem kParts_eq {rows : KR} (nd : (rows.map Prod.fst).Nodup) (nn : ∀ p ∈ rows, 0 ≤ p.2) (s : Nat) (ms : List Nat) (f : List Str → Bool) : (if (s : Int) = ksz rows then (fillS rows (blk ms)).filter f else []) = (kParts rows s ms).filter f := by
  unfold kParts
  by_cases e : (s : Int) = ksz rows
  · rw [if_pos e, fill_eq nd nn]
    congr 1
    exact List.filter_congr fun x _ => by simp [e]
  · rw [if_neg e]
    have : (rowsB (rows.map Prod.fst) (blk ms)).filter (fun own => capOk rows own && decide ((s : Int) = ksz rows)) = [] := by
      rw [List.filter_eq_nil_iff]; intro x _; simp [e]
    rw [this]; rfl
end K21

/-! marks, cells -/
namespace K20
open PySem PySem.Spec PyProof.Rows L2 RN PL K21
def eM (ms : List Nat) : PyData := .tuple ((ivals ms).map .int)
def eC (c : Nat × List Nat) : PyData := .tuple [.int (c.1 : Int), eM c.2]
theorem flat_snoc {α β : Type} {l : List α} {i : Nat} {x : α} (f : α → List β) (h : l[i]? = some x) : (l.take (i + 1)).flatMap f = (l.take i).flatMap f ++ f x := by
  rw [List.take_add_one, h, List.flatMap_append]
  show _ ++ ((f x) ++ []) = _
  rw [List.append_nil]
theorem flat_take {α β : Type} (f : α → List β) : ∀ (l : List α) (i : Nat), ((l.take i).flatMap f).length ≤ (l.flatMap f).length
  | [], i => by simp
  | x :: l, 0 => by simp
  | x :: l, i + 1 => by
    rw [List.take_succ_cons, List.flatMap_cons, List.flatMap_cons, List.length_append, List.length_append]
    have := flat_take f l i
    omega
theorem map_at {α : Type} {f : α → PyData} {l : List α} {i : Nat} {x : PyData} (h : (l.map f)[i]? = some x) : ∃ y, l[i]? = some y ∧ x = f y := by
  rw [List.getElem?_map] at h
  cases e : l[i]? with
  | none => rw [e] at h; cases h
  | some y => rw [e] at h; cases h; exact ⟨y, rfl, rfl⟩
theorem iv_len (ms : List Nat) : (ivals ms).length = ms.length := by unfold ivals; rw [List.length_map]
section
variable {P : Program} {w : World} {K : PySem.W.Frag} {mg : Str → Option Value} {base : Heap} {a : Ad}
def marksF : List SV → (SV → Prop) → Prop := fun ss P => ∃ n : Nat, ss = [.d (.int (n : Int))] ∧ n ≤ 3 ∧ P (.l ((parts n).map eM))
theorem ok_marks (T : Top K mg a) : FnOk P w K mg base CX0 1 a.f_l_marks a.d_l_marks ["_law_count"] (spP K marksF) :=
  fn_p T.F_l_marks sc_l_marks (fun ss Pp ⟨n, e, _⟩ => by subst e; exact ⟨rfl, trivial⟩) fun cdv A outer s H E hr => ⟨_, _, (pss_cons (ps_set (i := 1) sc_l_marks.nd rfl (.inl rfl) (pe_lst (pa_cons (pe_tup pa_nil) pa_nil)))
    (pss_cons (ps_for PassesOwn.never rfl (pi_range1 (by rfl) T.z_range (pa_cons (pv 0) pa_nil)) (pg_name (i := 2) sc_l_marks.nd rfl (.inl rfl))
    (pss_cons (ps_set (i := 3) sc_l_marks.nd rfl (.inl rfl) (pe_lst pa_nil))
    (pss_cons (ps_for PassesOwn.never rfl (R1.pi_listK (K := K) rfl (pe_callTy (R1.list_ofK (K := K) rfl) (by rfl) T.z_list (by decide +kernel) (pa_cons (pv 1) pa_nil))) (pg_name (i := 4) sc_l_marks.nd rfl (.inl rfl))
    (pss_one (ps_for PassesOwn.never rfl (pi_range1 (by rfl) T.z_range (pa_cons (pe_op (OpR.or op_add (OpR.or op_add_str (OpR.or op_cat (PL.op_catAK (K := K) rfl)))) (R1.pe_lenSetX rfl (by rfl) T.z_len (by rfl) T.z_set (pv 4)) pe_int) pa_nil)) (pg_name (i := 5) sc_l_marks.nd rfl (.inl rfl))
    (pss_one (ps_expr (pe_bm PySem.F.plainAttrs_list PySem.F.slot_list_append PySem.F.type_list_append mt_append (pv 3) (pa_cons (pe_op (OpR.or op_add (OpR.or op_add_str (OpR.or op_cat (PL.op_catAK (K := K) rfl)))) (pv 4) (pe_tup (pa_cons (pv 5) pa_nil))) pa_nil)))))))
    (pss_one (ps_set (i := 1) sc_l_marks.nd rfl (.inl rfl) (pv 3))))))
    (pss_one (ps_ret (pv 1))))),
    (PL.sim_seq (PL.sim_set 1 (PL.sim_mv (PL.sim_lst (PL.sim_cons (PL.sim_tup PL.sim_nil) PL.sim_nil))))
    (PL.sim_seq (PL.sim_for (PL.sim_rg1 (PL.sim_cons (PL.sim_dat (PL.sim_var 0)) PL.sim_nil)) (PL.sim_gN 2)
    (PL.sim_seq (PL.sim_set 3 (PL.sim_mv (PL.sim_lst PL.sim_nil)))
    (PL.sim_seq (PL.sim_for (PL.sim_itL (PL.sim_dat (PL.sim_rd PL.rd_list (PL.sim_var 1)))) (PL.sim_gN 4)
    (PL.sim_for (PL.sim_rg1 (PL.sim_cons (PL.sim_dat (PL.sim_op PL.rule_add (PL.sim_lenSet (PL.sim_var 4)) PL.sim_int)) PL.sim_nil)) (PL.sim_gN 5)
    (PL.sim_drop (PL.sim_app (PL.sim_var 3) (PL.sim_dat (PL.sim_op PL.rule_add (PL.sim_dat (PL.sim_var 4)) (PL.sim_tup (PL.sim_cons (PL.sim_dat (PL.sim_var 5)) PL.sim_nil))))))))
    (PL.sim_set 1 (PL.sim_mv (PL.sim_var 3))))))
    (PL.sim_ret (PL.sim_mv (PL.sim_var 1))))), fun ss Pp ⟨n, e, hn, q⟩ => by
    subst e
    refine ⟨Nat.zero_le _, (by show 1 ≤ 1000; decide), by omega, by omega, fun i e' => ∃ s2 s3 s4 s5, e' = [.d (.int (n : Int)), .l ((parts i).map eM), s2, s3, s4, s5], ⟨_, _, _, _, rfl⟩, ?_, ?_⟩
    · rintro i x e' hx ⟨s2, s3, s4, s5, rfl⟩
      have hi : i < n := by
        have := (List.getElem?_eq_some_iff.mp hx).1
        rw [rng_len] at this; omega
      rw [rng_at (by omega)] at hx
      cases hx
      have b1 := (parts_ok (show i ≤ 3 by omega)).2
      have b2 := (parts_ok (show i + 1 ≤ 3 by omega)).1
      refine ⟨Nat.zero_le _, fun u e' => ∃ s4 s5, e' = [.d (.int (n : Int)), .l ((parts i).map eM), .d (.int (0 + (i : Int))), .l ((((parts i).take u).flatMap nextP).map eM), s4, s5], ⟨_, _, rfl⟩, ?_, ?_⟩
      · rintro u x e' hx ⟨s4, s5, rfl⟩
        obtain ⟨ms, hms, rfl⟩ := map_at hx
        have mo := b1 ms (List.mem_of_getElem? hms)
        have ln : ((parts i).take (u + 1)).flatMap nextP = ((parts i).take u).flatMap nextP ++ nextP ms := flat_snoc nextP hms
        have l2 : (((parts i).take u).flatMap nextP).length ≤ 5 := Nat.le_trans (flat_take nextP (parts i) u) b2
        have d3 := mo.le
        refine ⟨ivals ms, ints_map _, by rw [iv_len, mo.len]; omega, by rw [mo.ds]; omega, by rw [mo.ds]; omega, fun v e' => ∃ s5, e' = [.d (.int (n : Int)), .l ((parts i).map eM), .d (.int (0 + (i : Int))), .l ((((parts i).take u).flatMap nextP ++ ((List.range (blk ms + 1)).take v).map fun m => ms ++ [m]).map eM), .d (eM ms), s5], ⟨s5, by
          simp only [List.take_zero, List.map_nil, List.append_nil]; rfl⟩, ?_, ?_⟩
        · rintro v x e' hx ⟨s5, rfl⟩
          have hv : v < blk ms + 1 := by
            have := (List.getElem?_eq_some_iff.mp hx).1
            rw [rng_len, mo.ds] at this; omega
          rw [rng_at (by rw [mo.ds]; omega)] at hx
          cases hx
          refine ⟨by show 1 ≤ 1000; decide, ?_, ?_, .d (.int (0 + (v : Int))), ?_⟩
          · rw [List.length_map, iv_len, mo.len]; show i + 1 ≤ 1000; omega
          · rw [List.length_map, List.length_append, List.length_map, List.length_take, List.length_range]; omega
          · have rv : (List.range (blk ms + 1)).take (v + 1) = (List.range (blk ms + 1)).take v ++ [v] := by
              rw [List.take_add_one, List.getElem?_range hv]; rfl
            have hk : (((parts i).take u).flatMap nextP ++ ((List.range (blk ms + 1)).take v).map fun m => ms ++ [m]).map eM ++ [PyData.tuple ((ivals ms).map .int ++ [.int (0 + (v : Int))])] = (((parts i).take u).flatMap nextP ++ ((List.range (blk ms + 1)).take (v + 1)).map fun m => ms ++ [m]).map eM := by
              rw [rv]; simp [eM, ivals]
            rw [← hk]; rfl
        · rintro e' ⟨s5, rfl⟩
          refine ⟨.d (eM ms), s5, ?_⟩
          have el : (rng 0 (((R1.dist (ivals ms)).length : Int) + 1).toNat).length = blk ms + 1 := by rw [rng_len, mo.ds]; omega
          rw [el, show (List.range (blk ms + 1)).take (blk ms + 1) = List.range (blk ms + 1) from List.take_of_length_le (by simp), ln]
          rfl
      · rintro e' ⟨s4, s5, rfl⟩
        refine ⟨.d (.int (0 + (i : Int))), .u, s4, s5, ?_⟩
        have el : ((parts i).map eM).length = (parts i).length := List.length_map _
        rw [el, List.take_length]
        rfl
    · rintro e' ⟨s2, s3, s4, s5, rfl⟩
      have el : (rng 0 ((n : Int)).toNat).length = n := by rw [rng_len]; omega
      rw [el]
      exact q⟩
def cellsF : List SV → (SV → Prop) → Prop := fun ss P => ∃ n : Nat, ss = [.d (.int (n : Int))] ∧ n ≤ 3 ∧ P (.l ((cellsN n).map eC))
theorem ok_cells (T : Top K mg a) (G_l_marks : FnOk P w K mg base CX0 1 a.f_l_marks a.d_l_marks ["_law_count"] (spP K marksF)) : FnOk P w K mg base CX0 2 a.f_l_cells a.d_l_cells ["_law_count"] (spP K cellsF) :=
  fn_p T.F_l_cells sc_l_cells (fun ss Pp ⟨n, e, _⟩ => by subst e; exact ⟨rfl, trivial⟩) fun cdv A outer s H E hr => ⟨_, _, (pss_cons (ps_set (i := 1) sc_l_cells.nd rfl (.inl rfl) (pe_lst pa_nil))
    (pss_cons (ps_for PassesOwn.never rfl (pi_range2 (by rfl) T.z_range (pa_cons pe_int (pa_cons pe_int pa_nil))) (pg_name (i := 2) sc_l_cells.nd rfl (.inl rfl))
    (pss_one (ps_for PassesOwn.never rfl (R1.pi_listK (K := K) rfl (pe_call G_l_marks (hr.mono (by decide)) (by rfl) T.m_l_marks T.F_l_marks.kp T.b_l_marks .nil pass0 (pa_cons (pv 0) pa_nil))) (pg_name (i := 3) sc_l_cells.nd rfl (.inl rfl))
    (pss_one (ps_if (PW.pt (pw_or (pt_cmpR (OpR.or op_eq (PL.op_eqDK (K := K) hr.units rfl)) (pv 2) pe_int (nomark _)) (pw_or1 (pt_cmpR op_le (R1.pe_lenSetX rfl (by rfl) T.z_len (by rfl) T.z_set (pv 3)) (pv 2) (nomark _)))))
    (pss_one (ps_expr (pe_bm PySem.F.plainAttrs_list PySem.F.slot_list_append PySem.F.type_list_append mt_append (pv 1) (pa_cons (pe_tup (pa_cons (pv 2) (pa_cons (pv 3) pa_nil))) pa_nil))))
    pss_nil)))))
    (pss_one (ps_ret (pv 1))))),
    (PL.sim_seq (PL.sim_set 1 (PL.sim_mv (PL.sim_lst PL.sim_nil)))
    (PL.sim_seq (PL.sim_for (PL.sim_rg2 (PL.sim_cons PL.sim_int (PL.sim_cons PL.sim_int PL.sim_nil))) (PL.sim_gN 2)
    (PL.sim_for (PL.sim_itL (PL.sim_dat (PL.sim_call (PL.sim_lC (PL.sim_arg (PL.sim_var 0)) PL.sim_lN)))) (PL.sim_gN 3)
    (PL.sim_if (PL.sim_or (PL.sim_test (PL.sim_dat (PL.sim_op PL.rule_eq (PL.sim_dat (PL.sim_var 2)) PL.sim_int))) (PL.sim_test (PL.sim_dat (PL.sim_op PL.rule_le (PL.sim_lenSet (PL.sim_var 3)) (PL.sim_dat (PL.sim_var 2))))))
    (PL.sim_drop (PL.sim_app (PL.sim_var 1) (PL.sim_tup (PL.sim_cons (PL.sim_dat (PL.sim_var 2)) (PL.sim_cons (PL.sim_dat (PL.sim_var 3)) PL.sim_nil)))))
    PL.sim_next)))
    (PL.sim_ret (PL.sim_mv (PL.sim_var 1))))), fun ss Pp ⟨n, e, hn, q⟩ => by
    subst e
    obtain ⟨b2, b1⟩ := parts_ok hn
    refine ⟨Nat.zero_le _, by decide, fun i e' => ∃ s2 s3, e' = [.d (.int (n : Int)), .l ((([1, 2, 3] : List Nat).take i).flatMap (cellsS (parts n)) |>.map eC), s2, s3], ⟨_, _, rfl⟩, ?_, ?_⟩
    · rintro i x e' hx ⟨s2, s3, rfl⟩
      have hi3 : i < 3 := by
        have := (List.getElem?_eq_some_iff.mp hx).1
        rw [rng_len] at this; exact this
      have hx : (rng 1 3)[i]? = some x := hx
      rw [rng_at hi3] at hx
      cases hx
      have h3 : ([1, 2, 3] : List Nat)[i]? = some (i + 1) := by
        rcases (by omega : i = 0 ∨ i = 1 ∨ i = 2) with rfl | rfl | rfl <;> rfl
      have ei : (1 : Int) + (i : Int) = ((i + 1 : Nat) : Int) := by omega
      rw [ei]
      have ln : (([1, 2, 3] : List Nat).take (i + 1)).flatMap (cellsS (parts n)) = (([1, 2, 3] : List Nat).take i).flatMap (cellsS (parts n)) ++ cellsS (parts n) (i + 1) := flat_snoc _ h3
      have l3 : ((([1, 2, 3] : List Nat).take i).flatMap (cellsS (parts n))).length ≤ 15 := by
        refine Nat.le_trans (flat_take _ _ i) ?_
        have e1 := cellsS_len (parts n) 1
        have e2 := cellsS_len (parts n) 2
        have e3 := cellsS_len (parts n) 3
        simp only [List.flatMap_cons, List.flatMap_nil, List.length_append, List.append_nil]
        omega
      refine ⟨0, [.d (.int (n : Int))], ⟨rfl, trivial⟩, n, rfl, hn, fun v e' => ∃ s3, e' = [.d (.int (n : Int)), .l (((([1, 2, 3] : List Nat).take i).flatMap (cellsS (parts n)) ++ cellsS ((parts n).take v) (i + 1)).map eC), .d (.int ((i + 1 : Nat) : Int)), s3], ⟨_, by rw [show cellsS ((parts n).take 0) (i + 1) = [] from rfl, List.append_nil]; rfl⟩, ?_, ?_⟩
      · rintro v x e' hx ⟨s3, rfl⟩
        obtain ⟨ms, hms, rfl⟩ := map_at hx
        have mo := b1 ms (List.mem_of_getElem? hms)
        have et : (parts n).take (v + 1) = (parts n).take v ++ [ms] := by rw [List.take_add_one, hms]; rfl
        have ec : cellsS ((parts n).take (v + 1)) (i + 1) = cellsS ((parts n).take v) (i + 1) ++ if blk ms ≤ i + 1 then [(i + 1, ms)] else [] := by
          unfold cellsS
          rw [et, List.filter_append, List.map_append]
          congr 1
          by_cases h : blk ms ≤ i + 1 <;> simp [h]
        have la : (((([1, 2, 3] : List Nat).take i).flatMap (cellsS (parts n)) ++ cellsS ((parts n).take v) (i + 1)).map eC).length < 1000 := by
          have e1 := cellsS_len ((parts n).take v) (i + 1)
          rw [List.length_take] at e1
          rw [List.length_map, List.length_append]; omega
        have d3 := mo.le
        dsimp only
        rw [ec]
        have yes : blk ms ≤ i + 1 → ∃ s3, ([.d (.int (n : Int)), .l (((([1, 2, 3] : List Nat).take i).flatMap (cellsS (parts n)) ++ cellsS ((parts n).take v) (i + 1)).map eC ++ [eC (i + 1, ms)]), .d (.int ((i + 1 : Nat) : Int)), .d (eM ms)] : PL.Env) = [.d (.int (n : Int)), .l (((([1, 2, 3] : List Nat).take i).flatMap (cellsS (parts n)) ++ (cellsS ((parts n).take v) (i + 1) ++ if blk ms ≤ i + 1 then [(i + 1, ms)] else [])).map eC), .d (.int ((i + 1 : Nat) : Int)), s3] := fun h => ⟨_, by
          rw [if_pos h, ← List.append_assoc, List.map_append (l₁ := _ ++ _)]; rfl⟩
        have no : ¬ blk ms ≤ i + 1 → ∃ s3, ([.d (.int (n : Int)), .l (((([1, 2, 3] : List Nat).take i).flatMap (cellsS (parts n)) ++ cellsS ((parts n).take v) (i + 1)).map eC), .d (.int ((i + 1 : Nat) : Int)), .d (eM ms)] : PL.Env) = [.d (.int (n : Int)), .l (((([1, 2, 3] : List Nat).take i).flatMap (cellsS (parts n)) ++ (cellsS ((parts n).take v) (i + 1) ++ if blk ms ≤ i + 1 then [(i + 1, ms)] else [])).map eC), .d (.int ((i + 1 : Nat) : Int)), s3] := fun h => ⟨_, by
          rw [if_neg h, List.append_nil]⟩
        refine ite2 (fun h => ?_) (fun h => ?_)
        · have h : i + 1 = 3 := by have := of_decide_eq_true h; omega
          exact ⟨by show 2 ≤ 1000; decide, la, yes (by omega)⟩
        · refine ⟨ivals ms, ints_map _, by rw [iv_len, mo.len]; omega, ite2 (fun h => ?_) (fun h => ?_)⟩
          · have h := of_decide_eq_true h
            rw [mo.ds] at h
            exact ⟨by show 2 ≤ 1000; decide, la, yes (by omega)⟩
          · have h := of_decide_eq_false (Bool.eq_false_iff.mpr h)
            rw [mo.ds] at h
            exact no (by omega)
      · rintro e' ⟨s3, rfl⟩
        have el : ((parts n).map eM).length = (parts n).length := List.length_map _
        refine ⟨.d (.int ((i + 1 : Nat) : Int)), s3, ?_⟩
        rw [el, List.take_length, ln]
    · rintro e' ⟨s2, s3, rfl⟩
      exact q⟩
end
end K20

/-! R36: sets whose items are tuples of nested data (texts, numbers, tuples), by their keys. -/
namespace RG
open PySem PySem.Spec PyProof.Rows L2
section
variable {P : Program} {w : World} {A : Around} {E : Value → Shared → Prop} {s : Shared}
abbrev NK (P : Program) (w : World) : HeapKind P w NestedKey := nestedKind P w

/-! ### two questions that a set asks of an item -/
/-- a run that only looks and ends with a value of which p holds -/
def Looks (P : Program) (w : World) (s : Shared) (m : Sem Bool) (p : Bool → Prop) : Prop :=
  ∀ (A : Around) (E : Value → Shared → Prop) (Q : Bool → Shared → Prop), (∀ b, p b → Q b s) → wpAny (model P w) A m Q E s
theorem Looks.pure {b : Bool} {p : Bool → Prop} (h : p b) : Looks P w s (pure b) p := fun _ _ _ q => wpAny_pure (q b h)
theorem looks_class_seq {n : Nat} {b : Addr} {o : Obj} {vs : Array Value} {m : Nat} (ho : s.heap.get? b = some o) (hc : o.cls = .type "tuple") (hd : o.data = .seq vs m)
    (each : ∀ v ∈ vs.toList, Looks P w s (ofAClassStatement n v) (· = false)) : Looks P w s (ofAClassStatement (n + 1) (.ref b)) (· = false) := fun A E Q q => by
  have ty : s.TypeIs (.ref b) "tuple" := ⟨o, ho, hc⟩
  unfold ofAClassStatement
  refine wpAny_bind (wpAny_typeOf ty ?_)
  have yes : (("tuple" : String) == "tuple") = true := by decide
  simp only [yes, if_true, Bool.not_true, Bool.false_eq_true, if_false]
  try refine wpAny_bind (wpAny_pure ?_)
  try simp only [Bool.not_true, Bool.false_eq_true, if_false]
  refine wpAny_bind (m := seqItems? (.ref b)) (wpAny_seqItems ho hd ?_)
  dsimp only
  refine wpAny_bind ?_
  show wpAny _ _ (forIn vs _ _) _ _ s
  rw [← Array.forIn_toList]
  refine wpAny_forIn_list _ (fun left r z => z = s ∧ r.1 = none ∧ ∀ v ∈ left, Looks P w s (ofAClassStatement n v) (· = false)) _ ?_ ?_ _ _ ⟨rfl, rfl, each⟩
  · intro v left r z hh
    obtain ⟨rfl, _, hl⟩ := hh
    refine wpAny_bind (hl v (.head _) _ _ _ fun b hb => ?_)
    subst hb
    simp only [Bool.false_eq_true, if_false]
    exact wpAny_pure ⟨rfl, rfl, fun u hm => hl u (.tail _ hm)⟩
  · intro r z hh
    obtain ⟨r1, r2⟩ := r
    obtain ⟨rfl, hr, _⟩ := hh
    simp only at hr
    subst hr
    exact wpAny_pure (q false rfl)
theorem looks_hash_seq {n : Nat} {b : Addr} {o : Obj} {vs : Array Value} {m : Nat} (ho : s.heap.get? b = some o) (hc : o.cls = .type "tuple") (hd : o.data = .seq vs m)
    (each : ∀ v ∈ vs.toList, Looks P w s (hashByValue n v) fun _ => True) : Looks P w s (hashByValue (n + 1) (.ref b)) fun _ => True := fun A E Q q => by
  have ty : s.TypeIs (.ref b) "tuple" := ⟨o, ho, hc⟩
  unfold hashByValue
  refine wpAny_bind (wpAny_specialOf ty F.slot_tuple_hash.lookup ?_)
  refine wpAny_bind (m := seqItems? (.ref b)) (wpAny_seqItems ho hd ?_)
  refine wpAny_bind ?_
  show wpAny _ _ (forIn vs _ _) _ _ s
  rw [← Array.forIn_toList]
  refine wpAny_forIn_list _ (fun left r z => z = s ∧ r.1 = none ∧ ∀ v ∈ left, Looks P w s (hashByValue n v) fun _ => True) _ ?_ ?_ _ _ ⟨rfl, rfl, each⟩
  · intro v left r z hh
    obtain ⟨rfl, _, hl⟩ := hh
    refine wpAny_bind (hl v (.head _) _ _ _ fun b _ => ?_)
    cases b
    · simp only [Bool.not_false, if_true]
      refine wpAny_pure ?_
      exact wpAny_pure (q false trivial)
    · simp only [Bool.not_true, Bool.false_eq_true, if_false]
      exact wpAny_pure ⟨rfl, rfl, fun u hm => hl u (.tail _ hm)⟩
  · intro r z hh
    obtain ⟨r1, r2⟩ := r
    obtain ⟨rfl, hr, _⟩ := hh
    simp only at hr
    subst hr
    exact wpAny_pure (q true trivial)
mutual
theorem class_key : ∀ (k : NestedKey) (v : Value) (n : Nat), NestedIs s.heap k v → k.depth ≤ n → Looks P w s (ofAClassStatement n v) (· = false)
  | .none, _, n, .none, _ => by cases n <;> exact .pure rfl
  | .num _, _, n, .bool _, _ => by cases n <;> exact .pure rfl
  | .num _, _, n, .int _ _, _ => by cases n <;> exact .pure rfl
  | .text _, _, n, .text _ _, _ => by cases n <;> exact .pure rfl
  | .tup _, _, 0, .tup _ _ _ _, le => by simp only [NestedKey.depth] at le; omega
  | .tup ks, _, n + 1, .tup ho hc hd al, le => looks_class_seq ho hc hd (class_keys ks _ n al (by simp only [NestedKey.depth] at le; omega))
theorem class_keys : ∀ (ks : List NestedKey) (vs : List Value) (n : Nat), NestedAll s.heap ks vs → NestedKey.depthAll ks ≤ n → ∀ v ∈ vs, Looks P w s (ofAClassStatement n v) (· = false)
  | [], _, _, .nil, _, _, hm => nomatch hm
  | k :: ks, _, n, .cons a r, le, v, hm => by
    simp only [NestedKey.depthAll] at le
    rcases List.mem_cons.mp hm with rfl | hm
    · exact class_key k _ n a (by omega)
    · exact class_keys ks _ n r (by omega) v hm
end
mutual
theorem hash_key : ∀ (k : NestedKey) (v : Value) (n : Nat), NestedIs s.heap k v → k.depth ≤ n → Looks P w s (hashByValue n v) fun _ => True
  | .none, _, n, .none, _ => by cases n <;> exact .pure trivial
  | .num _, _, n, .bool _, _ => by cases n <;> exact .pure trivial
  | .num _, _, n, .int _ _, _ => by cases n <;> exact .pure trivial
  | .text _, _, n, .text _ _, _ => by cases n <;> exact .pure trivial
  | .tup _, _, 0, .tup _ _ _ _, le => by simp only [NestedKey.depth] at le; omega
  | .tup ks, _, n + 1, .tup ho hc hd al, le => looks_hash_seq ho hc hd (hash_keys ks _ n al (by simp only [NestedKey.depth] at le; omega))
theorem hash_keys : ∀ (ks : List NestedKey) (vs : List Value) (n : Nat), NestedAll s.heap ks vs → NestedKey.depthAll ks ≤ n → ∀ v ∈ vs, Looks P w s (hashByValue n v) fun _ => True
  | [], _, _, .nil, _, _, hm => nomatch hm
  | k :: ks, _, n, .cons a r, le, v, hm => by
    simp only [NestedKey.depthAll] at le
    rcases List.mem_cons.mp hm with rfl | hm
    · exact hash_key k _ n a (by omega)
    · exact hash_keys ks _ n r (by omega) v hm
end
/-- the object at b is the key k -/
abbrev At (P : Program) (w : World) (h : Heap) (k : NestedKey) (b : Addr) : Prop := (NK P w).is h k b
/-- a search among such items isn't seen -/
theorem unseen {k : NestedKey} {b : Addr} (hk : At P w s.heap k b) {ys : List Value} (hy : ∀ y ∈ ys, ∃ j c, y = Value.ref c ∧ At P w s.heap j c) : Looks P w s (searchCouldBeSeen (.ref b) ys) (· = false) := fun A E Q q => by
  unfold searchCouldBeSeen
  refine wpAny_bind ?_
  refine wpAny_forIn_list _ (fun left r z => z = s ∧ r.1 = none ∧ ∀ y ∈ left, ∃ j c, y = Value.ref c ∧ At P w s.heap j c) _ ?_ ?_ _ _ ⟨rfl, rfl, hy⟩
  · intro y left r z hh
    obtain ⟨rfl, _, hl⟩ := hh
    obtain ⟨j, c, rfl, hj⟩ := hl y (.head _)
    have more : ∀ u ∈ left, ∃ j c, u = Value.ref c ∧ At P w z.heap j c := fun u hm => hl u (.tail _ hm)
    dsimp only
    split
    · exact wpAny_pure ⟨rfl, rfl, more⟩
    · refine wpAny_bind ((NK P w).quiet hk ?_)
      simp only [Bool.not_true, Bool.false_eq_true, if_false]
      refine wpAny_bind ((NK P w).quiet hj ?_)
      simp only [Bool.not_true, Bool.false_eq_true, if_false]
      refine wpAny_bind (class_key k _ 8 hk.1 hk.2 _ _ _ fun b0 h0 => ?_)
      subst h0
      simp only [Bool.false_eq_true, if_false]
      refine wpAny_bind (class_key j _ 8 hj.1 hj.2 _ _ _ fun b0 h0 => ?_)
      subst h0
      simp only [Bool.false_eq_true, if_false]
      exact wpAny_pure ⟨rfl, rfl, more⟩
  · intro r z hh
    obtain ⟨r1, r2⟩ := r
    obtain ⟨rfl, hr, _⟩ := hh
    simp only at hr
    subst hr
    exact wpAny_pure (q false rfl)
end
end RG

/-! R37: the search in such a set. -/
namespace RG
open PySem PySem.Spec PyProof.Rows L2
section
variable {P : Program} {w : World} {A : Around} {E : Value → Shared → Prop} {s : Shared}
abbrev Item := NestedKey × Addr
/-- an item's row in the table of the set -/
def row (w : World) (p : Item) : Int × Value := (p.1.hash w, .ref p.2)
def hashes (w : World) (L : List Item) : List Int := L.map fun p => p.1.hash w
/-- the set at a: its items L in the table's order -/
structure Pool (P : Program) (w : World) (h : Heap) (a : Addr) (L : List Item) (es : Array (Int × Value)) (ep : Nat) (t : SetTable) : Prop where
  obj : ∃ o, h.get? a = some o ∧ o.ExactSet ∧ o.data = .set es ep t
  rows : es.toList = L.map (row w)
  tab : TabOk t (hashes w L)
  apart : (L.map (·.1)).Nodup
  at_ : ∀ p ∈ L, At P w h p.1 p.2
  order : w.params.followText "set-order" = true ∨ t.led = true
  loose : L.length * 5 < t.mask * 3
  short : L.length < 64
variable {a : Addr} {L : List Item} {es : Array (Int × Value)} {ep : Nat} {t : SetTable}
theorem Pool.count (R : Pool P w s.heap a L es ep t) : es.size = L.length := by
  rw [← Array.length_toList, R.rows, List.length_map]
theorem Pool.spots (R : Pool P w s.heap a L es ep t) : t.place.size = L.length := by
  rw [R.tab.sz]; exact List.length_map ..
theorem Pool.fit (R : Pool P w s.heap a L es ep t) : t.fits es.size = true := by
  have c := R.count; have z := R.spots; have l := R.loose
  simp only [SetTable.fits, SetTable.fill, R.tab.dm, Bool.and_eq_true, beq_iff_eq, decide_eq_true_eq]
  refine ⟨by omega, ?_⟩
  show t.place.size + 0 ≤ t.mask
  omega
theorem Pool.stands (R : Pool P w s.heap a L es ep t) {i : Nat} {p : Item} (h : L[i]? = some p) : es[i]? = some (row w p) := by
  rw [← Array.getElem?_toList, R.rows, List.getElem?_map, h]; rfl
theorem Pool.sound (R : Pool P w s.heap a L es ep t) : ¬ t.gaveWay = true := by
  simp only [SetTable.gaveWay, mask_odd R.tab.mok]
  decide
/-- the c-th state of the search for the hash h -/
abbrev stage (m : Nat) (h : Int) (c : Nat) : SetTable.Probe := nth m (runAt m (SetTable.bits h % (m + 1)) (SetTable.bits h)) c
theorem stage_add (m : Nat) (h : Int) (c q : Nat) : nth m (stage m h c) q = stage m h (c + q) := (nth_add m c _ q).symm
theorem stage_way (m : Nat) (h : Int) (c q : Nat) : (nth m (stage m h c) q).j = way m h (c + q) := congrArg SetTable.Probe.j (stage_add m h c q)
theorem clear_nth (m : Nat) : ∀ (n : Nat) (p : SetTable.Probe), p.dummy = none → (nth m p n).dummy = none
  | 0, _, h => h
  | n + 1, p, h => clear_nth m n (adv m p) (by unfold adv; split <;> exact h)
/-- what a probe from the c-th state on finds: K is the first free place -/
theorem probes (R : Pool P w s.heap a L es ep t) (h : Int) {K : Nat} (hK : way t.mask h K ∉ t.place.toList) (hb : ∀ c, c < K → way t.mask h c ∈ t.place.toList) (hf : K < 10 * SetTable.turns t.mask) {c : Nat} (hc : c ≤ K) :
    (∃ (q i : Nat) (p : Item), c + q < K ∧ L[i]? = some p ∧ t.place.toList[i]? = some (way t.mask h (c + q)) ∧ (∀ (c' i' : Nat) (p' : Item), c ≤ c' → c' < c + q → L[i']? = some p' → t.place.toList[i']? = some (way t.mask h c') → p'.1.hash w ≠ h) ∧
      t.probe (fun i => (es[i]?.map (·.1)).getD 0) h (stage t.mask h c) = some (.candidate (way t.mask h (c + q)) i (stage t.mask h (c + q + 1)))) ∨
    ((∀ (c' i' : Nat) (p' : Item), c ≤ c' → c' < K → L[i']? = some p' → t.place.toList[i']? = some (way t.mask h c') → p'.1.hash w ≠ h) ∧
      t.probe (fun i => (es[i]?.map (·.1)).getD 0) h (stage t.mask h c) = some (.empty (way t.mask h K) none)) := by
  have hash_of : ∀ {i : Nat} {p : Item}, L[i]? = some p → (es[i]?.map (·.1)).getD 0 = p.1.hash w := fun hp => by rw [R.stands hp]; rfl
  have go := go_spec t R.tab.ris R.tab.dm (fun i => (es[i]?.map (·.1)).getD 0) h (10 * SetTable.turns t.mask) (K - c) (stage t.mask h c) (clear_nth _ c _ rfl) (by omega)
    (fun q hq => by rw [stage_way]; exact hb _ (by omega)) (by rw [stage_way, show c + (K - c) = K from by omega]; exact hK)
  rcases go with ⟨q, i, hq, hi, _, no, e⟩ | ⟨no, e⟩
  · rw [stage_way] at hi
    have il : i < L.length := by
      have z := (List.getElem?_eq_some_iff.mp hi).1
      rw [Array.length_toList, R.spots] at z
      exact z
    refine .inl ⟨q, i, L[i], by omega, List.getElem?_eq_getElem il, hi, fun c' i' p' h1 h2 hp hw => ?_, ?_⟩
    · have z := no (c' - c) i' (by omega) (by rw [stage_way, show c + (c' - c) = c' from by omega]; exact hw)
      rwa [hash_of hp] at z
    · rw [stage_way, stage_add] at e
      exact e
  · refine .inr ⟨fun c' i' p' h1 h2 hp hw => ?_, ?_⟩
    · have z := no (c' - c) i' (by omega) (by rw [stage_way, show c + (c' - c) = c' from by omega]; exact hw)
      rwa [hash_of hp] at z
    · rw [stage_way, show c + (K - c) = K from by omega] at e
      exact e
/-- the search for a key, from the c-th state on; the key, if it is there, is still ahead -/
theorem hunt (R : Pool P w s.heap a L es ep t) {x : Addr} {k : NestedKey} (hx : At P w s.heap k x) (hu : A.units + 8 < cLine) {K : Nat} (hf : K < 10 * SetTable.turns t.mask)
    (hK : way t.mask (k.hash w) K ∉ t.place.toList) (hb : ∀ c, c < K → way t.mask (k.hash w) c ∈ t.place.toList) {Q : SetFound → Shared → Prop}
    (yes : k ∈ L.map (·.1) → Q (.there none) s) (no : k ∉ L.map (·.1) → Q (.free (way t.mask (k.hash w) K) false) s) :
    ∀ (f c : Nat) (stand : Option SetTable.Probe), stand.getD (t.probeStart (k.hash w)) = stage t.mask (k.hash w) c → c ≤ K → K < c + f →
      (∀ (i : Nat) p, L[i]? = some p → p.1 = k → ∃ c', c ≤ c' ∧ c' < K ∧ t.place.toList[i]? = some (way t.mask (k.hash w) c')) →
      wpAny (model P w) A (setSearchFrom a (.ref x) (k.hash w) true f stand) Q E s := by
  intro f
  induction f with
  | zero => intro c _ _ h1 h2; omega
  | succ f ih =>
    intro c stand hs hc hcf ahead
    obtain ⟨o, ho, _, hd⟩ := R.obj
    have read : ∀ {Z : (Array (Int × Value) × Nat × SetTable) → Shared → Prop}, Z (es, ep, t) s → wpAny (model P w) A (setState a) Z E s := fun z => wpAny_setState_of ho hd R.fit z
    rw [setSearchFrom_succ]
    refine wpAny_bind (read ?_)
    dsimp only
    refine wp_if_neg R.sound ?_
    try refine wpAny_bind (wpAny_pure ?_)
    rw [hs]
    rcases probes R (k.hash w) hK hb hf hc with ⟨q, i, p, hq, hp, hi, before, e⟩ | ⟨before, e⟩
    · rw [e]
      dsimp only
      have pin := List.mem_of_getElem? hp
      have after : wpAny (model P w) A (searchRest a (.ref x) (k.hash w) true f es t (way t.mask (k.hash w) (c + q)) i (stage t.mask (k.hash w) (c + q + 1))) Q E s := by
        unfold searchRest
        rw [R.stands hp]
        dsimp only [row]
        refine wpAny_bind (wpAny_holding ((NK P w).eqBool hu (R.at_ p pin) hx ?_))
        refine wpAny_bind (read ?_)
        dsimp only
        by_cases same : p.1 = k
        · refine wp_if_pos (by simp [same]) (wpAny_pure (yes ?_))
          exact List.mem_map.mpr ⟨p, pin, same⟩
        · refine wp_if_neg (by simp [same]) ?_
          try refine wpAny_bind (wpAny_pure ?_)
          have live := slot_live R.tab.ris hi
          rw [sameMem]
          simp only [if_true, live, R.stands hp, row]
          refine wpAny_bind (wpAny_isSame_ref_self (wpAny_bind (wpAny_pure ?_)))
          simp only [if_true]
          refine wp_if_neg (by simp [same]) ?_
          refine ih (c + q + 1) _ rfl (by omega) (by omega) fun i0 p0 h0 hk => ?_
          obtain ⟨c', g1, g2, g3⟩ := ahead i0 p0 h0 hk
          refine ⟨c', ?_, g2, g3⟩
          have z1 : ¬ c' < c + q := fun z => before c' i0 p0 g1 z h0 g3 (by rw [hk])
          have z2 : c' ≠ c + q := fun z => by
            subst z
            have two := slot_live R.tab.ris g3
            rw [live] at two
            injection two with two
            subst two
            rw [hp] at h0
            injection h0 with h0
            exact same (h0 ▸ hk)
          omega
      by_cases led : t.led = true
      · refine wp_if_neg (by simp [led]) ?_
        try refine wpAny_bind (wpAny_pure ?_)
        exact after
      · refine wp_if_pos (by simp [led]) (wpAny_bind (unseen hx (fun y hy => ?_) _ _ _ fun b0 h0 => ?_))
        · obtain ⟨r, hr, rfl⟩ := List.mem_map.mp hy
          have hr1 : r ∈ es.toList := by
            have z : r ∈ es ∧ r.1 = k.hash w := by simpa using hr
            simpa using z.1
          rw [R.rows] at hr1
          obtain ⟨p1, hp1, rfl⟩ := List.mem_map.mp hr1
          exact ⟨p1.1, p1.2, rfl, R.at_ p1 hp1⟩
        · subst h0
          refine wp_if_neg (by decide) ?_
          try refine wpAny_bind (wpAny_pure ?_)
          exact after
    · rw [e]
      dsimp only
      refine wpAny_pure (no fun hm => ?_)
      obtain ⟨p, hp, hk⟩ := List.mem_map.mp hm
      obtain ⟨i, hi⟩ := List.getElem?_of_mem hp
      obtain ⟨c', g1, g2, g3⟩ := ahead i p hi hk
      exact before c' i p g1 g2 hi g3 (by rw [hk])
theorem seek (R : Pool P w s.heap a L es ep t) {x : Addr} {k : NestedKey} (hx : At P w s.heap k x) (hu : A.units + 8 < cLine) {Q : SetFound → Shared → Prop} (yes : k ∈ L.map (·.1) → Q (.there none) s)
    (no : ∀ K, k ∉ L.map (·.1) → way t.mask (k.hash w) K ∉ t.place.toList → (∀ c, c < K → way t.mask (k.hash w) c ∈ t.place.toList) → Q (.free (way t.mask (k.hash w) K) false) s) :
    wpAny (model P w) A (setSearch a (.ref x) (k.hash w) true) Q E s := by
  have l := R.loose
  have nl : (hashes w L).length ≤ t.mask := by unfold hashes; rw [List.length_map]; omega
  obtain ⟨K, hf, hK, hb⟩ := R.tab.first nl (k.hash w)
  have small : K < 100000 := by
    have z : SetTable.turns t.mask ≤ 142 := by
      unfold SetTable.turns
      rcases R.tab.mok with z | z | z <;> omega
    omega
  unfold setSearch
  refine hunt R hx hu hf hK hb yes (fun n => no K n hK hb) 100000 0 none rfl (Nat.zero_le _) (by omega) fun i p hp hk => ?_
  have il : i < t.place.toList.length := by
    rw [Array.length_toList, R.spots]
    exact (List.getElem?_eq_some_iff.mp hp).1
  have hh : (hashes w L)[i]? = some (k.hash w) := by unfold hashes; rw [List.getElem?_map, hp, ← hk]; rfl
  have hj := List.getElem?_eq_getElem il
  obtain ⟨c, h1, h2⟩ := R.tab.before hK hh hj
  exact ⟨c, Nat.zero_le _, h1, by rw [hj, h2]⟩
end
end RG

/-! R38: one item put into such a set. -/
namespace RG
open PySem PySem.Spec PyProof.Rows L2
theorem all_places {α : Type} : ∀ L : List α, (List.range L.length).filterMap (fun i => L[i]?) = L
  | [] => rfl
  | x :: L => by
    rw [List.length_cons, List.range_succ_eq_map, List.filterMap_cons_some (f := fun i => (x :: L)[i]?) (b := x) rfl, List.filterMap_map]
    exact congrArg (x :: ·) (all_places L)
section
variable {P : Program} {w : World} {A : Around} {E : Value → Shared → Prop} {s : Shared}
variable {a : Addr} {L : List Item} {es : Array (Int × Value)} {ep : Nat} {t : SetTable}
theorem row_at (hr : es.toList = L.map (row w)) (i : Nat) : es[i]? = L[i]?.map (row w) := by rw [← Array.getElem?_toList, hr, List.getElem?_map]
/-- the rows taken in another order are those of the items in that order -/
theorem reordered (hr : es.toList = L.map (row w)) {order : Array Nat} (pm : order.toList.Perm (List.range L.length)) :
    (order.filterMap (es[·]?)).toList = (order.toList.filterMap fun i => L[i]?).map (row w) ∧ (order.toList.filterMap fun i => L[i]?).Perm L ∧
      hashes w (order.toList.filterMap fun i => L[i]?) = order.toList.map fun i => (es.map (·.1)).getD i 0 := by
  refine ⟨?_, ?_, ?_⟩
  · rw [Array.toList_filterMap, List.map_filterMap]
    congr 1
    funext i
    exact row_at hr i
  · have z := pm.filterMap fun i => L[i]?
    rwa [all_places] at z
  · have all : ∀ l : List Nat, (∀ i ∈ l, i < L.length) → hashes w (l.filterMap fun i => L[i]?) = l.map fun i => (es.map (·.1)).getD i 0 := by
      intro l
      induction l with
      | nil => intro _; rfl
      | cons i l ih =>
        intro hl
        have here : L[i]? = some (L[i]'(hl i (.head _))) := List.getElem?_eq_getElem (hl i (.head _))
        have val : (es.map (·.1)).getD i 0 = (L[i]'(hl i (.head _))).1.hash w := by
          rw [Array.getD_eq_getD_getElem?, Array.getElem?_map, row_at hr, here]; rfl
        rw [List.filterMap_cons_some here, List.map_cons, val, ← ih fun j hj => hl j (.tail _ hj)]
        rfl
    exact all _ fun i hi => List.mem_range.mp (pm.mem_iff.mp hi)
/-- an item stays when the set changes -/
theorem at_beside {h h' : Heap} {k : NestedKey} {b : Addr} {o : Obj} (hb : At P w h k b) (ho : h.get? a = some o) (hd : o.data = .set es ep t) (but : Heap.SameBut a h h') : At P w h' k b := by
  refine ⟨NestedIs.at (fun c oc vs n hc hcd => (but.2 c fun e => ?_).trans hc) k _ hb.1, hb.2⟩
  subst e
  rw [ho] at hc
  injection hc with hc
  subst hc
  rw [hd] at hcd
  exact nomatch hcd
/-- what is known of a set's table but that it is loose enough -/
structure Raw (P : Program) (w : World) (h : Heap) (a : Addr) (L : List Item) (es : Array (Int × Value)) (ep : Nat) (t : SetTable) (o : Obj) : Prop where
  ho : h.get? a = some o
  hex : o.ExactSet
  hd : o.data = .set es ep t
  rows : es.toList = L.map (row w)
  tab : TabOk t (hashes w L)
  apart : (L.map (·.1)).Nodup
  at_ : ∀ p ∈ L, At P w h p.1 p.2
  order : w.params.followText "set-order" = true ∨ t.led = true
  short : L.length < 64
theorem Raw.count {o : Obj} (R : Raw P w s.heap a L es ep t o) : es.size = L.length := by
  rw [← Array.length_toList, R.rows, List.length_map]
theorem Raw.pool {o : Obj} (R : Raw P w s.heap a L es ep t o) (l : L.length * 5 < t.mask * 3) : Pool P w s.heap a L es ep t :=
  ⟨⟨o, R.ho, R.hex, R.hd⟩, R.rows, R.tab, R.apart, R.at_, R.order, l, R.short⟩
/-- the table laid out anew -/
theorem relay {o : Obj} (R : Raw P w s.heap a L es ep t o) (fl : L.length ≤ t.mask) {wanted M : Nat} (hw : SetTable.sizeAbove wanted - 1 = M) (hM : MaskOk M) (hs : SetTable.sizeAbove wanted ≤ 128) (l : L.length * 5 < M * 3)
    {Q : Unit → Shared → Prop} (hQ : ∀ h' L' es' ep' t', Heap.SameBut a s.heap h' → Pool P w h' a L' es' ep' t' → L'.Perm L → Q () { s with heap := h' }) : wpAny (model P w) A (setRelay a wanted) Q E s := by
  have cnt := R.count
  have spots : t.place.size = L.length := by rw [R.tab.sz]; exact List.length_map ..
  have fit : t.fits es.size = true := by
    simp only [SetTable.fits, SetTable.fill, R.tab.dm, Bool.and_eq_true, beq_iff_eq, decide_eq_true_eq]
    refine ⟨by omega, ?_⟩
    show t.place.size + 0 ≤ t.mask
    omega
  obtain ⟨t', order, e, pm, T, em, el, _, _⟩ := relaid_ok t (hs := es.map (·.1)) (wanted := wanted) hw hM (by rw [Array.size_map]; omega)
  rw [Array.size_map, cnt] at pm
  obtain ⟨r1, r2, r3⟩ := reordered R.rows pm
  rw [← r3] at T
  generalize order.toList.filterMap (fun i => L[i]?) = L2 at r1 r2 T
  have cnt2 : (order.filterMap (es[·]?)).size = L.length := by
    rw [← Array.length_toList, r1, List.length_map]; exact r2.length_eq
  have sh := R.short
  rw [setRelay_eq]
  refine wpAny_bind (wpAny_setState_of R.ho R.hd fit ?_)
  dsimp only
  refine wp_if_neg (by rw [sizeLine_eq]; omega) ?_
  try refine wpAny_bind (wpAny_pure ?_)
  rw [e]
  dsimp only
  refine wpAny_bind (wp_if_neg (by simp [cnt2, cnt]) ?_)
  try refine wpAny_bind (wpAny_pure ?_)
  refine wpAny_pure ?_
  dsimp only
  generalize order.filterMap (es[·]?) = es2 at r1 cnt2
  refine wpAny_storeSet_of R.ho R.hd ?_ (by rw [cnt2, sizeLine_eq]; omega)
  have but : Heap.SameBut a s.heap (s.heap.update a (Obj.putSet es2 t')) := .update ..
  refine hQ _ L2 es2 (ep + 1) t' but ⟨⟨_, store_at R.ho R.hd, R.hex, rfl⟩, r1, T, ?_, fun p hp => at_beside (R.at_ p (r2.mem_iff.mp hp)) R.ho R.hd but, el ▸ R.order, ?_, ?_⟩ r2
  · exact (r2.map (·.1)).nodup_iff.mpr R.apart
  · rw [r2.length_eq, em]; exact l
  · rw [r2.length_eq]; exact sh
theorem put_in {α : Type} (L : List α) (n : Nat) (x : α) : (L.take n ++ x :: L.drop n).Perm (x :: L) := by
  have z : (L.take n ++ x :: L.drop n).Perm (x :: (L.take n ++ L.drop n)) := List.perm_middle
  rwa [List.take_append_drop] at z
/-- how the items stand behind a put -/
def Put (L : List Item) (k : NestedKey) (x : Addr) (L' : List Item) : Prop := (k ∈ L.map (·.1) → L' = L) ∧ (k ∉ L.map (·.1) → L'.Perm ((k, x) :: L))
theorem put (R : Pool P w s.heap a L es ep t) {x : Addr} {k : NestedKey} (hx : At P w s.heap k x) (hu : A.units + 8 < cLine) (more : L.length + 1 < 64) {Q : Bool → Shared → Prop}
    (hQ : ∀ b h' L' es' ep' t', Heap.SameBut a s.heap h' → Pool P w h' a L' es' ep' t' → Put L k x L' → Q b { s with heap := h' }) :
    wpAny (model P w) A (setAddHashed a (.ref x) (k.hash w)) Q E s := by
  obtain ⟨o, ho, hex, hd⟩ := R.obj
  have cnt := R.count
  have loose := R.loose
  have read : ∀ {Z : (Array (Int × Value) × Nat × SetTable) → Shared → Prop}, Z (es, ep, t) s → wpAny (model P w) A (setState a) Z E s := fun z => wpAny_setState_of ho hd R.fit z
  unfold setAddHashed
  refine wpAny_holding ?_
  show wpAny (model P w) A (setAddHashedIn a (.ref x) (k.hash w) (99999 + 1)) Q E s
  rw [setAddHashedIn_succ]
  refine wpAny_bind (read ?_)
  dsimp only
  refine wp_if_neg (by simp [byScan, Value.scannable]) ?_
  try refine wpAny_bind (wpAny_pure ?_)
  refine wpAny_bind (seek R hx hu (fun hm => ?_) fun K hm hK hb => ?_)
  · dsimp only
    exact wpAny_pure (hQ false s.heap L es ep t (.refl a s.heap) R ⟨fun _ => rfl, fun z => absurd hm z⟩)
  · dsimp only
    refine wpAny_bind (read ?_)
    dsimp only
    obtain ⟨q1, _, q3, q4, q5, _, _, _, q9⟩ := R.tab.put hK hb
    generalize t.put (way t.mask (k.hash w) K) = pt at q1 q3 q4 q5 q9 ⊢
    obtain ⟨t1, n⟩ := pt
    dsimp only at q1 q3 q4 q5 q9 ⊢
    rw [← q1] at q3
    -- whether the item's hash is by value changes the table's mark alone
    have go : ∀ by_ : Bool, ∀ t2 : SetTable, t2 = (if by_ = true then t1 else { t1 with plain := false }) →
        wpAny (model P w) A (storeSet a (SetTable.insertAt es n (k.hash w, .ref x)) t2 >>= fun _ =>
          if (!false && t2.tooFull) = true then (setRelay a (SetTable.grown (es.size + 1)) >>= fun _ => pure true) else pure true) Q E s := by
      intro by_ t2 e2
      have T2 : TabOk t2 ((hashes w L).take n ++ k.hash w :: (hashes w L).drop n) := by
        subst e2
        cases by_
        · exact ⟨q3.ris, q3.dm, q3.sz, q3.mok, q3.bd, q3.reach⟩
        · exact q3
      have m2 : t2.mask = t.mask := by subst e2; cases by_ <;> exact q4
      have l2 : t2.led = t.led := by subst e2; cases by_ <;> exact q5
      have f2 : t2.tooFull = t1.tooFull := by subst e2; cases by_ <;> rfl
      have full : t2.tooFull = decide ((L.length + 1) * 5 ≥ t.mask * 3) := by
        rw [f2]
        unfold SetTable.tooFull
        rw [q9, q4]
        unfold hashes
        rw [List.length_map]
      clear q3 e2
      have pm := put_in L n (k, x)
      have hsh : (hashes w L).take n ++ k.hash w :: (hashes w L).drop n = hashes w (L.take n ++ (k, x) :: L.drop n) := by
        unfold hashes
        rw [List.map_append, List.map_cons, List.map_take, List.map_drop]
      rw [hsh] at T2
      have rows : (SetTable.insertAt es n (k.hash w, Value.ref x)).toList = (L.take n ++ (k, x) :: L.drop n).map (row w) := by
        rw [SetTable.toList_insertAt, R.rows, List.map_append, List.map_cons, List.map_take, List.map_drop]
        rfl
      generalize SetTable.insertAt es n (k.hash w, Value.ref x) = es1 at rows ⊢
      generalize L.take n ++ (k, x) :: L.drop n = L1 at pm T2 rows
      have len1 : L1.length = L.length + 1 := pm.length_eq
      have cnt1 : es1.size = L.length + 1 := by rw [← Array.length_toList, rows, List.length_map, len1]
      refine wpAny_bind (wpAny_storeSet_of ho hd ?_ (by rw [cnt1, sizeLine_eq]; omega))
      have but : Heap.SameBut a s.heap (s.heap.update a (Obj.putSet es1 t2)) := .update ..
      have ho1 := store_at (es' := es1) (t' := t2) ho hd
      generalize s.heap.update a (Obj.putSet es1 t2) = h1 at but ho1 ⊢
      have R1 : Raw P w h1 a L1 es1 (ep + 1) t2 _ := ⟨ho1, hex, rfl, rows, T2, by
          rw [(pm.map (·.1)).nodup_iff, List.map_cons]
          exact List.nodup_cons.mpr ⟨hm, R.apart⟩, fun p hp => by
          rcases List.mem_cons.mp (pm.mem_iff.mp hp) with e | hp
          · rw [e]; exact at_beside hx ho hd but
          · exact at_beside (R.at_ p hp) ho hd but, by rw [l2]; exact R.order, by omega⟩
      by_cases hf : (L.length + 1) * 5 ≥ t.mask * 3
      · have hf2 : t2.tooFull = true := by rw [full]; exact decide_eq_true hf
        have two : (t.mask = 7 ∧ L.length = 4) ∨ (t.mask = 31 ∧ L.length = 18) := by
          rcases R.tab.mok with z | z | z <;> omega
        refine wp_if_pos (by simp [hf2]) (wpAny_bind ?_)
        have lay : ∀ M, SetTable.sizeAbove (SetTable.grown (es.size + 1)) - 1 = M → MaskOk M → SetTable.sizeAbove (SetTable.grown (es.size + 1)) ≤ 128 → (L.length + 1) * 5 < M * 3 →
            wpAny (model P w) A (setRelay a (SetTable.grown (es.size + 1))) (fun _ z => wpAny (model P w) A (pure true) Q E z) E { s with heap := h1 } := fun M z1 z2 z3 z4 => by
          refine relay (s := { s with heap := h1 }) R1 (by rw [m2]; omega) z1 z2 z3 (by omega) fun h2 L2 es2 ep2 t3 b2 R2 p2 => ?_
          exact wpAny_pure (hQ true h2 L2 es2 ep2 t3 (but.trans b2) R2 ⟨fun z => absurd z hm, fun _ => p2.trans pm⟩)
        rcases two with ⟨_, z⟩ | ⟨_, z⟩
        · have g : es.size + 1 = 5 := by omega
          exact lay 31 (by rw [g, size_20]) (.inr (.inl rfl)) (by rw [g, size_20]; decide) (by omega)
        · have g : es.size + 1 = 19 := by omega
          exact lay 127 (by rw [g, size_76]) (.inr (.inr rfl)) (by rw [g, size_76]; decide) (by omega)
      · have hf2 : t2.tooFull = false := by rw [full]; exact decide_eq_false hf
        refine wp_if_neg (by simp [hf2]) ?_
        exact wpAny_pure (hQ true h1 L1 es1 (ep + 1) t2 but (R1.pool (s := { s with heap := h1 }) (by rw [m2, len1]; omega)) ⟨fun z => absurd z hm, fun _ => pm⟩)
    cases hp : t1.plain with
    | true =>
      refine wp_if_pos rfl (wpAny_bind (hash_key k _ 8 hx.1 hx.2 _ _ _ fun b _ => ?_))
      exact go b _ rfl
    | false =>
      refine wp_if_neg (by decide) (wpAny_bind (wpAny_pure ?_))
      exact go true _ rfl
end
end RG

/-! R39: set(xs), xs a list or a tuple: the call, whatever the items; then items that are tuples of nested data. -/
namespace RG
open PySem PySem.Spec PyProof.Rows L2
section
variable {P : Program} {w : World} {A : Around} {E : Value → Shared → Prop} {s : Shared}
/-- a set that was just made -/
abbrev bare (w : World) : Obj := { cls := .type "set", dict := none, data := .set #[] 0 (.fresh 0 0 (!w.params.followText "set-order")) }
/-- set.update's loop: J i holds behind i items -/
theorem upd_loop {I S : Addr} {fp wr : List Addr} {G : Array GenState → Array GenState → Prop} {n : Nat} {Pv : Nat → Value → Prop} {St : Nat → Shared → Prop} (W : WalksS P w A.in1 I fp wr G n Pv St) (out : S ∉ fp)
    (J : Nat → Heap → Prop) (calm : ∀ i h h', J i h → (∀ b o, b ∉ wr → h.get? b = some o → h'.get? b = some o) → J i h')
    (one : ∀ i v (z : Shared) (Y : Value → Shared → Prop) (Z : Bool → Shared → Prop), i < n → Pv i v → J i z.heap → (∀ b h' tk, z.toks ≤ tk → Heap.SameBut S z.heap h' → J (i + 1) h' → Z b { z with heap := h', toks := tk }) →
      wpAny (model P w) A.in1 (setAdd S v) Z Y z) {R : Result → Shared → Prop} : ∀ (k i : Nat) (s0 s : Shared), i + k = n → St i s → J i s.heap → Moved (S :: wr) G s0 s → (∀ s', Moved (S :: wr) G s0 s' → J n s'.heap → R (.ok (.ret .none)) s') →
      codeAny (model P w) A (.builtin "set.update.loop" ⟨[.ref S, .ref I], []⟩) R s := by
  have wide : ∀ b ∈ wr, b ∈ S :: wr := fun b hb => .tail _ hb
  intro k
  induction k with
  | zero =>
    intro i s0 s hi st j m fin
    have e : i = n := hi
    subst e
    refine codeAny_builtin F.entry_set_update_loop ?_
    rw [Around.under_plainId F.plain_set_update_loop _]
    refine wpAny_bind (m := pyNext (.ref I)) (W.done s _ _ st fun s1 m1 => ?_)
    exact wpAny_pure (fin s1 (m.trans W.gtrans (m1.mono wide)) (calm _ _ _ j fun b o hb e => m1.heap b o hb e))
  | succ k ih =>
    intro i s0 s hi st j m fin
    refine codeAny_builtin F.entry_set_update_loop ?_
    rw [Around.under_plainId F.plain_set_update_loop _]
    refine wpAny_bind (m := pyNext (.ref I)) (W.item i s _ _ (by omega) st fun v s1 pv st1 m1 => ?_)
    refine wpAny_bind (m := holding [v] (setAdd S v)) (wpAny_holding ?_)
    refine one i v s1 _ _ (by omega) pv (calm _ _ _ j fun b o hb e => m1.heap b o hb e) fun b h' tk ht but j1 => ?_
    have st2 : St (i + 1) { s1 with heap := h', toks := tk } := W.frame _ s1 h' tk st1 ht fun c hc o e => (but.2 c fun z => out (z ▸ hc)).trans e
    have m2 : Moved (S :: wr) G s { s1 with heap := h', toks := tk } := (m1.mono wide).then_heap ht fun c o hc e => (but.2 c fun z => hc (z ▸ .head _)).trans e
    exact wpAny_pure ⟨plainId_quiet F.plain_set_update_loop _, ih (i + 1) s0 _ (by omega) st2 j1 (m.trans W.gtrans m2) fin⟩
/-- set(xs) of a list or a tuple: what its loop brings about -/
theorem set_call {l : Addr} {items : Array Value} {Q : Value → Shared → Prop} (J : Nat → Heap → Prop) (hh : A.handled = none) (hl : s.heap.IsList l items ∨ s.heap.IsTuple l items)
    (first : ∀ h', (∀ b o, (s.heap.push (bare w)).get? b = some o → h'.get? b = some o) → J 0 h')
    (calm : ∀ i h h', J i h → (∀ b o, b ≤ s.heap.objs.size → h.get? b = some o → h'.get? b = some o) → J i h')
    (one : ∀ i v (z : Shared) (B : Around) (Y : Value → Shared → Prop) (Z : Bool → Shared → Prop), B.units ≤ A.units + 3 → items[i]? = some v → J i z.heap →
      (∀ b h' tk, z.toks ≤ tk → Heap.SameBut s.heap.objs.size z.heap h' → J (i + 1) h' → Z b { z with heap := h', toks := tk }) → wpAny (model P w) B (setAdd s.heap.objs.size v) Z Y z)
    (h : ∀ (h' : Heap) (tk : Nat), J items.size h' → (∀ b o, s.heap.get? b = some o → h'.get? b = some o) → Q (.ref s.heap.objs.size) { s with heap := h', toks := tk }) :
    wpAny (model P w) A (call (.type "set") [.ref l]) Q E s := by
  obtain ⟨c, tl, hmro⟩ := F.called_set.mro
  have hmade := F.called_set.made
  have hsub := F.called_set.sub
  refine wpAny_call (codeAny_of_tree ?_)
  show wpAny _ _ (callAny (.type "set") _) _ _ _
  refine wpAny_pure ⟨Code.quiet_builtin _ (by decide +kernel), codeAny_builtin F.entry_type_call ?_⟩
  rw [Around.under_plain (weight_type_call_type "set" [.ref l] []) rfl]
  have n1 := F.called_set.notType
  have n2 := F.called_set.canCreate
  have n3 := F.typeCall_set_1 (.ref l)
  repeat (any_goals (first | assumption | wp_step))
  refine codeAny_mono (code_set_led1 (.ref l) (E := E) (Q₁ := fun ob z => ob = .ref s.heap.objs.size ∧ z = { s with heap := s.heap.push (bare w) }) ⟨rfl, rfl⟩) fun r z hr => ?_
  match r, hr with
  | .error e, hr => exact hr
  | .ok (.ret ob), hr =>
    obtain ⟨rfl, rfl⟩ := hr
    have made : (s.heap.push (bare w)).get? s.heap.objs.size = some (bare w) := Heap.get?_push_size _ rfl
    have ty : Shared.TypeIs { s with heap := s.heap.push (bare w) } (.ref s.heap.objs.size) "set" := ⟨_, made, rfl⟩
    have i1 := F.called_set.init.lookup
    have i2 := F.called_set.init.bind (.ref s.heap.objs.size)
    repeat (any_goals (first | assumption | wp_step))
    have keep0 : ∀ b o, s.heap.get? b = some o → (s.heap.push (bare w)).get? b = some o := fun b o e => Heap.get?_push_of_some _ e
    have big : (s.heap.push (bare w)).objs.size = s.heap.objs.size + 1 := Heap.size_push ..
    -- what stands behind the initializer
    refine codeAny_mono (codeAny_call_builtin (R := wants (fun v z => v = .none ∧ ∃ h' tk, z = { s with heap := h', toks := tk } ∧ J items.size h' ∧ ∀ b o, s.heap.get? b = some o → h'.get? b = some o) E)
      F.called_set.init.plain F.entry_set_init (check_set_init_1 ty ?_)) fun r2 z2 hr2 => ?_
    · have quiet3 : A.in1.in1.in1.handled = none := by simp [hh]
      have far : ∀ b : Addr, b ≤ s.heap.objs.size → b ≠ (s.heap.push (bare w)).objs.size := fun b hb => by
        rw [big]; exact Nat.ne_of_lt (Nat.lt_succ_of_le hb)
      rcases hl with hl | hl
      · obtain ⟨⟨oc, od, odt, os⟩, ho, hc, nl, hd⟩ := hl
        simp only at hc hd
        subst hc; subst hd
        have low : l < s.heap.objs.size := Heap.lt_size ho
        have ho1 := keep0 _ _ ho
        have f1 := F.sub_list_set
        have f2 := F.sub_list_frozenset
        have f3 : (Value.type "list" == Value.type "dict") = false := by decide
        have lst : (s.heap.push (bare w)).IsList l items := ⟨_, ho1, rfl, nl, rfl⟩
        unfold Builtin.«set.__init__» noKeywords Builtin.Frozenset.updateFrom
        generalize hp : pyIter = it
        wp_walk
        subst hp
        refine wpAny_pyIter_list lst (wpAny_bind (wpAny_runValue ?_))
        have ne : l ≠ (s.heap.push (bare w)).objs.size := far l (Nat.le_of_lt low)
        refine upd_loop ((Walks.list quiet3 _ l ne items).toS) (S := s.heap.objs.size) ?out J ?calm ?one items.size 0 _ _ (by omega) ⟨⟨_, Heap.get?_push_size _ rfl, rfl, rfl⟩, lst.push _⟩ ?start (Moved.refl fun _ => rfl) ?fin
        case out =>
          simp only [List.mem_cons, List.not_mem_nil, or_false, not_or]
          exact ⟨far _ (Nat.le_refl _), Nat.ne_of_gt low⟩
        case calm => exact fun i h1 h2 j k => calm i h1 h2 j fun b o hb e => k b o (by simp only [List.mem_cons, List.not_mem_nil, or_false]; exact far b hb) e
        case one => exact fun i v z Y Z hi pv j q => one i v z _ Y Z (by simp) pv j q
        case start => exact first _ fun b o e => Heap.get?_push_of_some _ e
        case fin =>
          intro z m j
          obtain ⟨h', g, d, tk, os'⟩ := z
          obtain rfl : g = s.gens := m.gens
          obtain rfl : d = s.drawn := m.drawn
          obtain rfl : os' = s.os := m.os
          have keep : ∀ b o, s.heap.get? b = some o → h'.get? b = some o := fun b o e => by
            have lt := Heap.lt_size e
            exact m.heap b o (by simp only [List.mem_cons, List.not_mem_nil, or_false, not_or]; exact ⟨Nat.ne_of_lt lt, far b (Nat.le_of_lt lt)⟩) (Heap.get?_push_of_some _ (keep0 b o e))
          show wpAny _ _ _ _ _ _
          refine wpAny_pure ?_
          show wpAny _ _ (ret Value.none) _ _ _
          exact wpAny_pure ⟨rfl, h', tk, rfl, j, keep⟩
      · obtain ⟨⟨oc, od, odt, os⟩, ho, hc, nl, hd⟩ := hl
        simp only at hc hd
        subst hc; subst hd
        have low : l < s.heap.objs.size := Heap.lt_size ho
        have ho1 := keep0 _ _ ho
        have f1 := F.sub_tuple_set
        have f2 := F.sub_tuple_frozenset
        have f3 : (Value.type "tuple" == Value.type "dict") = false := by decide
        have lst : (s.heap.push (bare w)).IsTuple l items := ⟨_, ho1, rfl, nl, rfl⟩
        unfold Builtin.«set.__init__» noKeywords Builtin.Frozenset.updateFrom
        generalize hp : pyIter = it
        wp_walk
        subst hp
        refine wpAny_pyIter_tuple lst (wpAny_bind (wpAny_runValue ?_))
        have ne : l ≠ (s.heap.push (bare w)).objs.size := far l (Nat.le_of_lt low)
        refine upd_loop ((Walks.tuple quiet3 _ l ne items).toS) (S := s.heap.objs.size) ?out J ?calm ?one items.size 0 _ _ (by omega) ⟨⟨_, Heap.get?_push_size _ rfl, rfl, rfl⟩, lst.push _⟩ ?start (Moved.refl fun _ => rfl) ?fin
        case out =>
          simp only [List.mem_cons, List.not_mem_nil, or_false, not_or]
          exact ⟨far _ (Nat.le_refl _), Nat.ne_of_gt low⟩
        case calm => exact fun i h1 h2 j k => calm i h1 h2 j fun b o hb e => k b o (by simp only [List.mem_cons, List.not_mem_nil, or_false]; exact far b hb) e
        case one => exact fun i v z Y Z hi pv j q => one i v z _ Y Z (by simp) pv j q
        case start => exact first _ fun b o e => Heap.get?_push_of_some _ e
        case fin =>
          intro z m j
          obtain ⟨h', g, d, tk, os'⟩ := z
          obtain rfl : g = s.gens := m.gens
          obtain rfl : d = s.drawn := m.drawn
          obtain rfl : os' = s.os := m.os
          have keep : ∀ b o, s.heap.get? b = some o → h'.get? b = some o := fun b o e => by
            have lt := Heap.lt_size e
            exact m.heap b o (by simp only [List.mem_cons, List.not_mem_nil, or_false, not_or]; exact ⟨Nat.ne_of_lt lt, far b (Nat.le_of_lt lt)⟩) (Heap.get?_push_of_some _ (keep0 b o e))
          show wpAny _ _ _ _ _ _
          refine wpAny_pure ?_
          show wpAny _ _ (ret Value.none) _ _ _
          exact wpAny_pure ⟨rfl, h', tk, rfl, j, keep⟩
    · match r2, hr2 with
      | .error e, hr2 => exact hr2
      | .ok (.ret v), hr2 =>
        obtain ⟨rfl, h', tk, rfl, j, keep⟩ := hr2
        repeat (any_goals (first | assumption | wp_step))
        exact h h' tk j keep
      | .ok .next, hr2 => exact hr2.elim
      | .ok .brk, hr2 => exact hr2.elim
      | .ok .cont, hr2 => exact hr2.elim
  | .ok .next, hr => exact hr.elim
  | .ok .brk, hr => exact hr.elim
  | .ok .cont, hr => exact hr.elim
end
end RG

/-! R40: set(xs) of tuples of nested data, and sorted of such a set, as rules of the hand layer. -/
namespace RG
open PySem PySem.Spec PyProof.Rows L2
/-- L holds the keys of the first i items, each once -/
structure Held (ks : List Item) (i : Nat) (L : List Item) : Prop where
  from_ : ∀ p ∈ L, p ∈ ks
  keys : ∀ p ∈ ks.take i, p.1 ∈ L.map (·.1)
  len : L.length ≤ i
theorem Held.next {ks L L' : List Item} {i : Nat} {k : NestedKey} {x : Addr} (g : Held ks i L) (h : ks[i]? = some (k, x)) (p : Put L k x L') : Held ks (i + 1) L' := by
  have tk : ks.take (i + 1) = ks.take i ++ [(k, x)] := by rw [List.take_succ, h]; rfl
  by_cases hm : k ∈ L.map (·.1)
  · rw [p.1 hm]
    refine ⟨g.from_, fun q hq => ?_, Nat.le_succ_of_le g.len⟩
    rw [tk, List.mem_append, List.mem_singleton] at hq
    rcases hq with hq | rfl
    · exact g.keys q hq
    · exact hm
  · have pm := p.2 hm
    refine ⟨fun q hq => ?_, fun q hq => ?_, ?_⟩
    · rcases List.mem_cons.mp (pm.mem_iff.mp hq) with rfl | hq
      · exact List.mem_of_getElem? h
      · exact g.from_ q hq
    · rw [(pm.map (·.1)).mem_iff, List.map_cons]
      rw [tk, List.mem_append, List.mem_singleton] at hq
      rcases hq with hq | rfl
      · exact .tail _ (g.keys q hq)
      · exact .head _
    · rw [pm.length_eq]; exact Nat.succ_le_succ g.len
section
variable {P : Program} {w : World} {A : Around} {E : Value → Shared → Prop} {s : Shared}
theorem at_up {h h' : Heap} {k : NestedKey} {b : Addr} (x : At P w h k b) (up : ∀ c o, h.get? c = some o → h'.get? c = some o) : At P w h' k b :=
  ⟨NestedIs.at (fun c o _ _ e _ => up c o e) k _ x.1, x.2⟩
theorem Pool.up {h h' : Heap} {a : Addr} {L : List Item} {es : Array (Int × Value)} {ep : Nat} {t : SetTable} (R : Pool P w h a L es ep t) (ha : ∀ o, h.get? a = some o → h'.get? a = some o) (hi : ∀ p ∈ L, At P w h' p.1 p.2) : Pool P w h' a L es ep t := by
  obtain ⟨o, ho, r⟩ := R.obj
  exact ⟨⟨o, ha o ho, r⟩, R.rows, R.tab, R.apart, hi, R.order, R.loose, R.short⟩
theorem pool_new {h : Heap} {a : Addr} (ho : h.get? a = some (bare w)) : Pool P w h a [] #[] 0 (.fresh 0 0 (!w.params.followText "set-order")) := by
  refine ⟨⟨_, ho, ⟨rfl, rfl, rfl⟩, rfl⟩, rfl, ⟨.nil, rfl, rfl, .inl rfl, (fun x hx => nomatch hx), fun i h j hi => ?_⟩, .nil, (fun p hp => nomatch hp), ?_, ?_, ?_⟩
  · simp [hashes] at hi
  · show _ ∨ (!w.params.followText "set-order") = true
    cases w.params.followText "set-order" <;> simp
  · show 0 * 5 < 7 * 3
    decide
  · show 0 < 64
    decide
/-- one item put in, as set.add's own words ask for it -/
theorem add_item {a : Addr} {L : List Item} {es : Array (Int × Value)} {ep : Nat} {t : SetTable} (R : Pool P w s.heap a L es ep t) {x : Addr} {k : NestedKey} (hx : At P w s.heap k x) (hu : A.units + 8 < cLine) (more : L.length + 1 < 64) {Q : Bool → Shared → Prop}
    (hQ : ∀ b h' tk L' es' ep' t', s.toks ≤ tk → Heap.SameBut a s.heap h' → Pool P w h' a L' es' ep' t' → Put L k x L' → Q b { s with heap := h', toks := tk }) : wpAny (model P w) A (setAdd a (.ref x)) Q E s := by
  unfold setAdd
  refine wpAny_holding ?_
  refine wpAny_bind ((NK P w).pyHash hu hx ?_)
  exact put (s := { s with toks := s.toks + k.draws }) R hx hu more fun b h' L' es' ep' t' b1 R1 p1 => hQ b h' _ L' es' ep' t' (Nat.le_add_right _ _) b1 R1 p1
theorem call_set_items {l : Addr} {items : Array Value} (ks : List Item) {Q : Value → Shared → Prop} (hh : A.handled = none) (hl : s.heap.IsList l items ∨ s.heap.IsTuple l items) (hit : items.toList = ks.map fun p => Value.ref p.2)
    (hk : ∀ p ∈ ks, At P w s.heap p.1 p.2) (few : ks.length < 64) (hu : A.units + 11 < cLine)
    (h : ∀ (h' : Heap) (tk : Nat) L es ep t, Pool P w h' s.heap.objs.size L es ep t → Held ks ks.length L → (∀ b o, s.heap.get? b = some o → h'.get? b = some o) → Q (.ref s.heap.objs.size) { s with heap := h', toks := tk }) :
    wpAny (model P w) A (call (.type "set") [.ref l]) Q E s := by
  have cnt : items.size = ks.length := by rw [← Array.length_toList, hit, List.length_map]
  refine set_call (fun i h1 => (∀ b o, s.heap.get? b = some o → h1.get? b = some o) ∧ ∃ L es ep t, Pool P w h1 s.heap.objs.size L es ep t ∧ Held ks i L) hh hl (fun h1 k1 => ?_) (fun i h1 h2 j k2 => ?_) (fun i v z B Y Z hB hv j q => ?_) fun h' tk j k1 => ?_
  · exact ⟨fun b o e => k1 b o (Heap.get?_push_of_some _ e), [], _, _, _, pool_new (k1 _ _ (Heap.get?_push_size _ rfl)), ⟨(fun p hp => nomatch hp), (fun p hp => by simp at hp), Nat.le_refl _⟩⟩
  · obtain ⟨kp, L, es, ep, t, R, g⟩ := j
    have kp2 : ∀ b o, s.heap.get? b = some o → h2.get? b = some o := fun b o e => k2 b o (Nat.le_of_lt (Heap.lt_size e)) (kp b o e)
    exact ⟨kp2, L, es, ep, t, R.up (fun o e => k2 _ o (Nat.le_refl _) e) fun p hp => at_up (hk p (g.from_ p hp)) kp2, g⟩
  · obtain ⟨kp, L, es, ep, t, R, g⟩ := j
    have hv2 : (ks.map fun p => Value.ref p.2)[i]? = some v := by rw [← hit, Array.getElem?_toList]; exact hv
    rw [List.getElem?_map] at hv2
    obtain ⟨p, hp, rfl⟩ := Option.map_eq_some_iff.mp hv2
    have lt := (List.getElem?_eq_some_iff.mp hp).1
    have len := g.len
    refine add_item R (at_up (hk p (List.mem_of_getElem? hp)) kp) (by omega) (by omega) fun b h' tk L' es' ep' t' ht but R' p' => q b h' tk ht but ⟨fun c o e => ?_, L', es', ep', t', R', g.next hp p'⟩
    exact (but.2 c (Nat.ne_of_lt (Heap.lt_size e))).trans (kp c o e)
  · obtain ⟨_, L, es, ep, t, R, g⟩ := j
    exact h h' tk L es ep t R (cnt ▸ g) k1
/-- sorted of such a set: the list of the items in the table's order comes first -/
theorem collect_pool {a : Addr} {L : List Item} {es : Array (Int × Value)} {ep : Nat} {t : SetTable} (R : Pool P w s.heap a L es ep t) (hh : A.handled = none) {Q : List Value → Shared → Prop}
    (hQ : ∀ s' (L' : List Item), L'.Perm L → (∀ b o, s.heap.get? b = some o → s'.heap.get? b = some o) → s.heap.objs.size ≤ s'.heap.objs.size → s'.gens = s.gens → s'.os = s.os → Q (L'.map fun p => Value.ref p.2) s') :
    wpAny (model P w) A (collect (.ref a)) Q E s := by
  obtain ⟨o, ho, hex, hd⟩ := R.obj
  have cnt := R.count
  have sh := R.short
  refine collect_set hh ⟨o, ho, hex.1, hd⟩ R.fit (by unfold scanBound; omega) R.tab.ris R.order fun s' out k z g os pm => ?_
  have em : es.toList.map (·.2) = L.map fun p => Value.ref p.2 := by rw [R.rows, List.map_map]; rfl
  rw [em] at pm
  obtain ⟨L', e, p⟩ : ∃ L' : List Item, out = L'.map (fun p => Value.ref p.2) ∧ L'.Perm L := by
    have lift : ∀ {α β : Type} (f : α → β) {o l : List β}, o.Perm l → ∀ L : List α, l = L.map f → ∃ L' : List α, o = L'.map f ∧ L'.Perm L := by
      intro α β f o l pm
      induction pm with
      | nil => intro L e; exact ⟨[], rfl, by cases L with | nil => exact .nil | cons x r => exact nomatch e⟩
      | cons x _ ih =>
        intro L e
        cases L with
        | nil => exact nomatch e
        | cons y r =>
          injection e with e1 e2
          obtain ⟨L', z1, z2⟩ := ih r e2
          exact ⟨y :: L', by rw [z1, e1]; rfl, z2.cons y⟩
      | swap x y l =>
        intro L e
        match L, e with
        | u :: v :: r, e =>
          injection e with e1 e2
          injection e2 with e2 e3
          exact ⟨v :: u :: r, by rw [e1, e2, e3]; rfl, .swap u v r⟩
      | trans _ _ ih1 ih2 =>
        intro L e
        obtain ⟨L1, z1, z2⟩ := ih2 L e
        obtain ⟨L2, y1, y2⟩ := ih1 L1 z1
        exact ⟨L2, y1, y2.trans z2⟩
    exact lift _ pm L rfl
  subst e
  exact hQ s' L' p k z g os
end
end RG

/-! R41: set(xs), sorted(s), len(s), x in s as rules: s a set of tuples of nested data. -/
namespace RG
open PySem PySem.Spec PyProof.Rows L2
mutual
/-- data without lists and dicts read off no object that changes -/
theorem reads_plain {h : Heap} : ∀ (d : PyData) (v : Value) (as : List Addr), Reads h v d as → RN.kb d = true → as = []
  | .none, _, _, r, _ => by cases r; rfl
  | .bool _, _, _, r, _ => by cases r; rfl
  | .int _, _, _, r, _ => by cases r; rfl
  | .str _, _, _, r, _ => by cases r; rfl
  | .tuple ds, _, _, r, k => by cases r with | tuple _ _ _ ra => exact readsAll_plain ds _ _ ra k
  | .list _, _, _, _, k => nomatch k
  | .dict _, _, _, _, k => nomatch k
theorem readsAll_plain {h : Heap} : ∀ (ds : List PyData) (vs : List Value) (as : List Addr), ReadsAll h vs ds as → RN.kbs ds = true → as = []
  | [], _, _, r, _ => by cases r; rfl
  | d :: ds, _, _, r, k => by
    cases r with
    | cons r1 r2 =>
      have k2 := (Bool.and_eq_true _ _).mp (show (RN.kb d && RN.kbs ds) = true from k)
      rw [reads_plain d _ _ r1 k2.1, readsAll_plain ds _ _ r2 k2.2]; rfl
end
/-- the set's table, the items' objects aside -/
def Table (w : World) (h : Heap) (a : Addr) (L : List Item) : Prop := ∃ (es : Array (Int × Value)) (ep : Nat) (t : SetTable), (∃ o, h.get? a = some o ∧ o.ExactSet ∧ o.data = .set es ep t) ∧ es.toList = L.map (row w) ∧ TabOk t (hashes w L) ∧
  (L.map (·.1)).Nodup ∧ (w.params.followText "set-order" = true ∨ t.led = true) ∧ L.length * 5 < t.mask * 3 ∧ L.length < 64
def poolO (w : World) (a : Addr) (L : List Item) : HO := .ext fun h => Table w h a L
theorem Pool.table {P : Program} {w : World} {h : Heap} {a : Addr} {L : List Item} {es : Array (Int × Value)} {ep : Nat} {t : SetTable} (R : Pool P w h a L es ep t) : Table w h a L := ⟨es, ep, t, R.obj, R.rows, R.tab, R.apart, R.order, R.loose, R.short⟩
theorem Table.pool {P : Program} {w : World} {h : Heap} {a : Addr} {L : List Item} (T : Table w h a L) (hi : ∀ p ∈ L, At P w h p.1 p.2) : ∃ es ep t, Pool P w h a L es ep t := by
  obtain ⟨es, ep, t, z1, z2, z3, z4, z5, z6, z7⟩ := T
  exact ⟨es, ep, t, z1, z2, z3, z4, hi, z5, z6, z7⟩
theorem poolO_ok {P : Program} {w : World} {H : Hp} {h : Heap} {a : Addr} {L : List Item} (T : Table w h a L) : ObjOk P w H h a (poolO w a L) := by
  obtain ⟨_, _, _, ⟨o, ho, _⟩, _⟩ := id T
  refine ⟨T, ⟨o, ho⟩, fun h1 h2 y up => ?_⟩
  obtain ⟨es, ep, t, ⟨o', ho', r⟩, q⟩ := (show Table w h1 a L from y)
  exact ⟨es, ep, t, ⟨o', up o' ho', r⟩, q⟩
/-- an item with its data -/
def DatAt (K : PySem.W.Frag) (H : Hp) (p : Item) (d : PyData) : Prop := Dp K H (.ref p.2) d ∧ RN.kb d = true ∧ RN.nk d = p.1 ∧ p.1.depth ≤ 8
theorem DatAt.key {K : PySem.W.Frag} {H : Hp} {p : Item} {d : PyData} (x : DatAt K H p d) : RN.KeyAt K H p.1 p.2 := ⟨d, x.1, x.2.1, x.2.2.1, x.2.2.2⟩
theorem refs_are : ∀ {L : List Item} {us : List Value}, Vals (L.map fun p => V.ref p.2) us → us = L.map fun p => Value.ref p.2
  | [], _, .nil => rfl
  | _ :: _, _, .cons r t => by cases r; exact congrArg _ (refs_are t)
theorem refs_vals : ∀ L : List Item, Vals (L.map fun p => V.ref p.2) (L.map fun p => Value.ref p.2)
  | [] => .nil
  | _ :: r => .cons rfl (refs_vals r)
section
variable {X : Cx}
/-- set(xs) -/
def rSetOf (K : PySem.W.Frag) (w : World) : List V → Hp → VK → Prop := fun xs H Q => ∃ (l : Addr) (ks : List Item), xs = [.ref l] ∧ (SqL K H l (ks.map fun p => V.ref p.2) ∨ SqT K H l (ks.map fun p => V.ref p.2)) ∧
  (∀ p ∈ ks, RN.KeyAt K H p.1 p.2) ∧ ks.length < 64 ∧ ∀ a L, H a = none → (∀ p ∈ L, p ∈ ks) → (∀ p ∈ ks, p.1 ∈ L.map (·.1)) → (L.map (·.1)).Nodup → Q (.ref a) (upd H a (poolO w a L))
theorem cr_setOf (hc : X.calm = true) (hu : X.A.units + 64 < cLine) : CallR X (.type "set") (rSetOf X.K X.w) := by
  intro pins s σ H xs us Q I r h
  obtain ⟨l, ks, rfl, hl, hk, few, q⟩ := h
  rw [Vals.ref1 r]
  obtain ⟨its, rv, pl⟩ : ∃ its, Vals (ks.map fun p => V.ref p.2) its ∧ (s.heap.IsList l its.toArray ∨ s.heap.IsTuple l its.toArray) := by
    rcases hl with hl | hl
    · obtain ⟨its, rv, pl, _⟩ := I.list hl
      exact ⟨its, rv, .inl pl.isList⟩
    · obtain ⟨its, rv, pl, _⟩ := I.tuple hl
      exact ⟨its, rv, .inr pl⟩
  refine call_set_items (P := X.prog) (w := X.w) ks (I.ok.hd hc) pl (by simpa using refs_are rv) (fun p hp => RN.key_is I (hk p hp)) few (by omega) fun h' tk L es ep t R g up => ?_
  refine ⟨.ref s.heap.objs.size, upd H s.heap.objs.size (poolO X.w s.heap.objs.size L), I.laid (t' := tk) up (Nat.le_refl _) (poolO_ok R.table), rfl, q _ L (I.hok.fresh (Nat.le_refl _)) g.from_ (fun p hp => g.keys p ?_) R.apart⟩
  rwa [List.take_length]
/-- sorted(s) -/
def rSortOf (K : PySem.W.Frag) (w : World) : List V → Hp → VK → Prop := fun xs H Q => ∃ (a : Addr) (L : List Item) (dt : Item → PyData), xs = [.ref a] ∧ H a = some (poolO w a L) ∧ (∀ p ∈ L, DatAt K H p (dt p)) ∧
  PySem.W.AllAlike (L.map dt) ∧ PySem.W.Sortable (L.map dt) ∧ R0.DepLe 60 (L.map dt) ∧
  ∀ (L' : List Item) (p : Addr), L'.Perm L → H p = none → Q (.ref p) (upd H p (.lst ((L'.mergeSort (PySem.W.dataLe false dt)).map fun q => V.ref q.2)))
theorem cr_sortOf (hc : X.calm = true) (hu : X.A.units + 64 < cLine) : CallR X (.builtin "sorted") (rSortOf X.K X.w) := by
  intro pins s σ H vs us Q I r h
  obtain ⟨a, L, dt, rfl, ha, hk, hal, hso, hdp, q⟩ := h
  obtain ⟨es, ep, t, R⟩ := (show Table X.w s.heap a L from (I.hok a _ ha).1).pool (P := X.prog) fun p hp => RN.key_is I (hk p hp).key
  rw [Vals.ref1 r]
  have few := R.short
  refine Calls.call_function_entry kind_sorted plain_sorted entry_sorted (args_sorted1 _) ?_
  unfold Builtin.«sorted»
  refine wpAny_bind (m := checkCount "sorted" 1 1 _) (wpAny_pure ?_)
  refine wpAny_bind (collect_pool R (by simpa using I.ok.hd hc) fun s1 L1 pm up big gs os => ?_)
  have len1 : L1.length < 64 := by rw [pm.length_eq]; exact few
  refine wpAny_bind (wpAny_newList ?_ (by rw [List.length_map, sizeLine_eq]; omega))
  have hoL : (s1.heap.push (seqObj "list" (L1.map fun p => Value.ref p.2).toArray 0)).get? s1.heap.objs.size = some (seqObj "list" (L1.map fun p => Value.ref p.2).toArray 0) := Heap.get?_push_size _ rfl
  have each : ∀ M : List Item, (∀ p ∈ M, p ∈ L) → PySem.W.EachIs (fun (v : Value) (p : Item) => v = .ref p.2) (M.map fun p => Value.ref p.2) M := by
    intro M
    induction M with
    | nil => intro _; exact .nil
    | cons p M ih => intro hm; exact .cons rfl (ih fun u hu => hm u (.tail _ hu))
  have reads : ∀ M : List Item, (∀ p ∈ M, p ∈ L) → PySem.W.EachIs (fun (v : Value) (p : Item) => ∃ as, Reads (s1.heap.push (seqObj "list" (L1.map fun p => Value.ref p.2).toArray 0)) v (dt p) as ∧ s1.heap.objs.size ∉ as) (M.map fun p => Value.ref p.2) M := by
    intro M
    induction M with
    | nil => intro _; exact .nil
    | cons p M ih =>
      intro hm
      have x := hk p (hm p (.head _))
      obtain ⟨as, ra⟩ := Dp.reads I _ _ _ x.1 (show RelV (V.ref p.2) (Value.ref p.2) from rfl)
      have e := reads_plain _ _ _ ra x.2.1
      subst e
      exact .cons ⟨[], PyProof.Rows.Reads.keeps (fun b o z => Heap.get?_push_of_some _ (up b o z)) ra, fun z => nomatch z⟩ (ih fun u hu => hm u (.tail _ hu))
  have sub : ∀ p ∈ L1, p ∈ L := fun p hp => pm.mem_iff.mp hp
  have pmd := pm.map dt
  refine wpAny_bind (wpAny_holding (PySem.W.list_sort_data (s := { s1 with heap := s1.heap.push (seqObj "list" (L1.map fun p => Value.ref p.2).toArray 0) }) (enc := dt) (R := fun (v : Value) (p : Item) => v = .ref p.2) hoL (each L1 sub) (reads L1 sub) ?_ ?_ (by rw [sizeLine_eq]; omega) (fun p hp => ?_) fun out hlen hE => ?_))
  · intro d hd d' hd'
    exact hal d (pmd.mem_iff.mp hd) d' (pmd.mem_iff.mp hd')
  · rcases hso with z | z
    · exact .inl fun d hd => z d (pmd.mem_iff.mp hd)
    · exact .inr fun d hd => z d (pmd.mem_iff.mp hd)
  · have z := hdp _ (List.mem_map.mpr ⟨p, sub p hp, rfl⟩)
    simp only [Around.in1_units]
    omega
  · have hout : out = (L1.mergeSort (PySem.W.dataLe false dt)).map fun q => Value.ref q.2 := by
      have all : ∀ {o : List Value} {M : List Item}, PySem.W.EachIs (fun (v : Value) (p : Item) => v = .ref p.2) o M → o = M.map fun q => Value.ref q.2 := by
        intro o M e
        induction e with
        | nil => rfl
        | cons h1 _ ih => rw [h1, ih]; rfl
      exact all hE
    obtain ⟨c, at2⟩ := sortedHeap_at (vs := L1.map fun p => Value.ref p.2) (out := out.toArray) hoL
    have up2 : ∀ b o, s.heap.get? b = some o → (sortedHeap (s1.heap.push (seqObj "list" (L1.map fun p => Value.ref p.2).toArray 0)) s1.heap.objs.size (L1.map fun p => Value.ref p.2) out.toArray).get? b = some o := fun b o z => by
      have y := up b o z
      have lt := Heap.lt_size y
      rw [sortedHeap_old (Nat.ne_of_lt lt) (by rw [size_push']; exact Nat.lt_succ_of_lt lt)]
      exact Heap.get?_push_of_some _ y
    have fresh : H s1.heap.objs.size = none := I.hok.fresh big
    refine wpAny_pure ⟨_, rfl, .ref s1.heap.objs.size, upd H s1.heap.objs.size (.lst ((L1.mergeSort (PySem.W.dataLe false dt)).map fun q => V.ref q.2)), ?_, rfl, q L1 _ pm fresh⟩
    refine I.call' (ch := []) os (Un.laid up2 big fresh) (I.hok.laid up2 big ⟨?_, out, c, ?_, at2⟩) ?_ (fun _ z => nomatch z)
    · rw [List.length_map, List.length_mergeSort, sizeLine_eq]; omega
    · rw [hout]; exact refs_vals _
    · show AllBare s1.gens
      rw [gs]; exact I.bare
end
end RG

/-! R42: set(xs) of numbers, xs a list or a tuple. -/
namespace RG
open PySem PySem.Spec PyProof.Rows L2
section
variable {X : Cx}
/-- set(xs) of numbers, some perhaps twice -/
def rSetNs (K : PySem.W.Frag) (w : World) : List V → Hp → VK → Prop := fun xs H Q => ∃ (l : Addr) (ns : List Int), xs = [.ref l] ∧ (SqL K H l (ns.map V.int) ∨ SqT K H l (ns.map V.int)) ∧ ns.length < 64 ∧
  ∀ a n, H a = none → n ≤ ns.length → Q (.ref a) (upd H a (SetO w a (fun j => decide (j ∈ ns)) n))
theorem cr_setNs (hc : X.calm = true) (hu : X.A.units + 64 < cLine) : CallR X (.type "set") (rSetNs X.K X.w) := by
  intro pins s σ H xs us Q I r h
  obtain ⟨l, ns, rfl, hl, few, q⟩ := h
  rw [Vals.ref1 r]
  obtain ⟨its, rv, pl⟩ : ∃ its, Vals (ns.map V.int) its ∧ (s.heap.IsList l its.toArray ∨ s.heap.IsTuple l its.toArray) := by
    rcases hl with hl | hl
    · obtain ⟨its, rv, pl, _⟩ := I.list hl
      exact ⟨its, rv, .inl pl.isList⟩
    · obtain ⟨its, rv, pl, _⟩ := I.tuple hl
      exact ⟨its, rv, .inr pl⟩
  have ia := ints_of_vals rv
  have cnt : its.toArray.size = ns.length := by rw [List.size_toArray, ← rv.length, List.length_map]
  refine set_call (P := X.prog) (w := X.w) (fun i h1 => ∃ c, c ≤ i ∧ SetR X.w h1 s.heap.objs.size (fun j => decide (j ∈ ns.take i)) c) (I.ok.hd hc) pl (fun h1 k1 => ?_) (fun i h1 h2 j k2 => ?_) (fun i v z B Y Z hB hv j q => ?_) fun h' tk j k1 => ?_
  · exact ⟨0, Nat.le_refl _, setR_new_at (k1 _ _ (Heap.get?_push_size _ rfl))⟩
  · obtain ⟨c, hc, S⟩ := j
    exact ⟨c, hc, S.at fun o e => k2 _ o (Nat.le_refl _) e⟩
  · obtain ⟨c, hc, S⟩ := j
    have hi : i < ns.length := by rw [← cnt]; exact (Array.getElem?_eq_some_iff.mp hv).1
    obtain ⟨t, rfl⟩ := PyProof.Rows.IntsAre.int_at ia i v (by simpa using hv)
    have hz : ns[i]? = some (ns.getD i 0) := by rw [List.getElem?_eq_getElem hi, List.getD_eq_getElem?_getD, List.getElem?_eq_getElem hi]; rfl
    generalize ns.getD i 0 = k at hz
    unfold setAdd
    refine wpAny_holding ?_
    refine wpAny_bind ((intKind X.prog X.w).pyHash (k := k) (intKind_is _ _ _ _) ?_)
    refine setR_add_hashed (s := { z with toks := z.toks + 1 }) S (by unfold scanBound; omega) fun h' sb S2 => q _ h' _ (Nat.le_add_right _ _) sb ⟨_, ?_, S2.congr fun j => ?_⟩
    · split <;> omega
    · rw [List.take_add_one, hz]
      simp [List.mem_append]
  · obtain ⟨c, hc, S⟩ := j
    rw [cnt] at hc S
    rw [List.take_length] at S
    exact ⟨.ref s.heap.objs.size, upd H s.heap.objs.size (SetO X.w s.heap.objs.size (fun j => decide (j ∈ ns)) c), I.laid (t' := tk) k1 (Nat.le_refl _) (setO_new S), rfl, q _ c (I.hok.fresh (Nat.le_refl _)) hc⟩
end
end RG

/-! sorted(set(xs)) -/
namespace PL
open PySem PySem.Spec PyProof.Rows L2 RN RG
section
variable {K : PySem.W.Frag} {w : World} {I0 H0 I H H' : Hp} {sa : Option Addr} {R tk : List Rt}
theorem cr_sortOfK {X : Cx} (hc : X.calm = true) (hu : X.A.units + 64 < cLine) (hK : X.K = K) (hw : X.w = w) : CallR X (.builtin "sorted") (rSortOf K w) := by subst hK hw; exact cr_sortOf hc hu
theorem cr_setOfK {X : Cx} (hc : X.calm = true) (hu : X.A.units + 64 < cLine) (hK : X.K = K) (hw : X.w = w) : CallR X (.type "set") (rSetOf K w) := by subst hK hw; exact cr_setOf hc hu
theorem cr_sortNsK {X : Cx} (hc : X.calm = true) (hw : X.w = w) : CallR X (.builtin "sorted") (rSortedSet w) := by subst hw; exact cr_sortedSet hc
theorem cr_setNsK {X : Cx} (hc : X.calm = true) (hu : X.A.units + 64 < cLine) (hK : X.K = K) (hw : X.w = w) : CallR X (.type "set") (rSetNs K w) := by subst hK hw; exact cr_setNs hc hu
/-- what is asked of the items of a set -/
structure SetOk (xs : List PyData) : Prop where
  tup : ∀ d ∈ xs, ∃ ds, d = .tuple ds
  key : ∀ d ∈ xs, RN.kb d = true ∧ (RN.nk d).depth ≤ 8
  one : ∀ d ∈ xs, ∀ d' ∈ xs, RN.nk d = RN.nk d' → d = d'
  alike : PySem.W.AllAlike xs
  sort : PySem.W.Sortable xs
  deep : R0.DepLe 60 xs
  few : xs.length < 64
abbrev pSortSetT (p : PEx) : PEx := fun e Q => p e fun s e1 => sq s e1 fun xs => SetOk xs ∧ ∀ ys, ys.Nodup → (∀ d, d ∈ ys ↔ d ∈ xs) → Q (.l (sortD ys)) e1
abbrev pSortSetI (p : PEx) : PEx := fun e Q => p e fun s e1 => sq s e1 fun xs => ∃ ns, intsD xs = some ns ∧ ns.length < 64 ∧ ∀ ms : List Int, ms.Pairwise (· < ·) → (∀ k, k ∈ ms ↔ k ∈ ns) → Q (.l (ms.map .int)) e1
theorem wa_map_int (I : Hp) : ∀ ms : List Int, WA K I (ms.map V.int) (ms.map .int)
  | [] => .nil
  | m :: ms => .cons (.int m) (wa_map_int I ms)
theorem sim_sortSetI {t : TE} {p : PEx} (h : SimE K t p) : SimE K (tCB (rSortedSet w) (tCons (tCB (rSetNs K w) (tCons t tNil)) tNil)) (pSortSetI p) := fun I0 H0 sa H R tk Q tQ rp hp c => by
  refine h I0 H0 sa H R tk _ _ rp hp fun v s H1 R1 e1 al r1 hq => ?_
  obtain ⟨I, r1⟩ := r1
  obtain ⟨xs, ⟨pa, ws, rfl, hs, wx⟩, ns, e2, few, q⟩ := r1.rd (v := v) (s := s) r1.top al hq
  rw [wa_ints wx e2] at hs
  refine ⟨pa, ns, rfl, hs.imp And.left id, few, fun a n na hn => ?_⟩
  refine ⟨a, _, n, rfl, upd_same, by omega, fun ms b srt mem len nb => ?_⟩
  have r2 := r1.pop.heap (sm_upd na (o := SetO w a (fun j => decide (j ∈ ns)) n))
  refine c _ (.l (ms.map .int)) _ R1 e1 trivial ⟨I, ?_⟩ (q ms srt fun k => by rw [mem k]; exact decide_eq_true_iff)
  exact r2.new nb (wa_map_int I ms)
abbrev pItO (p q : PAx) : PAx := fun e Q => p e Q ∨ q e Q
theorem sim_itO {wi wj : TI} {p q : PAx} (h : SimI K wi p) (g : SimI K wj q) : SimI K (fun σ H Q => wi σ H Q ∨ wj σ H Q) (pItO p q) := fun I0 H0 sa H R tk Q tR rp hp c => by
  rcases hp with hp | hp
  · exact .inl (h I0 H0 sa H R tk Q tR rp hp c)
  · exact .inr (g I0 H0 sa H R tk Q tR rp hp c)
/-- the items behind a list of tuples -/
theorem items_of : ∀ {xs : List PyData} {ws : List V}, WA K I ws xs → (∀ d ∈ xs, ∃ ds, d = .tuple ds) → ∃ ks : List Item, ws = ks.map (fun p => V.ref p.2) ∧ ks.map (·.1) = xs.map RN.nk ∧ ∀ p ∈ ks, ∃ d ∈ xs, W K I (.ref p.2) d ∧ RN.nk d = p.1
  | [], _, .nil, _ => ⟨[], rfl, rfl, fun p h => nomatch h⟩
  | d :: xs, _, .cons wd r, ht => by
    obtain ⟨ks, e1, e2, e3⟩ := items_of r fun x hx => ht x (.tail _ hx)
    obtain ⟨ds, rfl⟩ := ht d (.head _)
    cases id wd with
    | @tup b _ _ _ _ =>
      refine ⟨(RN.nk (.tuple ds), b) :: ks, by rw [e1]; rfl, by rw [List.map_cons, List.map_cons, e2], fun p hp => ?_⟩
      rcases List.mem_cons.mp hp with rfl | hp
      · exact ⟨_, .head _, wd, rfl⟩
      · obtain ⟨d, h1, h2⟩ := e3 p hp
        exact ⟨d, .tail _ h1, h2⟩
theorem wa_of_map {α : Type} {f : α → V} {g : α → PyData} : ∀ {l : List α}, (∀ x ∈ l, W K I (f x) (g x)) → WA K I (l.map f) (l.map g)
  | [], _ => .nil
  | x :: l, h => .cons (h x (.head _)) (wa_of_map fun y hy => h y (.tail _ hy))
theorem sim_sortSetT {t : TE} {p : PEx} (h : SimE K t p) : SimE K (tCB (rSortOf K w) (tCons (tCB (rSetOf K w) (tCons t tNil)) tNil)) (pSortSetT p) := fun I0 H0 sa H R tk Q tQ rp hp c => by
  refine h I0 H0 sa H R tk _ _ rp hp fun v s H1 R1 e1 al r1 hq => ?_
  obtain ⟨I, r1⟩ := r1
  obtain ⟨xs, ⟨pa, ws, rfl, hs, wx⟩, ok, q⟩ := r1.rd (v := v) (s := s) r1.top al hq
  obtain ⟨ks, rfl, ek, hk⟩ := items_of wx ok.tup
  have klen : ks.length = xs.length := by have := congrArg List.length ek; simpa using this
  refine ⟨pa, ks, rfl, hs.imp And.left id, fun p hp => ?_, by rw [klen]; exact ok.few, fun a L na sub all nd => ?_⟩
  · obtain ⟨d, h1, h2, h3⟩ := hk p hp
    exact ⟨d, (h2.mono r1.ih).dp, (ok.key d h1).1, h3, h3 ▸ (ok.key d h1).2⟩
  -- an item's data
  have ch : ∀ p : Item, ∃ d, p ∈ ks → d ∈ xs ∧ W K I (.ref p.2) d ∧ RN.nk d = p.1 := fun p => by
    by_cases hp : p ∈ ks
    · obtain ⟨d, h⟩ := hk p hp
      exact ⟨d, fun _ => h⟩
    · exact ⟨.none, fun z => absurd z hp⟩
  let dt : Item → PyData := fun p => Classical.choose (ch p)
  have hdt : ∀ p ∈ ks, dt p ∈ xs ∧ W K I (.ref p.2) (dt p) ∧ RN.nk (dt p) = p.1 := fun p hp => Classical.choose_spec (ch p) hp
  have r2 := r1.pop.heap (sm_upd na (o := poolO w a L))
  have mem : ∀ M : List Item, M.Perm L → ∀ d, d ∈ M.map dt ↔ d ∈ xs := fun M pm d => by
    rw [(pm.map dt).mem_iff]
    constructor
    · intro hd
      obtain ⟨p, hp, rfl⟩ := List.mem_map.mp hd
      exact (hdt p (sub p hp)).1
    · intro hd
      have kd : RN.nk d ∈ ks.map (·.1) := by rw [ek]; exact List.mem_map.mpr ⟨d, hd, rfl⟩
      obtain ⟨p, hp, e⟩ := List.mem_map.mp kd
      obtain ⟨p2, hp2, e2⟩ := List.mem_map.mp (all p hp)
      have z := hdt p2 (sub p2 hp2)
      exact List.mem_map.mpr ⟨p2, hp2, ok.one _ z.1 d hd (by rw [z.2.2, e2, e])⟩
  have und : (L.map dt).Nodup := by
    have e : (L.map dt).map RN.nk = L.map (·.1) := by
      rw [List.map_map]
      exact List.map_congr_left fun p hp => (hdt p (sub p hp)).2.2
    exact List.Pairwise.of_map RN.nk (fun _ _ hne z => hne (by rw [z])) (e ▸ nd)
  have inx := mem L (.refl L)
  refine ⟨a, L, dt, rfl, upd_same, fun p hp => ?_, ?_, ?_, fun d hd => ok.deep d ((inx d).mp hd), fun L' b pm nb => ?_⟩
  · have z := hdt p (sub p hp)
    exact ⟨(z.2.1.mono r2.ih).dp, (ok.key _ z.1).1, z.2.2, z.2.2 ▸ (ok.key _ z.1).2⟩
  · intro d hd d' hd'
    exact ok.alike d ((inx d).mp hd) d' ((inx d').mp hd')
  · rcases ok.sort with z | z
    · exact .inl fun d hd => z d ((inx d).mp hd)
    · exact .inr fun d hd => z d ((inx d).mp hd)
  · have es : sortD (L'.map dt) = (L'.mergeSort (PySem.W.dataLe false dt)).map dt := by
      unfold sortD
      exact (List.map_mergeSort (r := PySem.W.dataLe false dt) (s := PySem.W.dataLe false id) (fun a _ b _ => rfl)).symm
    refine c _ (.l (sortD (L'.map dt))) _ R1 e1 trivial ⟨I, ?_⟩ (q _ ((pm.map dt).nodup_iff.mpr und) (mem L' pm))
    refine r2.new nb ?_
    rw [es]
    exact wa_of_map fun p hp => (hdt p (sub p (pm.mem_iff.mp ((List.mergeSort_perm _ _).mem_iff.mp hp)))).2.1
end
end PL

/-! the mathematics of law_k20: pairs of numbers, their closure -/
namespace M20
abbrev Pr := Int × Int
inductive TC (ps : List Pr) : Int → Int → Prop
  | base {a b : Int} : (a, b) ∈ ps → TC ps a b
  | step {a b c : Int} : TC ps a b → (b, c) ∈ ps → TC ps a c
theorem TC.trans {ps : List Pr} {a b c : Int} (h : TC ps a b) (g : TC ps b c) : TC ps a c := by
  induction g with
  | base m => exact h.step m
  | step _ m ih => exact ih.step m
theorem TC.of {ps qs : List Pr} (f : ∀ a b, (a, b) ∈ ps → TC qs a b) {a b : Int} (h : TC ps a b) : TC qs a b := by
  induction h with
  | base m => exact f _ _ m
  | step _ m ih => exact ih.trans (f _ _ m)
def plt (p q : Pr) : Prop := p.1 < q.1 ∨ (p.1 = q.1 ∧ p.2 < q.2)
theorem plt_irrefl (p : Pr) : ¬ plt p p := fun h => by
  rcases h with h | ⟨_, h⟩ <;> omega
theorem plt_asymm {p q : Pr} (h : plt p q) (g : plt q p) : False := by
  rcases h with h | ⟨h1, h⟩ <;> rcases g with g | ⟨g1, g⟩ <;> omega
theorem asc_nodup {cs : List Pr} (h : cs.Pairwise plt) : cs.Nodup := h.imp fun {a b} x e => by subst e; exact plt_irrefl _ x
theorem asc_unique {cs ds : List Pr} (h : cs.Pairwise plt) (g : ds.Pairwise plt) (m : ∀ p, p ∈ cs ↔ p ∈ ds) : cs = ds :=
  List.Perm.eq_of_pairwise (fun a b _ _ x y => (plt_asymm x y).elim) h g ((List.perm_ext_iff_of_nodup (asc_nodup h) (asc_nodup g)).mpr m)
/-- cs is the closure of ps, ascending -/
def Clo (ps cs : List Pr) : Prop := cs.Pairwise plt ∧ ∀ p : Pr, p ∈ cs ↔ TC ps p.1 p.2
theorem Clo.unique {ps cs ds : List Pr} (h : Clo ps cs) (g : Clo ps ds) : cs = ds := asc_unique h.1 g.1 fun p => (h.2 p).trans (g.2 p).symm
theorem Clo.sub {ps cs : List Pr} (h : Clo ps cs) {p : Pr} (m : p ∈ ps) : p ∈ cs := (h.2 p).mpr (.base m)
theorem Clo.trans {ps cs : List Pr} (h : Clo ps cs) {a b c : Int} (x : (a, b) ∈ cs) (y : (b, c) ∈ cs) : (a, c) ∈ cs := (h.2 (a, c)).mpr (((h.2 (a, b)).mp x).trans ((h.2 (b, c)).mp y))
theorem Clo.self {ps cs : List Pr} (h : Clo ps cs) : Clo cs cs := ⟨h.1, fun p => ⟨fun m => .base m, fun t => (h.2 p).mpr (t.of fun a b m => (h.2 (a, b)).mp m)⟩⟩
theorem Clo.of_mem {ps qs cs : List Pr} (h : Clo ps cs) (m : ∀ p, p ∈ ps ↔ p ∈ qs) : Clo qs cs := ⟨h.1, fun p => (h.2 p).trans ⟨fun t => t.of fun a b x => .base ((m _).mp x), fun t => t.of fun a b x => .base ((m _).mpr x)⟩⟩
/-- a transitive list that lies between the pairs and their closure has the closure's pairs -/
theorem tc_of_trans {ps fs : List Pr} (up : ∀ p ∈ ps, p ∈ fs) (tr : ∀ a b c : Int, (a, b) ∈ fs → (b, c) ∈ fs → (a, c) ∈ fs) {a b : Int} (h : TC ps a b) : (a, b) ∈ fs := by
  induction h with
  | base m => exact up _ m
  | step _ m ih => exact tr _ _ _ ih (up _ m)
def le2 (p q : Pr) : Bool := decide (p.1 < q.1 ∨ (p.1 = q.1 ∧ p.2 ≤ q.2))
def srt (ps : List Pr) : List Pr := ps.mergeSort le2
theorem srt_perm (ps : List Pr) : (srt ps).Perm ps := List.mergeSort_perm _ _
theorem srt_asc {ps : List Pr} (h : ps.Nodup) : (srt ps).Pairwise plt := by
  have s : (srt ps).Pairwise (fun a b => le2 a b = true) := List.pairwise_mergeSort (fun a b c x y => by
    simp only [le2, decide_eq_true_eq] at *; omega) (fun a b => by
    simp only [le2, Bool.or_eq_true, decide_eq_true_eq]; omega) ps
  have n : (srt ps).Nodup := (srt_perm ps).nodup_iff.mpr h
  refine (s.and n).imp fun {a b} x => ?_
  obtain ⟨x, ne⟩ := x
  simp only [le2, decide_eq_true_eq] at x
  unfold plt
  rcases x with x | ⟨x1, x2⟩
  · exact .inl x
  · refine .inr ⟨x1, ?_⟩
    have : a.2 ≠ b.2 := fun e => ne (Prod.ext x1 e)
    omega
theorem srt_of_asc {ps : List Pr} (h : ps.Pairwise plt) : srt ps = ps := asc_unique (srt_asc (asc_nodup h)) h fun p => (srt_perm ps).mem_iff
/-! ### the law's closure by three loops -/
/-- what the loops over low and high have done behind the pairs that `done` holds of -/
def Mid (m : Int) (F : Int → Int → Prop) (done : Int → Int → Prop) (fs : List Pr) : Prop := ∀ a b : Int, (a, b) ∈ fs ↔ (F a b ∨ (done a b ∧ F a m ∧ F m b))
theorem Mid.am {m : Int} {F : Int → Int → Prop} {done : Int → Int → Prop} {fs : List Pr} (h : Mid m F done fs) (a : Int) : (a, m) ∈ fs ↔ F a m := (h a m).trans ⟨fun z => z.elim id fun z => z.2.1, .inl⟩
theorem Mid.mb {m : Int} {F : Int → Int → Prop} {done : Int → Int → Prop} {fs : List Pr} (h : Mid m F done fs) (b : Int) : (m, b) ∈ fs ↔ F m b := (h m b).trans ⟨fun z => z.elim id fun z => z.2.2, .inl⟩
theorem mid_step {m lo hi : Int} {F : Int → Int → Prop} {done done' : Int → Int → Prop} {fs fs' : List Pr} (h : Mid m F done fs) (d : ∀ a b, done' a b ↔ (done a b ∨ (a = lo ∧ b = hi)))
    (c : (fs' = fs ++ [(lo, hi)] ∧ (lo, m) ∈ fs ∧ (m, hi) ∈ fs) ∨ (fs' = fs ∧ ((lo, m) ∈ fs → (m, hi) ∈ fs → (lo, hi) ∈ fs))) : Mid m F done' fs' := by
  intro a b
  rw [d]
  rcases c with ⟨rfl, c1, c2⟩ | ⟨rfl, c⟩
  · rw [List.mem_append, List.mem_singleton, h a b, Prod.mk.injEq]
    have c1 := (h.am _).mp c1
    have c2 := (h.mb _).mp c2
    constructor
    · rintro ((x | ⟨x, y, z⟩) | ⟨rfl, rfl⟩)
      · exact .inl x
      · exact .inr ⟨.inl x, y, z⟩
      · exact .inr ⟨.inr ⟨rfl, rfl⟩, c1, c2⟩
    · rintro (x | ⟨x | x, y, z⟩)
      · exact .inl (.inl x)
      · exact .inl (.inr ⟨x, y, z⟩)
      · exact .inr x
  · constructor
    · intro x
      rcases (h a b).mp x with x | ⟨x, y⟩
      · exact .inl x
      · exact .inr ⟨.inl x, y⟩
    · rintro (x | ⟨x | ⟨rfl, rfl⟩, y, z⟩)
      · exact (h a b).mpr (.inl x)
      · exact (h a b).mpr (.inr ⟨x, y, z⟩)
      · exact c ((h.am _).mpr y) ((h.mb _).mpr z)
theorem Mid.congr {m : Int} {F : Int → Int → Prop} {done done' : Int → Int → Prop} {fs : List Pr} (h : Mid m F done fs) (d : ∀ a b, done' a b ↔ done a b) : Mid m F done' fs := fun a b => by rw [d]; exact h a b
/-- closed at the middles of `ms` -/
def At (ms : List Int) (fs : List Pr) : Prop := ∀ m ∈ ms, ∀ a b : Int, (a, m) ∈ fs → (m, b) ∈ fs → (a, b) ∈ fs
theorem at_next {ms : List Int} {m : Int} {fs gs : List Pr} (h : At ms fs) (g : ∀ a b : Int, (a, b) ∈ gs ↔ ((a, b) ∈ fs ∨ ((a, m) ∈ fs ∧ (m, b) ∈ fs))) : At (ms ++ [m]) gs := by
  intro k hk a b x y
  rw [g] at x y ⊢
  rcases List.mem_append.mp hk with hk | hk
  · have hc := h k hk
    rcases x with x | ⟨x1, x2⟩ <;> rcases y with y | ⟨y1, y2⟩
    · exact .inl (hc _ _ x y)
    · exact .inr ⟨hc _ _ x y1, y2⟩
    · exact .inr ⟨x1, hc _ _ x2 y⟩
    · exact .inr ⟨x1, y2⟩
  · obtain rfl := List.mem_singleton.mp hk
    rcases x with x | ⟨x1, x2⟩ <;> rcases y with y | ⟨y1, y2⟩
    · exact .inr ⟨x, y⟩
    · exact .inr ⟨x, y2⟩
    · exact .inr ⟨x1, y⟩
    · exact .inr ⟨x1, y2⟩
/-! ### lengths -/
theorem nodup_le {α : Type} [DecidableEq α] : ∀ {l D : List α}, l.Nodup → (∀ x ∈ l, x ∈ D) → l.length ≤ D.length
  | [], _, _, _ => Nat.zero_le _
  | x :: l, D, n, s => by
    obtain ⟨n1, n2⟩ := List.nodup_cons.mp n
    have hx := s x (.head _)
    have ih := nodup_le (l := l) (D := D.erase x) n2 fun y hy => (List.mem_erase_of_ne (fun e => by subst e; exact n1 hy)).2 (s y (.tail _ hy))
    rw [List.length_erase_of_mem hx] at ih
    have := List.length_pos_of_mem hx
    rw [List.length_cons]; omega
/-- all values of the pairs are among vs -/
def Over (vs : List Int) (ps : List Pr) : Prop := ∀ p ∈ ps, p.1 ∈ vs ∧ p.2 ∈ vs
def grid (vs : List Int) : List Pr := vs.flatMap fun a => vs.map fun b => (a, b)
theorem grid_len (vs : List Int) : (grid vs).length = vs.length * vs.length := by
  have : ∀ us : List Int, (us.flatMap fun a => vs.map fun b => ((a, b) : Pr)).length = us.length * vs.length := by
    intro us
    induction us with
    | nil => simp
    | cons u us ih => rw [List.flatMap_cons, List.length_append, List.length_map, ih, List.length_cons, Nat.succ_mul]; omega
  exact this vs
theorem over_grid {vs : List Int} {ps : List Pr} (h : Over vs ps) : ∀ p ∈ ps, p ∈ grid vs := fun p hp => by
  obtain ⟨h1, h2⟩ := h p hp
  exact List.mem_flatMap.mpr ⟨p.1, h1, List.mem_map.mpr ⟨p.2, h2, rfl⟩⟩
theorem tc_over {vs : List Int} {ps : List Pr} (h : Over vs ps) {a b : Int} (t : TC ps a b) : a ∈ vs ∧ b ∈ vs := by
  induction t with
  | base m => exact h _ m
  | step _ m ih => exact ⟨ih.1, (h _ m).2⟩
theorem clo_over {vs : List Int} {ps cs : List Pr} (h : Over vs ps) (c : Clo ps cs) : Over vs cs := fun p hp => tc_over h ((c.2 p).mp hp)
theorem clo_len {vs : List Int} {ps cs : List Pr} (h : Over vs ps) (c : Clo ps cs) : cs.length ≤ vs.length * vs.length := by
  have := nodup_le (asc_nodup c.1) (over_grid (clo_over h c))
  rwa [grid_len] at this
end M20
namespace M20
def rowP (n lo : Nat) : List Pr := ((List.range n).filter fun hi => decide (lo ≠ hi)).map fun (hi : Nat) => ((lo : Int), (hi : Int))
def prs (n : Nat) : List Pr := (List.range n).flatMap (rowP n)
def stepL (rs : List (List Pr)) (p : Pr) : List (List Pr) := rs ++ rs.map (· ++ [p])
def stepP (rs : List (List Pr)) (p : Pr) : List (List Pr) := rs.flatMap fun c => [c, c ++ [p]]
def lawRows (ps : List Pr) : List (List Pr) := ps.foldl stepL [[]]
def progRows (ps : List Pr) : List (List Pr) := ps.foldl stepP [[]]
theorem lawRows_snoc (ps : List Pr) (p : Pr) : lawRows (ps ++ [p]) = stepL (lawRows ps) p := by unfold lawRows; rw [List.foldl_append]; rfl
theorem progRows_snoc (ps : List Pr) (p : Pr) : progRows (ps ++ [p]) = stepP (progRows ps) p := by unfold progRows; rw [List.foldl_append]; rfl
theorem step_perm (p : Pr) : ∀ rs : List (List Pr), (stepP rs p).Perm (stepL rs p)
  | [] => .nil
  | c :: rs => by
    have ih := step_perm p rs
    show (c :: (c ++ [p]) :: stepP rs p).Perm (c :: (rs ++ (c ++ [p]) :: rs.map (· ++ [p])))
    refine .cons c ?_
    exact (ih.cons (c ++ [p])).trans List.perm_middle.symm
theorem stepL_perm (p : Pr) {rs ss : List (List Pr)} (h : rs.Perm ss) : (stepL rs p).Perm (stepL ss p) := h.append (h.map _)
theorem rows_perm : ∀ (ps : List Pr) {rs ss : List (List Pr)}, rs.Perm ss → (ps.foldl stepP rs).Perm (ps.foldl stepL ss)
  | [], _, _, h => h
  | p :: ps, _, _, h => rows_perm ps ((step_perm p _).trans (stepL_perm p h))
theorem lawRows_len : ∀ ps : List Pr, (lawRows ps).length = 2 ^ ps.length := by
  have g : ∀ (ps : List Pr) (rs : List (List Pr)), (ps.foldl stepL rs).length = rs.length * 2 ^ ps.length := by
    intro ps
    induction ps with
    | nil => intro rs; simp
    | cons p ps ih =>
      intro rs
      rw [List.foldl_cons, ih, stepL, List.length_append, List.length_map, List.length_cons, Nat.pow_succ, ← Nat.mul_two, Nat.mul_assoc, Nat.mul_comm 2]
  intro ps
  rw [lawRows, g, List.length_singleton, Nat.one_mul]
theorem lawRows_sub : ∀ ps : List Pr, ∀ c ∈ lawRows ps, List.Sublist c ps := by
  have g : ∀ (ps : List Pr) (rs : List (List Pr)) (qs : List Pr), (∀ c ∈ rs, List.Sublist c qs) → ∀ c ∈ ps.foldl stepL rs, List.Sublist c (qs ++ ps) := by
    intro ps
    induction ps with
    | nil => intro rs qs h c hc; rw [List.append_nil]; exact h c hc
    | cons p ps ih =>
      intro rs qs h c hc
      have z := ih (stepL rs p) (qs ++ [p]) (fun c hc => ?_) c hc
      · rwa [List.append_assoc] at z
      · rcases List.mem_append.mp hc with hc | hc
        · exact (h c hc).trans (List.sublist_append_left _ _)
        · obtain ⟨d, hd, rfl⟩ := List.mem_map.mp hc
          exact (h d hd).append (List.Sublist.refl _)
  intro ps c hc
  have := g ps [[]] [] (fun c hc => by rw [List.mem_singleton.mp hc]; exact List.Sublist.refl _) c hc
  simpa using this
def pltB (p q : Pr) : Bool := decide (p.1 < q.1 ∨ (p.1 = q.1 ∧ p.2 < q.2))
def ascB : List Pr → Bool
  | [] => true
  | p :: r => r.all (pltB p) && ascB r
theorem ascB_ok : ∀ {ps : List Pr}, ascB ps = true → ps.Pairwise plt
  | [], _ => .nil
  | p :: r, h => by
    have h2 := (Bool.and_eq_true _ _).mp (show (r.all (pltB p) && ascB r) = true from h)
    exact .cons (fun q hq => (of_decide_eq_true (List.all_eq_true.mp h2.1 q hq) : p.1 < q.1 ∨ (p.1 = q.1 ∧ p.2 < q.2))) (ascB_ok h2.2)
theorem prs_all : (List.range 4).all (fun n => ascB (prs n) && decide ((prs n).length ≤ 6) && (prs n).all fun p => decide (p.1 ∈ [(0 : Int), 1, 2]) && decide (p.2 ∈ [(0 : Int), 1, 2])) = true := by decide +kernel
structure RowOk (c : List Pr) : Prop where
  asc : c.Pairwise plt
  over : Over [0, 1, 2] c
  len : c.length ≤ 6
theorem prs_ok {n : Nat} (h : n ≤ 3) : RowOk (prs n) := by
  have z := List.all_eq_true.mp prs_all n (List.mem_range.mpr (by omega))
  rw [Bool.and_eq_true, Bool.and_eq_true] at z
  refine ⟨ascB_ok z.1.1, fun p hp => ?_, of_decide_eq_true z.1.2⟩
  have y := (Bool.and_eq_true _ _).mp (List.all_eq_true.mp z.2 p hp)
  exact ⟨of_decide_eq_true y.1, of_decide_eq_true y.2⟩
theorem RowOk.sub {c d : List Pr} (h : RowOk d) (s : List.Sublist c d) : RowOk c := ⟨h.asc.sublist s, fun p hp => h.over p (s.subset hp), Nat.le_trans s.length_le h.len⟩
/-- transitive -/
def trB (c : List Pr) : Bool := c.all fun p => c.all fun q => !(decide (p.2 = q.1)) || decide ((p.1, q.2) ∈ c)
theorem trB_iff {c : List Pr} : trB c = true ↔ ∀ a b d : Int, (a, b) ∈ c → (b, d) ∈ c → (a, d) ∈ c := by
  unfold trB
  rw [List.all_eq_true]
  constructor
  · intro h a b d x y
    have z := List.all_eq_true.mp (h _ x) _ y
    simpa using z
  · intro h p hp
    rw [List.all_eq_true]
    intro q hq
    by_cases e : p.2 = q.1
    · have z : (p.1, q.2) ∈ c := h p.1 p.2 q.2 hp (by rw [e]; exact hq)
      simp [z]
    · simp [e]
theorem clo_eq {c cs : List Pr} (h : RowOk c) (g : Clo c cs) : decide (cs = c) = trB c := by
  rw [Bool.eq_iff_iff, decide_eq_true_iff, trB_iff]
  constructor
  · rintro rfl a b d x y
    exact g.trans x y
  · intro t
    exact g.unique ⟨h.asc, fun p => ⟨fun m => .base m, fun z => tc_of_trans (fs := c) (fun _ x => x) t z⟩⟩
end M20

/-! the law's closure -/
namespace K20
open PySem PySem.Spec PyProof.Rows L2 RN PL M20
theorem _root_.L2.Room.units65 {k : Nat} {A : Around} (r : Room k A) : A.units + 65 < cLine := by have := r.un; omega
def eP (p : Pr) : PyData := .tuple [.int p.1, .int p.2]
theorem eP_inj {p q : Pr} (h : eP p = eP q) : p = q := by
  unfold eP at h
  injection h with h
  injection h with h1 h2
  injection h2 with h2 _
  injection h1 with h1
  injection h2 with h2
  exact Prod.ext h1 h2
theorem eP_eqv (p q : Pr) : PyData.eqv (eP p) (eP q) = decide (p = q) := by
  show ((p.1 == q.1) && ((p.2 == q.2) && true)) = decide (p = q)
  by_cases h : p = q
  · subst h; simp
  · rw [decide_eq_false h, Bool.and_true, Bool.and_eq_false_iff]
    by_cases h1 : p.1 = q.1
    · exact .inr (beq_eq_false_iff_ne.mpr fun h2 => h (Prod.ext h1 h2))
    · exact .inl (beq_eq_false_iff_ne.mpr h1)
theorem any_eP (fs : List Pr) (p : Pr) : ((fs.map eP).any fun z => PyData.eqv z (eP p)) = decide (p ∈ fs) := by
  rw [List.any_map, Bool.eq_iff_iff, List.any_eq_true, decide_eq_true_iff]
  constructor
  · rintro ⟨q, hq, e⟩
    have e : PyData.eqv (eP q) (eP p) = true := e
    rw [eP_eqv] at e
    exact (of_decide_eq_true e) ▸ hq
  · intro h
    exact ⟨p, h, by show PyData.eqv (eP p) (eP p) = true; rw [eP_eqv]; exact decide_eq_true rfl⟩
theorem can_eP : ∀ fs : List Pr, PyData.canLayAll0 (fs.map eP) = true ∧ PyData.depthAll (fs.map eP) ≤ 1
  | [] => ⟨rfl, by decide⟩
  | p :: fs => by
    obtain ⟨h1, h2⟩ := can_eP fs
    refine ⟨?_, ?_⟩
    · show (PyData.canLay0 (eP p) && PyData.canLayAll0 (fs.map eP)) = true
      rw [h1]; rfl
    · show max (PyData.depth (eP p)) (PyData.depthAll (fs.map eP)) ≤ 1
      have : PyData.depth (eP p) = 1 := rfl
      omega
theorem sh_eP (p : Pr) : Sh (eP p) := rfl
theorem sh_eps (fs : List Pr) : Sh (.list (fs.map eP)) := by
  obtain ⟨h1, h2⟩ := can_eP fs
  show (PyData.canLayAll0 (fs.map eP) && decide (PyData.depthAll (fs.map eP) + 1 ≤ 64)) = true
  rw [h1, decide_eq_true (by omega)]; rfl
theorem al_eP (p q : Pr) : PySem.W.alike (eP p) (eP q) = true := by
  show PySem.W.alikeAll [.int p.1, .int p.2] [.int q.1, .int q.2] = true
  exact PySem.W.alike_ints [p.1, p.2] [q.1, q.2]
theorem srt_eps (fs : List Pr) : PySem.W.AllAlike (fs.map eP) ∧ PySem.W.Sortable (fs.map eP) ∧ R0.DepLe 60 (fs.map eP) :=
  ⟨PySem.W.AllAlike.of al_eP, PySem.W.Sortable.tuples fun p => ⟨_, _, rfl⟩, fun d hd => by
    obtain ⟨p, _, rfl⟩ := List.mem_map.mp hd
    show 1 ≤ 60; decide⟩
theorem sortD_eP (fs : List Pr) : sortD (fs.map eP) = (srt fs).map eP := by
  unfold sortD srt
  have e := PySem.W.dataLe_ii (fun p : Pr => p.1) (fun p : Pr => p.2)
  refine (List.map_mergeSort (r := le2) (s := PySem.W.dataLe false id) (f := eP) (l := fs) fun a _ b _ => ?_).symm
  exact (congrFun (congrFun e a) b).symm
theorem setOk_eP {fs : List Pr} (h : fs.length < 64) : SetOk (fs.map eP) := by
  obtain ⟨a1, a2, a3⟩ := srt_eps fs
  refine ⟨fun d hd => ?_, fun d hd => ?_, fun d hd d' hd' e => ?_, a1, a2, a3, by rw [List.length_map]; exact h⟩
  · obtain ⟨p, _, rfl⟩ := List.mem_map.mp hd; exact ⟨_, rfl⟩
  · obtain ⟨p, _, rfl⟩ := List.mem_map.mp hd; exact ⟨rfl, by show 1 ≤ 8; decide⟩
  · obtain ⟨p, _, rfl⟩ := List.mem_map.mp hd
    obtain ⟨q, _, rfl⟩ := List.mem_map.mp hd'
    have e : NestedKey.tup [.num p.1, .num p.2] = .tup [.num q.1, .num q.2] := e
    injection e with e
    injection e with e1 e2
    injection e2 with e2 _
    injection e1 with e1
    injection e2 with e2
    unfold eP
    rw [e1, e2]
/-- the items of a set of pairs, sorted -/
theorem set_eP {fs : List Pr} {ys : List PyData} (n : ys.Nodup) (m : ∀ d, d ∈ ys ↔ d ∈ fs.map eP) : ∃ cs : List Pr, sortD ys = cs.map eP ∧ cs.Pairwise plt ∧ ∀ p, p ∈ cs ↔ p ∈ fs := by
  obtain ⟨zs, rfl⟩ := map_of eP ys fun d hd => by
    obtain ⟨p, _, e⟩ := List.mem_map.mp ((m d).mp hd)
    exact ⟨p, e.symm⟩
  have nz : zs.Nodup := List.Pairwise.of_map eP (fun _ _ hne z => hne (by rw [z])) n
  refine ⟨srt zs, sortD_eP zs, srt_asc nz, fun p => ?_⟩
  rw [(srt_perm zs).mem_iff]
  constructor
  · intro h
    obtain ⟨q, hq, e⟩ := List.mem_map.mp ((m (eP p)).mp (List.mem_map.mpr ⟨p, h, rfl⟩))
    exact eP_inj e ▸ hq
  · intro h
    obtain ⟨q, hq, e⟩ := List.mem_map.mp ((m (eP p)).mpr (List.mem_map.mpr ⟨p, h, rfl⟩))
    exact eP_inj e ▸ hq
section
variable {P : Program} {w : World} {K : PySem.W.Frag} {mg : Str → Option Value} {base : Heap} {a : Ad}
/-- a list or a tuple of pairs, as an argument -/
def Arg (s : SV) (ps : List Pr) : Prop := s = .d (.list (ps.map eP)) ∨ s = .d (.tuple (ps.map eP))
def closeF : List SV → (SV → Prop) → Prop := fun ss P => ∃ (s : SV) (ps : List Pr) (vs : List Int), ss = [s] ∧ Arg s ps ∧ Over vs ps ∧ vs.length ≤ 7 ∧ ps.length ≤ 14 ∧ ∀ cs, Clo ps cs → P (.k (cs.map eP))
/-- the numbers at one place of the pairs -/
theorem rd_col {s : SV} {ps : List Pr} (ha : Arg s ps) {s1 s2 s3 s4 s5 : SV} (j : Int) (f : Pr → Int) (hj : ∀ p : Pr, atI [PyData.int p.1, PyData.int p.2] j = some (.int (f p))) (l : ps.length ≤ 1000) {Q : SV → PL.Env → Prop}
    (q : Q (.l (ps.map fun p => .int (f p))) [s, s1, s2, s3, s4, s5, .u]) : pLc [6] (pItO (pItL (pD (pVar 0))) (pItT (pD (pVar 0)))) (pgN 6) pYes (pIx (pVar 6) (pC (.int j))) [s, s1, s2, s3, s4, s5, .u] Q := by
  have body : ∃ Wp : Nat → List PyData → PL.Env → Prop, Wp 0 [] (wipeE [s, s1, s2, s3, s4, s5, .u] [6]) ∧
      (∀ (i : Nat) (x : PyData) (acc : List PyData) (e' : PL.Env), (ps.map eP)[i]? = some x → Wp i acc e' → pgN 6 x e' fun e2 => pYes e2 fun b e3 => if b = true then pIx (pVar 6) (pC (.int j)) e3 fun y e4 => acc.length < 1000 ∧ Wp (i + 1) (acc ++ [y]) (wipeE e4 [6]) else Wp (i + 1) acc (wipeE e3 [6])) ∧
      (∀ acc e', Wp (ps.map eP).length acc e' → Q (.l acc) e') := by
    refine ⟨fun i acc e' => e' = [s, s1, s2, s3, s4, s5, .u] ∧ acc = (ps.take i).map fun p => .int (f p), ⟨rfl, rfl⟩, ?_, ?_⟩
    · rintro i x acc e' hx ⟨rfl, rfl⟩
      obtain ⟨p, hp, rfl⟩ := map_at hx
      have lt := (List.getElem?_eq_some_iff.mp hp).1
      refine ⟨.int (f p), hj p, ?_, rfl, ?_⟩
      · rw [List.length_map, List.length_take]; omega
      · rw [List.take_add_one, hp, List.map_append]; rfl
    · rintro acc e' ⟨rfl, rfl⟩
      rw [List.length_map, List.take_length]
      exact q
  rcases ha with rfl | rfl
  · exact .inl body
  · exact .inr body
theorem ints_app (xs ys : List Int) : intsD (xs.map .int ++ ys.map .int) = some (xs ++ ys) := by rw [← List.map_append]; exact ints_map _
theorem in_eP {fs : List Pr} {p : Pr} {P : Bool → Prop} (h : P (decide (p ∈ fs))) : inB (eP p) (fs.map eP) P := ⟨sh_eP p, sh_eps fs, by rw [any_eP]; exact h⟩
theorem ok_l_closed (T : Top K mg a) : FnOk P w K mg base CX0 1 a.f_l_closed a.d_l_closed ["_law_pairs_here"] (spP K closeF) :=
  fn_p T.F_l_closed sc_l_closed (fun ss Pp ⟨s, ps, vs, e, ha, _⟩ => by subst e; rcases ha with rfl | rfl <;> exact ⟨rfl, trivial⟩) fun cdv A outer s H E hr => ⟨_, _, (pss_cons (ps_set (i := 1) sc_l_closed.nd rfl (.inl rfl) (pe_callTy (R1.list_ofK (K := K) rfl) (by rfl) T.z_list (by decide +kernel) (pa_cons (pv 0) pa_nil)))
    (pss_cons (ps_set (i := 2) sc_l_closed.nd rfl (.inl rfl) (pe_callB (PL.cr_sortNsK (w := w) rfl rfl) (by rfl) T.z_sorted (by decide +kernel) (pa_cons (pe_callTy (PL.cr_setNsK (K := K) (w := w) rfl hr.units rfl rfl) (by rfl) T.z_set (by decide +kernel) (pa_cons (pe_op (OpR.or op_add (OpR.or op_add_str (OpR.or op_cat (PL.op_catAK (K := K) rfl)))) (pe_lc (own := [("_law_pair", 6)]) rfl sc_l_closed.nd (R1.PI.or (R1.pi_listK (K := K) rfl (pv 0)) (R1.pi_tupK (K := K) rfl (pv 0))) (blkOk_by (own := [("_law_pair", 6)]) (N := ["_law_pairs_here", "_law_found", "_law_places", "_law_middle", "_law_low", "_law_high", "_law_pair"]) (sc := defScope s_l_closed) (by decide +kernel)) (fun _ _ _ _ _ => (pg_name (i := 6) sc_l_closed.nd rfl (.inl rfl))) (fun _ _ _ _ _ => pts_nil) (fun _ _ _ _ _ => (pe_ix (R1.ix_seqK (K := K) rfl) (pv 6) pe_int (fun _ _ => rfl)))) (pe_lc (own := [("_law_pair", 6)]) rfl sc_l_closed.nd (R1.PI.or (R1.pi_listK (K := K) rfl (pv 0)) (R1.pi_tupK (K := K) rfl (pv 0))) (blkOk_by (own := [("_law_pair", 6)]) (N := ["_law_pairs_here", "_law_found", "_law_places", "_law_middle", "_law_low", "_law_high", "_law_pair"]) (sc := defScope s_l_closed) (by decide +kernel)) (fun _ _ _ _ _ => (pg_name (i := 6) sc_l_closed.nd rfl (.inl rfl))) (fun _ _ _ _ _ => pts_nil) (fun _ _ _ _ _ => (pe_ix (R1.ix_seqK (K := K) rfl) (pv 6) pe_int (fun _ _ => rfl))))) pa_nil)) pa_nil)))
    (pss_cons (ps_for PassesOwn.never rfl (R1.pi_listK (K := K) rfl (pv 2)) (pg_name (i := 3) sc_l_closed.nd rfl (.inl rfl))
    (pss_one (ps_for PassesOwn.never rfl (R1.pi_listK (K := K) rfl (pv 2)) (pg_name (i := 4) sc_l_closed.nd rfl (.inl rfl))
    (pss_one (ps_for PassesOwn.never rfl (R1.pi_listK (K := K) rfl (pv 2)) (pg_name (i := 5) sc_l_closed.nd rfl (.inl rfl))
    (pss_one (ps_if (PW.pt (pw_and (pt_cmpR (OpR.or (PL.op_inDK (K := K) hr.units65 rfl) (R1.op_inDT (K := K) hr.units65 rfl)) (pe_tup (pa_cons (pv 4) (pa_cons (pv 3) pa_nil))) (pv 1) rfl) (pw_and (pt_cmpR (OpR.or (PL.op_inDK (K := K) hr.units65 rfl) (R1.op_inDT (K := K) hr.units65 rfl)) (pe_tup (pa_cons (pv 3) (pa_cons (pv 5) pa_nil))) (pv 1) rfl) (pw_and1 (pt_cmpR (OpR.or (PL.op_notInDK (K := K) hr.units65 rfl) (R1.op_notInDT (K := K) hr.units65 rfl)) (pe_tup (pa_cons (pv 4) (pa_cons (pv 5) pa_nil))) (pv 1) rfl)))))
    (pss_one (ps_expr (pe_bm PySem.F.plainAttrs_list PySem.F.slot_list_append PySem.F.type_list_append mt_append (pv 1) (pa_cons (pe_tup (pa_cons (pv 4) (pa_cons (pv 5) pa_nil))) pa_nil))))
    pss_nil)))))))
    (pss_one (ps_ret (pe_callTy RN.call_tupleF (by rfl) T.z_tuple (by decide +kernel) (pa_cons (pe_callB (PL.cr_sortOfK (K := K) (w := w) rfl hr.units rfl rfl) (by rfl) T.z_sorted (by decide +kernel) (pa_cons (pe_callTy (PL.cr_setOfK (K := K) (w := w) rfl hr.units rfl rfl) (by rfl) T.z_set (by decide +kernel) (pa_cons (pv 1) pa_nil)) pa_nil)) pa_nil))))))),
    (PL.sim_seq (PL.sim_set 1 (PL.sim_mv (PL.sim_rd PL.rd_list (PL.sim_var 0))))
    (PL.sim_seq (PL.sim_set 2 (PL.sim_mv (PL.sim_sortSetI (PL.sim_op PL.rule_add (PL.sim_dat (PL.sim_lc (PL.sim_itO (PL.sim_itL (PL.sim_dat (PL.sim_var 0))) (PL.sim_itT (PL.sim_dat (PL.sim_var 0)))) (PL.sim_gN 6) PL.sim_yes (PL.sim_ix (PL.sim_var 6) PL.sim_int) (by decide))) (PL.sim_dat (PL.sim_lc (PL.sim_itO (PL.sim_itL (PL.sim_dat (PL.sim_var 0))) (PL.sim_itT (PL.sim_dat (PL.sim_var 0)))) (PL.sim_gN 6) PL.sim_yes (PL.sim_ix (PL.sim_var 6) PL.sim_int) (by decide)))))))
    (PL.sim_seq (PL.sim_for (PL.sim_itL (PL.sim_dat (PL.sim_var 2))) (PL.sim_gN 3)
    (PL.sim_for (PL.sim_itL (PL.sim_dat (PL.sim_var 2))) (PL.sim_gN 4)
    (PL.sim_for (PL.sim_itL (PL.sim_dat (PL.sim_var 2))) (PL.sim_gN 5)
    (PL.sim_if (PL.sim_and (PL.sim_test (PL.sim_in (PL.sim_tup (PL.sim_cons (PL.sim_dat (PL.sim_var 4)) (PL.sim_cons (PL.sim_dat (PL.sim_var 3)) PL.sim_nil))) (PL.sim_var 1))) (PL.sim_and (PL.sim_test (PL.sim_in (PL.sim_tup (PL.sim_cons (PL.sim_dat (PL.sim_var 3)) (PL.sim_cons (PL.sim_dat (PL.sim_var 5)) PL.sim_nil))) (PL.sim_var 1))) (PL.sim_test (PL.sim_notin (PL.sim_tup (PL.sim_cons (PL.sim_dat (PL.sim_var 4)) (PL.sim_cons (PL.sim_dat (PL.sim_var 5)) PL.sim_nil))) (PL.sim_var 1)))))
    (PL.sim_drop (PL.sim_app (PL.sim_var 1) (PL.sim_tup (PL.sim_cons (PL.sim_dat (PL.sim_var 4)) (PL.sim_cons (PL.sim_dat (PL.sim_var 5)) PL.sim_nil)))))
    PL.sim_next))))
    (PL.sim_ret (PL.sim_mv (PL.sim_rdL PL.rd_tup (PL.sim_sortSetT (PL.sim_var 1)))))))), fun ss Pp ⟨s, ps, vs, e, ha, ov, lv, lp, q⟩ => by
    subst e
    -- the loops: fs is what is found
    have loops : ∀ ms : List Int, ms.Pairwise (· < ·) → (∀ k, k ∈ ms ↔ k ∈ ps.map (·.1) ++ ps.map (·.2)) → ∀ E1 : PEnds, E1 = { nx := fun x => Pp (SV.d PyData.none), rt := fun s x => retF Pp s } →
        pSeq (pFor (pItL (pD (pVar 2))) (pgN 3) (pFor (pItL (pD (pVar 2))) (pgN 4) (pFor (pItL (pD (pVar 2))) (pgN 5) (pIf (pAnd (pB (pIn (pTup (pCons (pD (pVar 4)) (pCons (pD (pVar 3)) pNil))) (pVar 1)))
          (pAnd (pB (pIn (pTup (pCons (pD (pVar 3)) (pCons (pD (pVar 5)) pNil))) (pVar 1))) (pB (pNotIn (pTup (pCons (pD (pVar 4)) (pCons (pD (pVar 5)) pNil))) (pVar 1)))))
          (pDrop (pApp (pVar 1) (pTup (pCons (pD (pVar 4)) (pCons (pD (pVar 5)) pNil))))) pNext)))) (pRet (pM (pRL tupF (pSortSetT (pVar 1))))) E1 [s, .l (ps.map eP), .l (ms.map .int), .u, .u, .u, .u] := by
      intro ms asc mem E1 hE
      have nod : ms.Nodup := asc.imp fun {a b} x e => by subst e; exact Int.lt_irrefl _ x
      have inv : ∀ k ∈ ms, k ∈ vs := fun k hk => by
        rcases List.mem_append.mp ((mem k).mp hk) with h | h <;> obtain ⟨p, hp, rfl⟩ := List.mem_map.mp h
        · exact (ov p hp).1
        · exact (ov p hp).2
      have lm : ms.length ≤ 7 := Nat.le_trans (nodup_le nod inv) lv
      have gl : (grid ms).length ≤ 49 := by
        rw [grid_len]
        have := Nat.mul_le_mul lm lm
        omega
      -- what is found: the pairs first, then new ones
      let Fnd : List Pr → Prop := fun fs => ∃ news : List Pr, fs = ps ++ news ∧ news.Nodup ∧ (∀ p ∈ news, p ∈ grid ms) ∧ ∀ p ∈ fs, TC ps p.1 p.2
      have fl : ∀ fs, Fnd fs → fs.length ≤ 63 := fun fs ⟨news, e, n, g, _⟩ => by
        have := nodup_le n g
        rw [e, List.length_append]; omega
      have oms : Over ms ps := fun p hp => ⟨(mem _).mpr (List.mem_append_left _ (List.mem_map.mpr ⟨p, hp, rfl⟩)), (mem _).mpr (List.mem_append_right _ (List.mem_map.mpr ⟨p, hp, rfl⟩))⟩
      have ofs : ∀ fs, Fnd fs → Over ms fs := fun fs ⟨_, _, _, _, t⟩ p hp => tc_over oms (t p hp)
      refine ⟨fun i e' => ∃ fs s3 s4 s5, e' = [s, .l (fs.map eP), .d (.list (ms.map .int)), s3, s4, s5, .u] ∧ Fnd fs ∧ At (ms.take i) fs, ⟨ps, _, _, _, rfl, ⟨[], by simp, .nil, (fun p h => nomatch h), fun p hp => .base hp⟩, fun m h => by simp at h⟩, ?_, ?_⟩
      · rintro i x e' hx ⟨f0, s3, s4, s5, rfl, F0, A0⟩
        obtain ⟨m, hm, rfl⟩ := map_at hx
        have mm := List.mem_of_getElem? hm
        refine ⟨fun j e' => ∃ fs s4 s5, e' = [s, .l (fs.map eP), .d (.list (ms.map .int)), .d (.int m), s4, s5, .u] ∧ Fnd fs ∧ Mid m (fun a b => (a, b) ∈ f0) (fun a b => a ∈ ms.take j ∧ b ∈ ms) fs, ⟨f0, _, _, rfl, F0, fun a b => ⟨.inl, fun z => z.elim id fun z => by simp at z⟩⟩, ?_, ?_⟩
        · rintro j x e' hx ⟨f1, s4, s5, rfl, F1, M1⟩
          obtain ⟨lo, hlo, rfl⟩ := map_at hx
          have mlo := List.mem_of_getElem? hlo
          refine ⟨fun k e' => ∃ fs s5, e' = [s, .l (fs.map eP), .d (.list (ms.map .int)), .d (.int m), .d (.int lo), s5, .u] ∧ Fnd fs ∧ Mid m (fun a b => (a, b) ∈ f0) (fun a b => (a ∈ ms.take j ∧ b ∈ ms) ∨ (a = lo ∧ b ∈ ms.take k)) fs, ⟨f1, _, rfl, F1, M1.congr fun a b => by simp⟩, ?_, ?_⟩
          · rintro k x e' hx ⟨fs, s5, rfl, FS, MS⟩
            obtain ⟨hi, hhi, rfl⟩ := map_at hx
            have mhi := List.mem_of_getElem? hhi
            have dn : ∀ a b, ((a ∈ ms.take j ∧ b ∈ ms) ∨ (a = lo ∧ b ∈ ms.take (k + 1))) ↔ (((a ∈ ms.take j ∧ b ∈ ms) ∨ (a = lo ∧ b ∈ ms.take k)) ∨ (a = lo ∧ b = hi)) := fun a b => by
              rw [List.take_add_one, hhi, List.mem_append]
              simp only [Option.toList_some, List.mem_singleton]
              constructor
              · rintro (h | ⟨h, h1 | h1⟩)
                · exact .inl (.inl h)
                · exact .inl (.inr ⟨h, h1⟩)
                · exact .inr ⟨h, h1⟩
              · rintro ((h | ⟨h, h1⟩) | ⟨h, h1⟩)
                · exact .inl h
                · exact .inr ⟨h, .inl h1⟩
                · exact .inr ⟨h, .inr h1⟩
            have stay : ((lo, m) ∈ fs → (m, hi) ∈ fs → (lo, hi) ∈ fs) → ∃ fs' s5, [s, .l (fs.map eP), .d (.list (ms.map .int)), .d (.int m), .d (.int lo), .d (.int hi), .u] = [s, .l (fs'.map eP), .d (.list (ms.map .int)), .d (.int m), .d (.int lo), s5, .u] ∧ Fnd fs' ∧ Mid m (fun a b => (a, b) ∈ f0) (fun a b => (a ∈ ms.take j ∧ b ∈ ms) ∨ (a = lo ∧ b ∈ ms.take (k + 1))) fs' :=
              fun h => ⟨fs, _, rfl, FS, mid_step MS dn (.inr ⟨rfl, h⟩)⟩
            refine ⟨by show 2 ≤ 1000; decide, sh_eP (lo, m), sh_eps fs, ?_⟩
            rw [show ((fs.map eP).any fun z => PyData.eqv z (.tuple [.int lo, .int m])) = decide ((lo, m) ∈ fs) from any_eP fs (lo, m)]
            by_cases c1 : (lo, m) ∈ fs
            · rw [decide_eq_true c1]
              refine ⟨by show 2 ≤ 1000; decide, sh_eP (m, hi), sh_eps fs, ?_⟩
              rw [show ((fs.map eP).any fun z => PyData.eqv z (.tuple [.int m, .int hi])) = decide ((m, hi) ∈ fs) from any_eP fs (m, hi)]
              by_cases c2 : (m, hi) ∈ fs
              · rw [decide_eq_true c2]
                refine ⟨by show 2 ≤ 1000; decide, sh_eP (lo, hi), sh_eps fs, ?_⟩
                rw [show ((fs.map eP).any fun z => PyData.eqv z (.tuple [.int lo, .int hi])) = decide ((lo, hi) ∈ fs) from any_eP fs (lo, hi)]
                by_cases c3 : (lo, hi) ∈ fs
                · rw [decide_eq_true c3]
                  exact stay fun _ _ => c3
                · rw [decide_eq_false c3]
                  refine ⟨by show 2 ≤ 1000; decide, ?_, ?_⟩
                  · rw [List.length_map]; have := fl fs FS; omega
                  · obtain ⟨news, e, n, g, t⟩ := FS
                    have k2 : fs.map eP ++ [eP (lo, hi)] = (fs ++ [(lo, hi)]).map eP := by rw [List.map_append]; rfl
                    refine ⟨fs ++ [(lo, hi)], .d (.int hi), ?_, ⟨news ++ [(lo, hi)], by rw [e, List.append_assoc], ?_, ?_, ?_⟩, mid_step MS dn (.inl ⟨rfl, c1, c2⟩)⟩
                    · rw [← k2]; rfl
                    · rw [List.nodup_append]
                      refine ⟨n, by simp, fun x hx y hy => ?_⟩
                      rw [List.mem_singleton.mp hy]
                      rintro rfl
                      exact c3 (by rw [e]; exact List.mem_append_right _ hx)
                    · intro p hp
                      rcases List.mem_append.mp hp with hp | hp
                      · exact g p hp
                      · rw [List.mem_singleton.mp hp]
                        exact List.mem_flatMap.mpr ⟨lo, mlo, List.mem_map.mpr ⟨hi, mhi, rfl⟩⟩
                    · intro p hp
                      rcases List.mem_append.mp hp with hp | hp
                      · exact t p hp
                      · rw [List.mem_singleton.mp hp]
                        exact (t _ c1).trans (t _ c2)
              · rw [decide_eq_false c2]
                exact stay fun _ z => absurd z c2
            · rw [decide_eq_false c1]
              exact stay fun z => absurd z c1
          · rintro e' ⟨fs, s5, rfl, FS, MS⟩
            refine ⟨fs, _, _, rfl, FS, MS.congr fun a b => ?_⟩
            rw [List.length_map, List.take_length, List.take_add_one, hlo, List.mem_append]
            simp only [Option.toList_some, List.mem_singleton]
            constructor
            · rintro ⟨h | h, h1⟩
              · exact .inl ⟨h, h1⟩
              · exact .inr ⟨h, h1⟩
            · rintro (⟨h, h1⟩ | ⟨h, h1⟩)
              · exact ⟨.inl h, h1⟩
              · exact ⟨.inr h, h1⟩
        · rintro e' ⟨fs, s4, s5, rfl, FS, MS⟩
          refine ⟨fs, _, _, _, rfl, FS, ?_⟩
          rw [List.take_add_one, hm]
          refine at_next A0 fun a b => ?_
          rw [MS a b, List.length_map, List.take_length]
          constructor
          · rintro (h | ⟨_, h⟩)
            · exact .inl h
            · exact .inr h
          · rintro (h | ⟨h, h1⟩)
            · exact .inl h
            · exact .inr ⟨⟨(ofs f0 F0 _ h).1, (ofs f0 F0 _ h1).2⟩, h, h1⟩
      · rintro e' ⟨fs, s3, s4, s5, rfl, FS, AS⟩
        subst hE
        rw [List.length_map, List.take_length] at AS
        refine ⟨setOk_eP (by have := fl fs FS; omega), fun ys n mm => ?_⟩
        obtain ⟨cs, e, c1, c2⟩ := set_eP n mm
        show Pp (.k (sortD ys))
        rw [e]
        refine q cs ⟨c1, fun p => ?_⟩
        rw [c2 p]
        have ov2 := ofs fs FS
        obtain ⟨news, e1, _, _, t⟩ := FS
        refine ⟨t p, fun z => tc_of_trans (fs := fs) (fun x hx => by rw [e1]; exact List.mem_append_left _ hx) (fun a b c x y => AS b (ov2 _ x).2 a c x y) z⟩
    have l1 : (ps.map fun p => PyData.int p.1).length + (ps.map fun p => PyData.int p.2).length ≤ 1000 := by rw [List.length_map, List.length_map]; omega
    have e1 : (ps.map fun p => PyData.int p.1) ++ (ps.map fun p => PyData.int p.2) = (ps.map (·.1)).map .int ++ (ps.map (·.2)).map .int := by rw [List.map_map, List.map_map]; rfl
    rcases ha with rfl | rfl
    · dsimp only [pSeq, pSet, pM, pR, listF, pSortSetI, pOp, pVar, look, gt, sq, mv, startE, List.set, List.append, List.replicate, pD, dat]
      refine rd_col (ps := ps) (.inl rfl) 0 (fun p => p.1) (fun p => rfl) (by omega) ?_
      refine rd_col (ps := ps) (.inl rfl) 1 (fun p => p.2) (fun p => rfl) (by omega) ?_
      refine ⟨l1, ps.map (·.1) ++ ps.map (·.2), ?_, ?_, fun ms m1 m2 => ?_⟩
      · rw [e1]; exact ints_app _ _
      · rw [List.length_append, List.length_map, List.length_map]; omega
      · exact loops ms m1 m2 _ rfl
    · dsimp only [pSeq, pSet, pM, pR, listF, pSortSetI, pOp, pVar, look, gt, sq, mv, startE, List.set, List.append, List.replicate, pD, dat]
      refine rd_col (ps := ps) (.inr rfl) 0 (fun p => p.1) (fun p => rfl) (by omega) ?_
      refine rd_col (ps := ps) (.inr rfl) 1 (fun p => p.2) (fun p => rfl) (by omega) ?_
      refine ⟨l1, ps.map (·.1) ++ ps.map (·.2), ?_, ?_, fun ms m1 m2 => ?_⟩
      · rw [e1]; exact ints_app _ _
      · rw [List.length_append, List.length_map, List.length_map]; omega
      · exact loops ms m1 m2 _ rfl⟩
end
end K20

/-! R43: sorted(xs), xs a list of alike tuples some of which may be empty. -/
namespace RS
open PySem PySem.Spec PyProof.Rows L2 PySem.W PySem.SeqAt
/-- the data can be sorted: as before, or all are tuples -/
def Srt2 (ds : List PyData) : Prop := PySem.W.Sortable ds ∨ ∀ d ∈ ds, ∃ xs, d = .tuple xs
section
variable {P : Program} {w : World} {A : Around} {E : Value → Shared → Prop} {s : Shared}
theorem call_tup_lt {Q : Value → Shared → Prop} {l b : Addr} {us vs : Array Value} {e r : Nat → Bool} (hl : s.heap.IsTuple l us) (hb : s.heap.IsTuple b vs)
    (he : ∀ j (h1 : j < us.size) (h2 : j < vs.size), EqAt A.in1 s us[j] vs[j] (e j)) (hr : ∀ j (h1 : j < us.size) (h2 : j < vs.size), e j = false → RcLt A.in1 s us[j] vs[j] (r j))
    (h : Q (.bool (firstLt e r (decide (us.size < vs.size)) (List.range (min us.size vs.size)))) s) : wpAny (model P w) A (call (.builtin "tuple.__lt__") [.ref l, .ref b]) Q E s := by
  obtain ⟨⟨c1, g1, t1, z1⟩, o1, k1, n1, y1⟩ := id hl
  obtain ⟨⟨c2, g2, t2, z2⟩, o2, k2, n2, y2⟩ := id hb
  simp only at k1 y1 k2 y2
  subst k1 y1 k2 y2
  exact call_meets F.slot_tuple_lt ⟨_, o1, rfl⟩ F.entry_tuple_lt (F.args_tuple_lt_2 _ _) (tuple_ltAt l b us vs n1 n2 g1 g2 z1 z2 e r) ⟨o1, o2, he, hr, h⟩
/-- two alike tuples compared by list.sort's own words -/
theorem lt_tups {f : Bool} {xs ys : List PyData} {a b : Value} {as bs : List Addr} {Q : Bool → Shared → Prop} (ra : Reads s.heap a (.tuple xs) as) (rb : Reads s.heap b (.tuple ys) bs) (h : alike (.tuple xs) (.tuple ys) = true)
    (hu : A.units + min (PyData.tuple xs).depth (PyData.tuple ys).depth < cLine) (q : Q (dataLt (.tuple xs) (.tuple ys)) s) : wpAny (model P w) A (oneLt' f a b) Q E s := by
  cases f with
  | false => exact oneLt_alike (fun z => nomatch z) ra rb h (fun z => nomatch z) hu q
  | true =>
    have hal : alikeAll xs ys = true := by simpa [alike] using h
    cases ra with
    | @tuple l o us n _ _ h1 h2 h3 h4 =>
      cases rb with
      | @tuple l' o' vs n' _ _ k1 k2 k3 k4 =>
        have n1 : us.size = xs.length := by simpa using ReadsAll.length _ _ _ h4
        have n2 : vs.size = ys.length := by simpa using ReadsAll.length _ _ _ k4
        rw [dataLt_tuple, ← firstLt_toks xs ys hal, ← n1, ← n2] at q
        rw [oneLt'_eq]
        simp only [if_true]
        refine wpAny_bind (wpAny_cRoomFor (room_here hu) ?_)
        refine wpAny_bind (wpAny_callSpecialIfBound?_slot (T := "tuple") ⟨_, h1, h2⟩ F.slot_tuple_lt (call_tup_lt (e := pairEq xs ys) (r := fun j => dataLt (xs.getD j .none) (ys.getD j .none)) ⟨_, h1, h2, _, h3⟩ ⟨_, k1, k2, _, k3⟩ (fun j j1 j2 => ?_) (fun j j1 j2 hj => ?_) ?_))
        · have z := eqAt_alikeAll xs ys A.in1 s us.toList vs.toList _ _ h4 k4 hal (room_in hu) j (by simpa using j1) (by simpa using j2)
          simpa using z
        · have z := rcLt_alikeAll xs ys A.in1 s us.toList vs.toList _ _ h4 k4 hal (room_in hu) j (by simpa using j1) (by simpa using j2) hj
          simpa using z
        · exact wpAny_truthy_bool q
theorem mapM_fun {α β : Type} {f : α → Sem β} (g : α → β) : ∀ (l : List α) {Q : List β → Shared → Prop}, (∀ v ∈ l, ∀ (Q' : β → Shared → Prop), Q' (g v) s → wpAny (model P w) A (f v) Q' E s) → Q (l.map g) s → wpAny (model P w) A (l.mapM f) Q E s
  | [], _, _, h => by rw [List.mapM_nil]; exact wpAny_pure h
  | x :: l, Q, hf, h => by
    rw [List.mapM_cons]
    exact wpAny_bind (hf x (.head _) _ (wpAny_bind (mapM_fun g l (Q := fun bs z => wpAny (model P w) A (pure (g x :: bs)) Q E z) (fun v hv => hf v (.tail _ hv)) (wpAny_pure h))))
/-- the first item of the tuple that is the value -/
def fstOf (h : Heap) : Value → Option Value
  | .ref a => match h.get? a with
    | some o => match o.data with
      | .seq us _ => us[0]?
      | _ => none
    | none => none
  | _ => none
theorem fst_ok {v : Value} {xs : List PyData} {as : List Addr} (r : Reads s.heap v (.tuple xs) as) : (∀ Q' : Option Value → Shared → Prop, Q' (fstOf s.heap v) s → wpAny (model P w) A (firstOfTuple' v) Q' E s) ∧ (xs = [] → fstOf s.heap v = none) := by
  cases r with
  | @tuple a o us n _ _ ho hc hd hr =>
    have e : fstOf s.heap (.ref a) = us[0]? := by simp only [fstOf, ho, hd]
    refine ⟨fun Q' q => ?_, fun z => ?_⟩
    · rw [kas_first_eq]
      refine wpAny_bind (Looks.here (show Looks (model P w) s.heap (typeOf (.ref a)) o.cls from (Looks.ld ho).andThen .now) ?_)
      rw [hc, if_neg (by first | decide | simp)]
      refine wpAny_bind (listItems_at ho hd (wpAny_pure ?_))
      rw [e] at q
      exact q
    · subst z
      rw [e]
      have z : us.size = 0 := by simpa using ReadsAll.length _ _ _ hr
      simp [z]
theorem each_right {α β : Type} {R : α → β → Prop} : ∀ {l : List α} {m : List β}, EachIs R l m → ∀ b ∈ m, ∃ a ∈ l, R a b
  | _, _, .nil, _, h => nomatch h
  | _, _, .cons h t, b, hb => by
    rcases List.mem_cons.mp hb with rfl | hb
    · exact ⟨_, .head _, h⟩
    · obtain ⟨a, h1, h2⟩ := each_right t b hb
      exact ⟨a, .tail _ h1, h2⟩
theorem sorts_tups {vs : List Value} {ds : List PyData} (e : EachIs (fun v d => ∃ as, Reads s.heap v d as) vs ds) (hal : AllAlike ds) (ht : ∀ d ∈ ds, ∃ xs, d = .tuple xs) (hu : ∀ d, d ∈ ds → A.units + d.depth < cLine) : SortsAt P w A s (dataKind s.heap ds) vs := by
  by_cases full : ∀ d ∈ ds, ∃ x r, d = .tuple (x :: r)
  · exact SortsAt.data e hal (.inl full) hu
  · have em : ∃ v ∈ vs, fstOf s.heap v = none := by
      obtain ⟨d, hd⟩ := Classical.not_forall.mp full
      obtain ⟨hd, hn⟩ := Classical.not_imp.mp hd
      obtain ⟨xs, rfl⟩ := ht d hd
      obtain ⟨v, hv, as, r⟩ := each_right e _ hd
      refine ⟨v, hv, (fst_ok (P := P) (w := w) (A := A) (E := fun _ _ => True) r).2 ?_⟩
      cases xs with
      | nil => rfl
      | cons x t => exact absurd ⟨x, t, rfl⟩ hn
    have room : ∀ {d d' : PyData}, d ∈ ds → A.units + min d.depth d'.depth < cLine := fun {d d'} hd => Nat.lt_of_le_of_lt (Nat.add_le_add_left (Nat.min_le_left _ _) _) (hu d hd)
    have cmp : ∀ (f : Bool) (E : Value → Shared → Prop) (x y : Value) (a b : (dataKind s.heap ds).α) (Q : Bool → Shared → Prop), (dataKind s.heap ds).keyOf x = some a → (dataKind s.heap ds).keyOf y = some b → Q ((dataKind s.heap ds).blt a b) s → wpAny (model P w) A (oneLt' f x y) Q E s := by
      intro f E x y a b Q ha hb q
      obtain ⟨d, as, hd, ra, rfl⟩ := dataKind_inv ha
      obtain ⟨d', as', hd', rb, rfl⟩ := dataKind_inv hb
      obtain ⟨xs, rfl⟩ := ht d hd
      obtain ⟨ys, rfl⟩ := ht d' hd'
      exact lt_tups ra rb (hal _ hd _ hd') (room hd) q
    have first : ∀ v ∈ vs, ∀ (E : Value → Shared → Prop) (Q' : Option Value → Shared → Prop), Q' (fstOf s.heap v) s → wpAny (model P w) A (firstOfTuple' v) Q' E s := fun v hv E Q' q => by
      obtain ⟨d, hd, as, r⟩ := e.left v hv
      obtain ⟨xs, rfl⟩ := ht d hd
      exact (fst_ok r).1 Q' q
    have types : ∀ v ∈ vs, Looks (model P w) s.heap (typeOf v) (.type "tuple") := fun v hv => by
      obtain ⟨d, hd, as, r⟩ := e.left v hv
      obtain ⟨xs, rfl⟩ := ht d hd
      exact looks_reads r
    have notAll : ((vs.map (fstOf s.heap)).toArray.all fun x => x.isSome) = false := by
      obtain ⟨v, hv, z⟩ := em
      rw [Bool.eq_false_iff]
      intro all
      simp only [List.all_toArray, List.all_map, List.all_eq_true] at all
      have := all v hv
      simp [z] at this
    refine ⟨fun v hv => ?_, if ((vs.map (fstOf s.heap)).toArray[0]?.bind id).isSome then general' else oneType', ?_, fun h2 E Q q => ?_⟩
    · obtain ⟨d, hd, as, r⟩ := e.left v hv
      exact ⟨_, dataKind_some hal hd r⟩
    · intro E x y a b Q ha hb q
      split
      · exact cmp false E x y a b Q ha hb q
      · exact cmp true E x y a b Q ha hb q
    · rw [keyKind'_eq, List.mapM_toArray, map_eq_pure_bind]
      refine wpAny_bind (wpAny_bind (mapM_fun (fstOf s.heap) vs (fun v hv Q' q => first v hv _ Q' q) (wpAny_pure ?_)))
      rw [if_neg (by rw [notAll]; simp)]
      by_cases c : ((vs.map (fstOf s.heap)).toArray[0]?.bind id).isSome = true
      · rw [if_pos c] at q ⊢
        exact wpAny_pure q
      · rw [if_neg c] at q ⊢
        rw [oneTypeOnly'_eq, List.mapM_toArray, map_eq_pure_bind]
        refine wpAny_bind (wpAny_bind (wpAny_bind (kas_mapM (r := Value.type "tuple") _ (fun v hv Q' q => (types v hv).here q) (wpAny_pure ?_))))
        have same : ((vs.map fun _ => Value.type "tuple").toArray.all fun x => x == Value.type "tuple") = true := by
          simp only [List.all_toArray, List.all_map, List.all_eq_true]
          intro _ _
          exact beq_self_eq_true _
        have zero : (vs.map fun _ => Value.type "tuple").toArray[0]? = some (Value.type "tuple") := by
          cases vs with
          | nil => simp at h2
          | cons v r => simp
        rw [zero]
        simp only [same, if_true]
        exact wpAny_pure (wpAny_pure q)
end
end RS

namespace RS
open PySem PySem.Spec PyProof.Rows L2 PySem.W
/-- sorted(xs), the items alike; tuples may be empty -/
def rSort2 (K : PySem.W.Frag) : List V → Hp → VK → Prop := fun vs H Q => ∃ (a : Addr) (xs : List V) (ds : List PyData), vs = [.ref a] ∧ SqL K H a xs ∧ DpAll K H xs ds ∧ PySem.W.AllAlike ds ∧ Srt2 ds ∧ R0.DepLe 60 ds ∧
  ∀ p, H p = none → Q (.ref p) (upd H p (.lst (R0.sortV xs ds)))
theorem cr_sort2 {X : Cx} (hu : X.A.units + 64 < cLine) : CallR X (.builtin "sorted") (rSort2 X.K) := by
  intro pins s σ H vs us Q I r h
  obtain ⟨a, xs, ds, rfl, hs, hd, hal, hk, hdep, q⟩ := h
  rcases hk with hk | ht
  · exact R0.cr_sortD hu pins s σ H _ us Q I r ⟨a, xs, ds, rfl, hs, hd, hal, hk, hdep, q⟩
  obtain ⟨its, rv, pl, hz⟩ := I.list hs
  rw [Vals.ref1 r]
  have el := R0.dpAll_len hd
  have em := R0.zip_snd el
  have ln : (xs.zip ds).length = xs.length := by rw [List.length_zip, ← el, Nat.min_self]
  have e := R0.each_rel rv hd
  have er := R0.each_reads I rv hd
  have er2 : EachIs (fun v (b : V × PyData) => ∃ as, Reads (sortingHeap (copyHeap s.heap its) (s.heap.objs.size + 1) its) v b.2 as) its (xs.zip ds) := er.mono fun _ _ z => z.imp fun _ r => PyProof.Rows.Reads.keeps (fun _ _ => sorting_copy_old) r
  have dl : ∀ d ∈ (xs.zip ds).map Prod.snd, X.A.units + 2 + d.depth < cLine := fun d hdm => by
    have := hdep d (by rwa [em] at hdm)
    omega
  refine sorted_vals pl.isList (sorts_tups (s := { s with heap := sortingHeap (copyHeap s.heap its) (s.heap.objs.size + 1) its }) (ds := (xs.zip ds).map Prod.snd) (each_map (R := fun v d => ∃ as, Reads (sortingHeap (copyHeap s.heap its) (s.heap.objs.size + 1) its) v d as) Prod.snd er2) (by rw [em]; exact hal) (by rw [em]; exact ht) (by simpa using dl)) (by rw [e.length, ln]; exact hz) ?_
  have hE := sortVals_data (enc := Prod.snd) false e er2 (by rw [em]; exact hal)
  obtain ⟨c, at2⟩ := PyProof.Rows.sortedAll_at s.heap its (sortVals (dataKind (sortingHeap (copyHeap s.heap its) (s.heap.objs.size + 1) its) ((xs.zip ds).map Prod.snd)) false its its).toArray
  have hv := R0.each_vals hE
  refine ⟨.ref (s.heap.objs.size + 1), upd H (s.heap.objs.size + 1) (.lst (R0.sortV xs ds)), I.laid (t' := s.toks) (fun b o z => PyProof.Rows.sortedAll_old z) (Nat.le_succ _) ⟨?_, _, c, hv, at2⟩, rfl, q _ (I.hok.fresh (Nat.le_succ _))⟩
  unfold R0.sortV
  rw [List.length_map, List.length_mergeSort, ln]
  exact hz
theorem cr_sort2K {X : Cx} {K : PySem.W.Frag} (hu : X.A.units + 64 < cLine) (hK : X.K = K) : CallR X (.builtin "sorted") (rSort2 K) := by subst hK; exact cr_sort2 hu
end RS

/-! sorted(xs), tuples that may be empty -/
namespace PL
open PySem PySem.Spec PyProof.Rows L2 RN RG
section
variable {K : PySem.W.Frag} {w : World} {I0 H0 I H H' : Hp} {sa : Option Addr} {R tk : List Rt}
abbrev sortF2 (xs : List PyData) (P : SV → Prop) : Prop := PySem.W.AllAlike xs ∧ RS.Srt2 xs ∧ R0.DepLe 60 xs ∧ P (.l (sortD xs))
theorem rd_sort2 : SimRL K (RS.rSort2 K) sortF2 := fun I H v xs P Q s ⟨p, ws, e, hs, _, w⟩ ⟨f1, f2, f3, f4⟩ c => by
  subst e
  exact ⟨p, ws, xs, rfl, hs, (w.mono s).dp, f1, f2, f3, fun l nl => c _ _ _ (res_lst s nl (wa_sort w)) f4⟩
theorem sim_neg {n : Int} : SimD K (tUn (rU fun i => .int (-i)) (tC (.int n))) (pC (.int (-n))) := fun I0 H0 sa H R tk Q tQ r hp c =>
  ⟨n, rfl, sim_int (n := -n) I0 H0 sa H R tk Q tQ r hp c⟩
theorem wa_rev : ∀ {ws : List V} {xs : List PyData}, WA K I ws xs → WA K I ws.reverse xs.reverse
  | _, _, .nil => .nil
  | _, _, .cons h t => by
    rw [List.reverse_cons, List.reverse_cons]
    exact WA.app (.cons h .nil) _ (wa_rev t)
theorem pe_revLK {X : Cx} {e : Expr} {te : TE} {k : Nat} {p1 p2 p3 pos : Pos} (hK : X.K = K) (he : PE X e te) : PE X (.Subscript e (.Slice none none (some (.UnaryOp .USub (.Constant (.int 1) k p1) p2)) p3) pos) (tRevL K te) := by subst hK; exact pe_revL he
abbrev revF (xs : List PyData) (P : SV → Prop) : Prop := P (.l xs.reverse)
theorem sim_rev {t : TE} {p : PEx} (h : SimE K t p) : SimE K (tRevL K t) (pRL revF p) := fun I0 H0 sa H R tk Q tQ rp hp c => by
  refine h I0 H0 sa H R tk _ _ rp hp fun v s H1 R1 e1 al r1 hq => ?_
  obtain ⟨I, r1⟩ := r1
  obtain ⟨xs, ⟨pa, ws, rfl, hs, hl, w⟩, q⟩ := r1.rdL (v := v) (s := s) r1.top al hq
  exact ⟨pa, ws, rfl, hs, fun l nl => c _ (.l xs.reverse) _ R1 e1 trivial ⟨_, r1.pop.new nl (wa_rev w)⟩ q⟩
end
end PL

/-! orders -/
namespace R1
open PySem PySem.Spec PyProof.Rows L2
theorem toks_eq {x y : PyData} (al : PySem.W.alike x y = true) (h : PySem.W.keyToks x = PySem.W.keyToks y) : PyData.eqv x y = true := by
  cases e : PyData.eqv x y with
  | true => rfl
  | false =>
    have := (PySem.W.toks_eqv x y al).2 e [] [.inl 0]
    rw [h, PySem.W.lex_pre, lex_irrefl] at this
    cases this
theorem sortK_perm {κ : Type} {enc : κ → PyData} (al : ∀ x y, PySem.W.alike (enc x) (enc y) = true) (ev : ∀ x y, PyData.eqv (enc x) (enc y) = true → x = y) {l m : List κ} (h : l.Perm m) : sortK enc l = sortK enc m := by
  have T : PySem.W.TotalLe (PySem.W.dataLe false enc) := PySem.W.sortLe_total (listOrd itemOrd) false fun b => PySem.W.keyToks (enc b)
  refine List.Perm.eq_of_pairwise (le := fun a b => PySem.W.dataLe false enc a b = true) (fun a b _ _ h1 h2 => ?_) (PySem.W.sort_pairwise T l) (PySem.W.sort_pairwise T m) ((List.mergeSort_perm l _).trans (h.trans (List.mergeSort_perm m _).symm))
  have g1 : (!lexLt itemOrd (PySem.W.keyToks (enc b)) (PySem.W.keyToks (enc a))) = true := h1
  have g2 : (!lexLt itemOrd (PySem.W.keyToks (enc a)) (PySem.W.keyToks (enc b))) = true := h2
  exact ev a b (toks_eq (al a b) (lex_total _ _ (by simpa using g2) (by simpa using g1)))
end R1
namespace K20
open PySem PySem.Spec PyProof.Rows L2 RN PL M20
def eO (c : List Pr) : PyData := .tuple (c.map eP)
theorem al_eps : ∀ c d : List Pr, PySem.W.alikeAll (c.map eP) (d.map eP) = true
  | [], _ => by simp [PySem.W.alikeAll]
  | _ :: _, [] => by simp [PySem.W.alikeAll]
  | p :: c, q :: d => by
    rw [List.map_cons, List.map_cons, PySem.W.alikeAll, al_eps c d, al_eP p q]; rfl
theorem al_eO (c d : List Pr) : PySem.W.alike (eO c) (eO d) = true := al_eps c d
theorem eqv_eps : ∀ c d : List Pr, PyData.eqvAll (c.map eP) (d.map eP) = decide (c = d)
  | [], [] => by simp [PyData.eqvAll]
  | [], _ :: _ => by simp [PyData.eqvAll]
  | _ :: _, [] => by simp [PyData.eqvAll]
  | p :: c, q :: d => by
    rw [List.map_cons, List.map_cons, PyData.eqvAll, eqv_eps c d, eP_eqv]
    by_cases h : p = q
    · subst h
      by_cases g : c = d <;> simp [g]
    · simp [h]
theorem eqv_eO (c d : List Pr) : PyData.eqv (eO c) (eO d) = decide (c = d) := eqv_eps c d
theorem sh_eO (c : List Pr) : Sh (eO c) := sh_eps c
theorem eq_eO {c d : List Pr} {P : Bool → Prop} (h : P (decide (c = d))) : eqB (eO c) (eO d) P := ⟨sh_eO c, sh_eO d, by rw [eqv_eO]; exact h⟩
/-- the orders over n blocks -/
def ordL (n : Nat) : List (List Pr) := R1.sortK eO ((lawRows (prs n)).filter trB)
theorem sortD_eO (l : List (List Pr)) : sortD (l.map eO) = (R1.sortK eO l).map eO := by
  unfold sortD R1.sortK
  exact (List.map_mergeSort (r := PySem.W.dataLe false eO) (s := PySem.W.dataLe false id) (f := eO) (l := l) fun a _ b _ => rfl).symm
theorem ord_perm {n : Nat} {l : List (List Pr)} (h : l.Perm (lawRows (prs n))) : sortD ((l.filter trB).map eO) = (ordL n).map eO := by
  rw [sortD_eO]
  exact congrArg _ (R1.sortK_perm al_eO (fun x y z => of_decide_eq_true (eqv_eO x y ▸ z)) (h.filter trB))
theorem srt_eO (l : List (List Pr)) (h : ∀ c ∈ l, c.length ≤ 6) : PySem.W.AllAlike (l.map eO) ∧ RS.Srt2 (l.map eO) ∧ R0.DepLe 60 (l.map eO) :=
  ⟨PySem.W.AllAlike.of al_eO, .inr fun d hd => by
    obtain ⟨c, _, rfl⟩ := List.mem_map.mp hd
    exact ⟨_, rfl⟩, fun d hd => by
    obtain ⟨c, _, rfl⟩ := List.mem_map.mp hd
    have := (can_eP c).2
    show PyData.depthAll (c.map eP) + 1 ≤ 60
    omega⟩
/-- the pairs behind i rows of lows and j highs -/
def pre (n i j : Nat) : List Pr := (List.range i).flatMap (rowP n) ++ (((List.range n).take j).filter fun hi => decide (i ≠ hi)).map fun (hi : Nat) => ((i : Int), (hi : Int))
theorem pre_all : (List.range 4).all (fun n => (List.range n).all fun i => (List.range 4).all fun j => decide ((pre n i j).length ≤ 6)) = true := by decide +kernel
theorem pre_len {n i j : Nat} (hn : n ≤ 3) (hi : i < n) : (lawRows (pre n i j)).length ≤ 64 ∧ ∀ c ∈ lawRows (pre n i j), c.length ≤ 6 := by
  have small : (pre n i j).length ≤ 6 := by
    have hj : pre n i j = pre n i (min j 3) := by
      unfold pre
      by_cases h : j ≤ 3
      · rw [Nat.min_eq_left h]
      · rw [List.take_of_length_le (by simp; omega), List.take_of_length_le (by simp; omega)]
    rw [hj]
    have z := List.all_eq_true.mp (List.all_eq_true.mp (List.all_eq_true.mp pre_all n (List.mem_range.mpr (by omega))) i (List.mem_range.mpr hi)) (min j 3) (List.mem_range.mpr (by omega))
    exact of_decide_eq_true z
  refine ⟨?_, fun c hc => Nat.le_trans (lawRows_sub _ c hc).length_le small⟩
  rw [lawRows_len]
  exact Nat.le_trans (Nat.pow_le_pow_right (by decide) small) (by decide)
section
variable {P : Program} {w : World} {K : PySem.W.Frag} {mg : Str → Option Value} {base : Heap} {a : Ad}
def ordersF : List SV → (SV → Prop) → Prop := fun ss P => ∃ n : Nat, ss = [.d (.int (n : Int))] ∧ n ≤ 3 ∧ P (.l ((ordL n).map eO))
theorem ok_l_all_orders (T : Top K mg a) (G_l_closed : FnOk P w K mg base CX0 1 a.f_l_closed a.d_l_closed ["_law_pairs_here"] (spP K closeF)) : FnOk P w K mg base CX0 2 a.f_l_all_orders a.d_l_all_orders ["_law_count"] (spP K ordersF) :=
  fn_p T.F_l_all_orders sc_l_all_orders (fun ss Pp ⟨n, e, _⟩ => by subst e; exact ⟨rfl, trivial⟩) fun cdv A outer s H E hr => ⟨_, _, (pss_cons (ps_set (i := 1) sc_l_all_orders.nd rfl (.inl rfl) (pe_lst (pa_cons (pe_tup pa_nil) pa_nil)))
    (pss_cons (ps_for PassesOwn.never rfl (pi_range1 (by rfl) T.z_range (pa_cons (pv 0) pa_nil)) (pg_name (i := 2) sc_l_all_orders.nd rfl (.inr rfl))
    (pss_one (ps_for PassesOwn.never rfl (pi_range1 (by rfl) T.z_range (pa_cons (pv 0) pa_nil)) (pg_name (i := 3) sc_l_all_orders.nd rfl (.inr rfl))
    (pss_one (ps_if (pt_cmpR (OpR.or op_ne (PL.op_neDK (K := K) hr.units rfl)) (pv 2) (pv 3) (nomark _))
    (pss_one (ps_set (i := 1) sc_l_all_orders.nd rfl (.inl rfl) (pe_op (OpR.or op_add (OpR.or op_add_str (OpR.or op_cat (PL.op_catAK (K := K) rfl)))) (pv 1) (pe_lc (own := [("_law_row", 4)]) rfl sc_l_all_orders.nd (R1.pi_listK (K := K) rfl (pv 1)) (blkOk_by (own := [("_law_row", 4)]) (N := ["_law_count", "_law_rows", "_law_low", "_law_high", "_law_row"]) (sc := defScope s_l_all_orders) (by decide +kernel)) (fun _ _ _ _ _ => (pg_name (i := 4) sc_l_all_orders.nd rfl (.inl rfl))) (fun _ _ _ _ _ => pts_nil) (fun _ _ _ _ _ => (pe_op (OpR.or op_add (OpR.or op_add_str (OpR.or op_cat (PL.op_catAK (K := K) rfl)))) (pv 4) (pe_tup (pa_cons (pe_tup (pa_cons (pv 2) (pa_cons (pv 3) pa_nil))) pa_nil))))))))
    pss_nil)))))
    (pss_one (ps_ret (pe_callB (RS.cr_sort2K (K := K) hr.units rfl) (by rfl) T.z_sorted (by decide +kernel) (pa_cons (pe_lc (own := [("_law_row", 4)]) rfl sc_l_all_orders.nd (R1.pi_listK (K := K) rfl (pv 1)) (blkOk_by (own := [("_law_row", 4)]) (N := ["_law_count", "_law_rows", "_law_low", "_law_high", "_law_row"]) (sc := defScope s_l_all_orders) (by decide +kernel)) (fun _ _ _ _ _ => (pg_name (i := 4) sc_l_all_orders.nd rfl (.inl rfl))) (fun _ _ _ _ _ => pts_one (pt_cmpR (OpR.or op_eq (PL.op_eqDK (K := K) hr.units rfl)) (pe_call G_l_closed (hr.mono (by decide)) (by rfl) T.m_l_closed T.F_l_closed.kp T.b_l_closed .nil pass0 (pa_cons (pv 4) pa_nil)) (pv 4) (nomark _))) (fun _ _ _ _ _ => (pv 4))) pa_nil)))))),
    (PL.sim_seq (PL.sim_set 1 (PL.sim_mv (PL.sim_lst (PL.sim_cons (PL.sim_tup PL.sim_nil) PL.sim_nil))))
    (PL.sim_seq (PL.sim_for (PL.sim_rg1 (PL.sim_cons (PL.sim_dat (PL.sim_var 0)) PL.sim_nil)) (PL.sim_gN 2)
    (PL.sim_for (PL.sim_rg1 (PL.sim_cons (PL.sim_dat (PL.sim_var 0)) PL.sim_nil)) (PL.sim_gN 3)
    (PL.sim_if (PL.sim_test (PL.sim_dat (PL.sim_op PL.rule_ne (PL.sim_dat (PL.sim_var 2)) (PL.sim_dat (PL.sim_var 3)))))
    (PL.sim_set 1 (PL.sim_mv (PL.sim_op PL.rule_add (PL.sim_dat (PL.sim_var 1)) (PL.sim_dat (PL.sim_lc (PL.sim_itL (PL.sim_dat (PL.sim_var 1))) (PL.sim_gN 4) PL.sim_yes (PL.sim_dat (PL.sim_op PL.rule_add (PL.sim_dat (PL.sim_var 4)) (PL.sim_tup (PL.sim_cons (PL.sim_tup (PL.sim_cons (PL.sim_dat (PL.sim_var 2)) (PL.sim_cons (PL.sim_dat (PL.sim_var 3)) PL.sim_nil))) PL.sim_nil)))) (by decide))))))
    PL.sim_next)))
    (PL.sim_ret (PL.sim_mv (PL.sim_rdL PL.rd_sort2 (PL.sim_lc (PL.sim_itL (PL.sim_dat (PL.sim_var 1))) (PL.sim_gN 4) (PL.sim_test (PL.sim_dat (PL.sim_op PL.rule_eq (PL.sim_dat (PL.sim_call (PL.sim_lC (PL.sim_arg (PL.sim_var 4)) PL.sim_lN))) (PL.sim_dat (PL.sim_var 4))))) (PL.sim_dat (PL.sim_var 4)) (by decide))))))), fun ss Pp ⟨n, e, hn, q⟩ => by
    subst e
    have bnd : ∀ i j, i < n → (lawRows (pre n i j)).length ≤ 64 ∧ ∀ c ∈ lawRows (pre n i j), c.length ≤ 6 := fun i j hi => pre_len hn hi
    refine ⟨Nat.zero_le _, (by show 1 ≤ 1000; decide), by omega, by omega, fun i e' => ∃ s2 s3, e' = [.d (.int (n : Int)), .l ((lawRows ((List.range i).flatMap (rowP n))).map eO), s2, s3, .u], ⟨_, _, rfl⟩, ?_, ?_⟩
    · rintro i x e' hx ⟨s2, s3, rfl⟩
      have hi : i < n := by
        have := (List.getElem?_eq_some_iff.mp hx).1
        rw [rng_len] at this; omega
      rw [rng_at (by omega), Int.zero_add] at hx
      cases hx
      refine ⟨by omega, by omega, fun j e' => ∃ s3, e' = [.d (.int (n : Int)), .l ((lawRows (pre n i j)).map eO), .d (.int (i : Int)), s3, .u], ⟨s3, by unfold pre; simp⟩, ?_, ?_⟩
      · rintro j x e' hx ⟨s3, rfl⟩
        have hj : j < n := by
          have := (List.getElem?_eq_some_iff.mp hx).1
          rw [rng_len] at this; omega
        rw [rng_at (by omega), Int.zero_add] at hx
        cases hx
        have tk : (List.range n).take (j + 1) = (List.range n).take j ++ [j] := by rw [List.take_add_one, List.getElem?_range hj]; rfl
        refine ite2 (fun h => ?_) (fun h => ?_)
        · have ne : i ≠ j := by
            intro z; subst z; simp at h
          have ps : pre n i (j + 1) = pre n i j ++ [((i : Int), (j : Int))] := by
            unfold pre
            rw [tk, List.filter_append, List.map_append, List.append_assoc]
            simp [ne]
          obtain ⟨b1, b2⟩ := bnd i j hi
          refine ⟨fun u acc e' => e' = [.d (.int (n : Int)), .d (.list ((lawRows (pre n i j)).map eO)), .d (.int (i : Int)), .d (.int (j : Int)), .u] ∧ acc = ((lawRows (pre n i j)).take u).map fun c => eO (c ++ [((i : Int), (j : Int))]), ⟨rfl, rfl⟩, ?_, ?_⟩
          · rintro u x acc e' hx ⟨rfl, rfl⟩
            obtain ⟨c, hc, rfl⟩ := map_at hx
            have lc := b2 c (List.mem_of_getElem? hc)
            have lu := (List.getElem?_eq_some_iff.mp hc).1
            refine ⟨by show 2 ≤ 1000; decide, by show 1 ≤ 1000; decide, ?_, ?_, rfl, ?_⟩
            · rw [List.length_map]; show c.length + 1 ≤ 1000; omega
            · rw [List.length_map, List.length_take]; omega
            · rw [List.take_add_one, hc, List.map_append]
              show _ ++ [PyData.tuple (c.map eP ++ [eP ((i : Int), (j : Int))])] = _ ++ [eO (c ++ [((i : Int), (j : Int))])]
              unfold eO
              rw [List.map_append]; rfl
          · rintro acc e' ⟨rfl, rfl⟩
            rw [List.length_map, List.take_length]
            refine ⟨?_, .d (.int (j : Int)), ?_⟩
            · rw [List.length_map, List.length_map]; omega
            · rw [ps, lawRows_snoc, stepL, List.map_append, List.map_map]; rfl
        · have ne : i = j := by
            have := Bool.eq_false_iff.mpr h
            simp at this
            omega
          have ps : pre n i (j + 1) = pre n i j := by
            unfold pre
            rw [tk, List.filter_append, List.map_append]
            simp [ne]
          exact ⟨.d (.int (j : Int)), by rw [ps]; rfl⟩
      · rintro e' ⟨s3, rfl⟩
        refine ⟨.d (.int (i : Int)), s3, ?_⟩
        rw [rng_len]
        have e2 : pre n i n = (List.range (i + 1)).flatMap (rowP n) := by
          unfold pre
          rw [List.range_succ, List.flatMap_append, List.take_of_length_le (by simp)]
          simp [rowP]
        rw [show ((n : Int)).toNat = n from rfl, e2]
    · rintro e' ⟨s2, s3, rfl⟩
      rw [rng_len, show ((n : Int)).toNat = n from rfl, show (List.range n).flatMap (rowP n) = prs n from rfl]
      have ok : ∀ c ∈ lawRows (prs n), RowOk c := fun c hc => (prs_ok hn).sub (lawRows_sub _ c hc)
      have ll : (lawRows (prs n)).length ≤ 64 := by
        rw [lawRows_len]
        exact Nat.le_trans (Nat.pow_le_pow_right (by decide) (prs_ok hn).len) (by decide)
      refine ⟨fun u acc e' => e' = [.d (.int (n : Int)), .d (.list ((lawRows (prs n)).map eO)), s2, s3, .u] ∧ acc = (((lawRows (prs n)).take u).filter trB).map eO, ⟨rfl, rfl⟩, ?_, ?_⟩
      · rintro u x acc e' hx ⟨rfl, rfl⟩
        obtain ⟨c, hc, rfl⟩ := map_at hx
        have okc := ok c (List.mem_of_getElem? hc)
        have lu := (List.getElem?_eq_some_iff.mp hc).1
        have tk : ((lawRows (prs n)).take (u + 1)).filter trB = ((lawRows (prs n)).take u).filter trB ++ if trB c = true then [c] else [] := by
          rw [List.take_add_one, hc, List.filter_append]
          congr 1
          by_cases h : trB c = true <;> simp [h]
        refine ⟨0, [.d (eO c)], ⟨rfl, trivial⟩, .d (eO c), c, [0, 1, 2], rfl, .inr rfl, okc.over, by decide, by have := okc.len; omega, fun cs hcs => ?_⟩
        refine ⟨sh_eO cs, sh_eO c, ?_⟩
        rw [show PyData.eqv (.tuple (cs.map eP)) (eO c) = trB c from (eqv_eO cs c).trans (clo_eq okc hcs)]
        cases h : trB c with
        | true =>
          refine ⟨?_, rfl, ?_⟩
          · rw [List.length_map]
            have := List.length_filter_le trB ((lawRows (prs n)).take u)
            rw [List.length_take] at this
            omega
          · show _ = List.map eO (List.filter trB (List.take (u + 1) (lawRows (prs n))))
            rw [tk, if_pos h, List.map_append]; rfl
        | false =>
          refine ⟨rfl, ?_⟩
          show _ = List.map eO (List.filter trB (List.take (u + 1) (lawRows (prs n))))
          rw [tk, if_neg (by rw [h]; decide), List.append_nil]
      · rintro acc e' ⟨rfl, rfl⟩
        rw [List.length_map, List.take_length]
        obtain ⟨c1, c2, c3⟩ := srt_eO ((lawRows (prs n)).filter trB) fun c hc => (ok c (List.mem_filter.mp hc).1).len
        refine ⟨c1, c2, c3, ?_⟩
        show Pp (.l (sortD _))
        rw [ord_perm (.refl _)]
        exact q⟩
end
end K20

/-! the program's orders -/
namespace K20
open PySem PySem.Spec PyProof.Rows L2 RN PL M20
theorem pre_small {n i j : Nat} (hn : n ≤ 3) (hi : i < n) : (pre n i j).length ≤ 6 := by
  have h := (pre_len (j := j) hn hi).1
  rw [lawRows_len] at h
  by_cases c : (pre n i j).length ≤ 6
  · exact c
  · have z : 2 ^ 7 ≤ 2 ^ (pre n i j).length := Nat.pow_le_pow_right (by decide) (by omega)
    omega
section
variable {P : Program} {w : World} {K : PySem.W.Frag} {mg : Str → Option Value} {base : Heap} {a : Ad}
theorem ok_orders (T : Top K mg a) (G_closed_pairs : FnOk P w K mg base CX0 2 a.f_closed_pairs a.d_closed_pairs ["pairs"] (spP K closeF)) : FnOk P w K mg base CX0 3 a.f_orders a.d_orders ["count"] (spP K ordersF) :=
  fn_p T.F_orders sc_orders (fun ss Pp ⟨n, e, _⟩ => by subst e; exact ⟨rfl, trivial⟩) fun cdv A outer s H E hr => ⟨_, _, (pss_cons (ps_set (i := 1) sc_orders.nd rfl (.inl rfl) (pe_lst (pa_cons (pe_tup pa_nil) pa_nil)))
    (pss_cons (ps_for PassesOwn.never rfl (R1.pi_listK (K := K) rfl (pe_lc2 (own := [("low", 3), ("high", 4)]) (vs1 := [4]) rfl sc_orders.nd (pi_range1 (by rfl) T.z_range (pa_cons (pv 0) pa_nil)) (blkOk_by (own := [("low", 3), ("high", 4)]) (N := ["count", "choices", "pair", "low", "high", "chosen", "more"]) (sc := defScope s_orders) (by decide +kernel)) (by decide) (fun _ _ _ _ _ => (pg_name (i := 3) sc_orders.nd rfl (.inl rfl))) (fun _ _ _ _ _ => pts_nil) (fun _ _ _ _ _ => (pi_range1 (by rfl) T.z_range (pa_cons (pv 0) pa_nil))) (fun _ _ _ _ _ => (pg_name (i := 4) sc_orders.nd rfl (.inl rfl))) (fun _ _ _ _ _ => pts_one (pt_cmpR (OpR.or op_ne (PL.op_neDK (K := K) hr.units rfl)) (pv 3) (pv 4) (nomark _))) (fun _ _ _ _ _ => (pe_tup (pa_cons (pv 3) (pa_cons (pv 4) pa_nil)))))) (pg_name (i := 2) sc_orders.nd rfl (.inr rfl))
    (pss_one (ps_setLc2 (own := [("chosen", 5), ("more", 6)]) (vs1 := [6]) (i := 1) rfl sc_orders.nd rfl rfl (sw_true rfl rfl rfl (by decide +kernel)) (R1.pi_listK (K := K) rfl (pv 1)) (blkOk_by (own := [("chosen", 5), ("more", 6)]) (N := ["count", "choices", "pair", "low", "high", "chosen", "more"]) (sc := defScope s_orders) (by decide +kernel)) (by decide) (fun _ _ _ _ _ => (pg_name (i := 5) sc_orders.nd rfl (.inl rfl))) (fun _ _ _ _ _ => pts_nil) (fun _ _ _ _ _ => (R1.pi_tupK (K := K) rfl (pe_tup (pa_cons (pe_tup pa_nil) (pa_cons (pe_tup (pa_cons (pv 2) pa_nil)) pa_nil))))) (fun _ _ _ _ _ => (pg_name (i := 6) sc_orders.nd rfl (.inl rfl))) (fun _ _ _ _ _ => pts_nil) (fun _ _ _ _ _ => (pe_tup (R1.pa_starK (K := K) rfl (pv 5) (R1.pa_starK (K := K) rfl (pv 6) pa_nil)))))))
    (pss_one (ps_ret (pe_callB (RS.cr_sort2K (K := K) hr.units rfl) (by rfl) T.z_sorted (by decide +kernel) (pa_cons (pe_lc (own := [("chosen", 5)]) rfl sc_orders.nd (R1.pi_listK (K := K) rfl (pv 1)) (blkOk_by (own := [("chosen", 5)]) (N := ["count", "choices", "pair", "low", "high", "chosen", "more"]) (sc := defScope s_orders) (by decide +kernel)) (fun _ _ _ _ _ => (pg_name (i := 5) sc_orders.nd rfl (.inl rfl))) (fun _ _ _ _ _ => pts_one (pt_cmpR (OpR.or op_eq (PL.op_eqDK (K := K) hr.units rfl)) (pe_call G_closed_pairs (hr.mono (by decide)) (by rfl) T.m_closed_pairs T.F_closed_pairs.kp T.b_closed_pairs .nil pass0 (pa_cons (pv 5) pa_nil)) (pv 5) (nomark _))) (fun _ _ _ _ _ => (pv 5))) pa_nil)))))),
    (PL.sim_seq (PL.sim_set 1 (PL.sim_mv (PL.sim_lst (PL.sim_cons (PL.sim_tup PL.sim_nil) PL.sim_nil))))
    (PL.sim_seq (PL.sim_for (PL.sim_itL (PL.sim_dat (PL.sim_lc2 (PL.sim_rg1 (PL.sim_cons (PL.sim_dat (PL.sim_var 0)) PL.sim_nil)) (PL.sim_gN 3) PL.sim_yes (PL.sim_rg1 (PL.sim_cons (PL.sim_dat (PL.sim_var 0)) PL.sim_nil)) (PL.sim_gN 4) (PL.sim_test (PL.sim_dat (PL.sim_op PL.rule_ne (PL.sim_dat (PL.sim_var 3)) (PL.sim_dat (PL.sim_var 4))))) (PL.sim_tup (PL.sim_cons (PL.sim_dat (PL.sim_var 3)) (PL.sim_cons (PL.sim_dat (PL.sim_var 4)) PL.sim_nil))) (by decide) (by decide) (by decide)))) (PL.sim_gN 2)
    (PL.sim_set 1 (PL.sim_mv (PL.sim_lc2 (PL.sim_itL (PL.sim_dat (PL.sim_var 1))) (PL.sim_gN 5) PL.sim_yes (PL.sim_itT (PL.sim_tup (PL.sim_cons (PL.sim_tup PL.sim_nil) (PL.sim_cons (PL.sim_tup (PL.sim_cons (PL.sim_dat (PL.sim_var 2)) PL.sim_nil)) PL.sim_nil)))) (PL.sim_gN 6) PL.sim_yes (PL.sim_tup (PL.sim_star (PL.sim_var 5) (PL.sim_star (PL.sim_var 6) PL.sim_nil))) (by decide) (by decide) (by decide)))))
    (PL.sim_ret (PL.sim_mv (PL.sim_rdL PL.rd_sort2 (PL.sim_lc (PL.sim_itL (PL.sim_dat (PL.sim_var 1))) (PL.sim_gN 5) (PL.sim_test (PL.sim_dat (PL.sim_op PL.rule_eq (PL.sim_dat (PL.sim_call (PL.sim_lC (PL.sim_arg (PL.sim_var 5)) PL.sim_lN))) (PL.sim_dat (PL.sim_var 5))))) (PL.sim_dat (PL.sim_var 5)) (by decide))))))), fun ss Pp ⟨n, e, hn, q⟩ => by
    subst e
    have okp := prs_ok hn
    refine ⟨Nat.zero_le _, (by show 1 ≤ 1000; decide), by omega, by omega, fun i acc e' => e' = [.d (.int (n : Int)), .l [.tuple []], .u, .u, .u, .u, .u] ∧ acc = ((List.range i).flatMap (rowP n)).map eP, ⟨rfl, rfl⟩, ?_, ?_⟩
    · rintro i x acc e' hx ⟨rfl, rfl⟩
      have hi : i < n := by
        have := (List.getElem?_eq_some_iff.mp hx).1
        rw [rng_len] at this; omega
      rw [rng_at (by omega), Int.zero_add] at hx
      cases hx
      refine ⟨by omega, by omega, fun j acc e' => e' = [.d (.int (n : Int)), .l [.tuple []], .u, .d (.int (i : Int)), .u, .u, .u] ∧ acc = (pre n i j).map eP, ⟨rfl, by unfold pre; simp⟩, ?_, ?_⟩
      · rintro j x acc e' hx ⟨rfl, rfl⟩
        have hj : j < n := by
          have := (List.getElem?_eq_some_iff.mp hx).1
          rw [rng_len] at this; omega
        rw [rng_at (by omega), Int.zero_add] at hx
        cases hx
        have tk : (List.range n).take (j + 1) = (List.range n).take j ++ [j] := by rw [List.take_add_one, List.getElem?_range hj]; rfl
        have small := pre_small hn hi (j := j)
        refine ite2 (fun h => ?_) (fun h => ?_)
        · have ne : i ≠ j := by
            intro z; subst z; simp at h
          have ps : pre n i (j + 1) = pre n i j ++ [((i : Int), (j : Int))] := by
            unfold pre
            rw [tk, List.filter_append, List.map_append, List.append_assoc]
            simp [ne]
          refine ⟨by show 2 ≤ 1000; decide, by rw [List.length_map]; omega, rfl, ?_⟩
          rw [ps, List.map_append]; rfl
        · have ne : i = j := by
            have := Bool.eq_false_iff.mpr h
            simp at this
            omega
          have ps : pre n i (j + 1) = pre n i j := by
            unfold pre
            rw [tk, List.filter_append, List.map_append]
            simp [ne]
          exact ⟨rfl, by rw [ps]⟩
      · rintro acc e' ⟨rfl, rfl⟩
        refine ⟨rfl, ?_⟩
        rw [rng_len, show ((n : Int)).toNat = n from rfl]
        congr 1
        unfold pre
        rw [List.range_succ, List.flatMap_append, List.take_of_length_le (by simp)]
        simp [rowP]
    · rintro acc e' ⟨rfl, rfl⟩
      rw [rng_len, show ((n : Int)).toNat = n from rfl, show (List.range n).flatMap (rowP n) = prs n from rfl]
      refine ⟨fun k e' => ∃ s2, e' = [.d (.int (n : Int)), .l ((progRows ((prs n).take k)).map eO), s2, .u, .u, .u, .u], ⟨_, rfl⟩, ?_, ?_⟩
      · rintro k x e' hx ⟨s2, rfl⟩
        obtain ⟨p, hp, rfl⟩ := map_at hx
        have ps : (prs n).take (k + 1) = (prs n).take k ++ [p] := by rw [List.take_add_one, hp]; rfl
        have rl : (progRows ((prs n).take k)).length ≤ 64 ∧ ∀ c ∈ progRows ((prs n).take k), c.length ≤ 6 := by
          have pm : (progRows ((prs n).take k)).Perm (lawRows ((prs n).take k)) := rows_perm _ (.refl _)
          have l6 : ((prs n).take k).length ≤ 6 := Nat.le_trans (List.length_take_le' _ _) okp.len
          refine ⟨?_, fun c hc => Nat.le_trans (lawRows_sub _ c (pm.mem_iff.mp hc)).length_le l6⟩
          rw [pm.length_eq, lawRows_len]
          exact Nat.le_trans (Nat.pow_le_pow_right (by decide) l6) (by decide)
        obtain ⟨r1, r2⟩ := rl
        obtain ⟨rs, hrs⟩ : ∃ rs, rs = progRows ((prs n).take k) := ⟨_, rfl⟩
        rw [← hrs] at r1 r2
        rw [← hrs]
        refine ⟨fun u acc e' => e' = [.d (.int (n : Int)), .d (.list (rs.map eO)), .d (eP p), .u, .u, .u, .u] ∧ acc = (stepP (rs.take u) p).map eO, ⟨rfl, rfl⟩, ?_, ?_⟩
        · rintro u x acc e' hx ⟨rfl, rfl⟩
          obtain ⟨c, hc, rfl⟩ := map_at hx
          have lc := r2 c (List.mem_of_getElem? hc)
          have lu := (List.getElem?_eq_some_iff.mp hc).1
          have sn : stepP (rs.take (u + 1)) p = stepP (rs.take u) p ++ [c, c ++ [p]] := by
            rw [List.take_add_one, hc]
            unfold stepP
            rw [List.flatMap_append]
            simp
          have sl : (stepP (rs.take u) p).length ≤ 128 := by
            rw [(step_perm p _).length_eq]
            unfold stepL
            rw [List.length_append, List.length_map, List.length_take]
            omega
          refine ⟨Nat.zero_le _, by show 1 ≤ 1000; decide, by show 2 ≤ 1000; decide, fun j acc e' => e' = [.d (.int (n : Int)), .d (.list (rs.map eO)), .d (eP p), .u, .u, .d (eO c), .u] ∧ acc = (stepP (rs.take u) p ++ ([c, c ++ [p]] : List (List Pr)).take j).map eO, ⟨rfl, by simp⟩, ?_, ?_⟩
          · rintro j y acc e' hy ⟨rfl, rfl⟩
            have l2 : ((stepP (rs.take u) p ++ ([c, c ++ [p]] : List (List Pr)).take j).map eO).length < 1000 := by
              rw [List.length_map, List.length_append, List.length_take]
              simp only [List.length_cons, List.length_nil]
              omega
            match j, hy with
            | 0, hy =>
              cases hy
              refine ⟨?_, l2, rfl, ?_⟩
              · show (c.map eP ++ ([] ++ [])).length ≤ 1000
                simp; omega
              · show _ ++ [PyData.tuple (c.map eP ++ ([] ++ []))] = _
                simp [eO]
            | 1, hy =>
              cases hy
              refine ⟨?_, l2, rfl, ?_⟩
              · show (c.map eP ++ ([eP p] ++ [])).length ≤ 1000
                simp; omega
              · show _ ++ [PyData.tuple (c.map eP ++ ([eP p] ++ []))] = _
                simp [eO]
            | j + 2, hy => simp at hy
          · rintro acc e' ⟨rfl, rfl⟩
            refine ⟨rfl, ?_⟩
            rw [sn]
            rfl
        · rintro acc e' ⟨rfl, rfl⟩
          rw [List.length_map, List.take_length]
          refine ⟨.d (eP p), ?_⟩
          rw [ps, progRows_snoc, ← hrs]
          rfl
      · rintro e' ⟨s2, rfl⟩
        rw [List.length_map, List.take_length]
        have pm : (progRows (prs n)).Perm (lawRows (prs n)) := rows_perm _ (.refl _)
        have ok : ∀ c ∈ progRows (prs n), RowOk c := fun c hc => okp.sub (lawRows_sub _ c (pm.mem_iff.mp hc))
        have ll : (progRows (prs n)).length ≤ 64 := by
          rw [pm.length_eq, lawRows_len]
          exact Nat.le_trans (Nat.pow_le_pow_right (by decide) okp.len) (by decide)
        have op := ord_perm pm
        generalize progRows (prs n) = rs at ok ll op ⊢
        refine ⟨fun u acc e' => e' = [.d (.int (n : Int)), .d (.list (rs.map eO)), s2, .u, .u, .u, .u] ∧ acc = ((rs.take u).filter trB).map eO, ⟨rfl, rfl⟩, ?_, ?_⟩
        · rintro u x acc e' hx ⟨rfl, rfl⟩
          obtain ⟨c, hc, rfl⟩ := map_at hx
          have okc := ok c (List.mem_of_getElem? hc)
          have lu := (List.getElem?_eq_some_iff.mp hc).1
          have tk : (rs.take (u + 1)).filter trB = (rs.take u).filter trB ++ if trB c = true then [c] else [] := by
            rw [List.take_add_one, hc, List.filter_append]
            congr 1
            by_cases h : trB c = true <;> simp [h]
          refine ⟨0, [.d (eO c)], ⟨rfl, trivial⟩, .d (eO c), c, [0, 1, 2], rfl, .inr rfl, okc.over, by decide, by have := okc.len; omega, fun cs hcs => ?_⟩
          refine ⟨sh_eO cs, sh_eO c, ?_⟩
          rw [show PyData.eqv (.tuple (cs.map eP)) (eO c) = trB c from (eqv_eO cs c).trans (clo_eq okc hcs)]
          cases h : trB c with
          | true =>
            refine ⟨?_, rfl, ?_⟩
            · rw [List.length_map]
              have := List.length_filter_le trB (rs.take u)
              rw [List.length_take] at this
              omega
            · show _ = List.map eO (List.filter trB (List.take (u + 1) rs))
              rw [tk, if_pos h, List.map_append]; rfl
          | false =>
            refine ⟨rfl, ?_⟩
            show _ = List.map eO (List.filter trB (List.take (u + 1) rs))
            rw [tk, if_neg (by rw [h]; decide), List.append_nil]
        · rintro acc e' ⟨rfl, rfl⟩
          rw [List.length_map, List.take_length]
          obtain ⟨c1, c2, c3⟩ := srt_eO (rs.filter trB) fun c hc => (ok c (List.mem_filter.mp hc).1).len
          refine ⟨c1, c2, c3, ?_⟩
          show Pp (.l (sortD _))
          rw [op]
          exact q⟩
end
end K20

/-! blocks, truths -/
namespace K20
open PySem PySem.Spec PyProof.Rows L2 RN PL M20 K21
/-- the pair of the blocks of two names -/
def bp (nm : List Str) (ms : List Nat) (x y : Str) : Pr := ((bk nm ms x : Int), (bk nm ms y : Int))
structure Lit where
  o : Str
  x : Str
  y : Str
  b : Bool
def eA (o x y : Str) : PyData := .tuple [.str o, .str "below", .str x, .str y]
def eLt (l : Lit) : PyData := .tuple [eA l.o l.x l.y, .bool l.b]
def Own (s : SV) (cs : List Pr) : Prop := s = .d (.tuple (cs.map eP)) ∨ s = .k (cs.map eP)
section
variable {P : Program} {w : World} {K : PySem.W.Frag} {mg : Str → Option Value} {base : Heap} {a : Ad}
def blocksF : List SV → (SV → Prop) → Prop := fun ss P => ∃ (nm : List Str) (c : Nat × List Nat) (x y : Str), ss = [.k (nm.map .str), .d (eC c), .d (.str x), .d (.str y)] ∧ MkOk nm.length c.2 ∧ x ∈ nm ∧ y ∈ nm ∧ P (.d (eP (bp nm c.2 x y)))
theorem at_mark {nm : List Str} {ms : List Nat} {x : Str} (h : MkOk nm.length ms) (hx : x ∈ nm) : ((ivals ms).map PyData.int)[ixS nm x]? = some (.int (bk nm ms x : Int)) := by
  unfold ivals
  rw [List.map_map, List.getElem?_map, (bk_get h rfl hx).1]; rfl
theorem ok_l_blocks (T : Top K mg a) : FnOk P w K mg base CX0 1 a.f_l_blocks a.d_l_blocks ["_law_names_here", "_law_cell", "_law_low", "_law_high"] (spP K blocksF) :=
  fn_p T.F_l_blocks sc_l_blocks (fun ss Pp ⟨_, _, _, _, e, _⟩ => by subst e; exact ⟨rfl, trivial⟩) fun cdv A outer s H E hr => ⟨_, _, (pss_one (ps_ret (pe_tup (pa_cons (pe_ix (R1.ix_seqK (K := K) rfl) (pe_ix (R1.ix_seqK (K := K) rfl) (pv 1) pe_int (fun _ _ => rfl)) (RT.pe_bmF PySem.F.slot_tuple_index PySem.F.type_tuple_index (RT.mt_tindex (K := K) rfl) (pv 0) (pa_cons (pv 2) pa_nil)) (fun _ _ => rfl)) (pa_cons (pe_ix (R1.ix_seqK (K := K) rfl) (pe_ix (R1.ix_seqK (K := K) rfl) (pv 1) pe_int (fun _ _ => rfl)) (RT.pe_bmF PySem.F.slot_tuple_index PySem.F.type_tuple_index (RT.mt_tindex (K := K) rfl) (pv 0) (pa_cons (pv 3) pa_nil)) (fun _ _ => rfl)) pa_nil))))),
    (PL.sim_ret (PL.sim_mv (PL.sim_val (PL.sim_tup (PL.sim_cons (PL.sim_ix (PL.sim_val (PL.sim_ix (PL.sim_var 1) PL.sim_int)) (PL.sim_tix (PL.sim_var 0) (PL.sim_dat (PL.sim_var 2)))) (PL.sim_cons (PL.sim_ix (PL.sim_val (PL.sim_ix (PL.sim_var 1) PL.sim_int)) (PL.sim_tix (PL.sim_var 0) (PL.sim_dat (PL.sim_var 3)))) PL.sim_nil)))))), fun ss Pp ⟨nm, c, x, y, e, ok, hx, hy, q⟩ => by
    subst e
    obtain ⟨x1, x2⟩ := ixS_get hx
    obtain ⟨y1, y2⟩ := ixS_get hy
    refine ⟨_, rfl, nm, ixS nm x, strs_map nm, x1, x2, _, atI_nat (at_mark ok hx), ?_⟩
    refine ⟨_, rfl, nm, ixS nm y, strs_map nm, y1, y2, _, atI_nat (at_mark ok hy), ?_⟩
    exact ⟨by show 2 ≤ 1000; decide, q⟩⟩
def truthF : List SV → (SV → Prop) → Prop := fun ss P => ∃ (s0 : PyData) (nm : List Str) (c : Nat × List Nat) (s : SV) (cs : List Pr) (o x y : Str), ss = [.d s0, .k (nm.map .str), .d (eC c), s, .d (eA o x y)] ∧ Own s cs ∧ MkOk nm.length c.2 ∧ x ∈ nm ∧ y ∈ nm ∧ P (.d (.bool (decide (bp nm c.2 x y ∈ cs))))
theorem ok_truth (T : Top K mg a) (G_block_of : FnOk P w K mg base CX0 1 a.f_block_of a.d_block_of ["names", "cell", "name"] (spP K bofF)) : FnOk P w K mg base CX0 2 a.f_below_truth a.d_below_truth ["card", "names", "cell", "own", "atom"] (spP K truthF) :=
  fn_p T.F_below_truth sc_below_truth (fun ss Pp ⟨_, _, _, s, _, _, _, _, e, h, _⟩ => by subst e; rcases h with rfl | rfl <;> exact ⟨rfl, trivial⟩) fun cdv A outer s H E hr => ⟨_, _, (pss_one (ps_ret (pe_cmpR (OpR.or (PL.op_inDK (K := K) hr.units65 rfl) (R1.op_inDT (K := K) hr.units65 rfl)) (pe_tup (pa_cons (pe_call G_block_of (hr.mono (by decide)) (by rfl) T.m_block_of T.F_block_of.kp T.b_block_of .nil pass0 (pa_cons (pv 1) (pa_cons (pv 2) (pa_cons (pe_ix (R1.ix_seqK (K := K) rfl) (pv 4) pe_int (fun _ _ => rfl)) pa_nil)))) (pa_cons (pe_call G_block_of (hr.mono (by decide)) (by rfl) T.m_block_of T.F_block_of.kp T.b_block_of .nil pass0 (pa_cons (pv 1) (pa_cons (pv 2) (pa_cons (pe_ix (R1.ix_seqK (K := K) rfl) (pv 4) pe_int (fun _ _ => rfl)) pa_nil)))) pa_nil))) (pv 3) rfl))),
    (PL.sim_ret (PL.sim_mv (PL.sim_val (PL.sim_in (PL.sim_tup (PL.sim_cons (PL.sim_dat (PL.sim_call (PL.sim_lC (PL.sim_arg (PL.sim_var 1)) (PL.sim_lC (PL.sim_arg (PL.sim_var 2)) (PL.sim_lC (PL.sim_arg (PL.sim_val (PL.sim_ix (PL.sim_var 4) PL.sim_int))) PL.sim_lN))))) (PL.sim_cons (PL.sim_dat (PL.sim_call (PL.sim_lC (PL.sim_arg (PL.sim_var 1)) (PL.sim_lC (PL.sim_arg (PL.sim_var 2)) (PL.sim_lC (PL.sim_arg (PL.sim_val (PL.sim_ix (PL.sim_var 4) PL.sim_int))) PL.sim_lN))))) PL.sim_nil))) (PL.sim_var 3))))), fun ss Pp ⟨s0, nm, c, s, cs, o, x, y, e, hs, ok, hx, hy, q⟩ => by
    subst e
    obtain ⟨x1, x2⟩ := ixS_get hx
    obtain ⟨y1, y2⟩ := ixS_get hy
    have m1 := at_mark ok hx
    have m2 := at_mark ok hy
    have call : ∀ (z : Str), z ∈ nm → ∀ Z : SV → Prop, Z (.d (.int (bk nm c.2 z : Int))) → bofF [.k (nm.map .str), .d (eC c), .d (.str z)] Z := fun z hz Z h => by
      obtain ⟨z1, z2⟩ := ixS_get hz
      exact ⟨nm, .int (c.1 : Int), (ivals c.2).map .int, z, ixS nm z, _, rfl, z1, z2, at_mark ok hz, h⟩
    rcases hs with rfl | rfl
    all_goals
      refine ⟨_, rfl, 0, [.k (nm.map .str), .d (eC c), .d (.str x)], ⟨rfl, rfl, rfl, trivial⟩, call x hx _ ?_⟩
      refine ⟨_, rfl, 0, [.k (nm.map .str), .d (eC c), .d (.str y)], ⟨rfl, rfl, rfl, trivial⟩, call y hy _ ?_⟩
      refine ⟨by show 2 ≤ 1000; decide, sh_eP (bp nm c.2 x y), sh_eps cs, ?_⟩
      rw [show ((cs.map eP).any fun z => PyData.eqv z (.tuple [.int (bk nm c.2 x : Int), .int (bk nm c.2 y : Int)])) = decide (bp nm c.2 x y ∈ cs) from any_eP cs (bp nm c.2 x y)]
      exact q⟩
/-- an order fits the literals at a cell -/
def fits (nm : List Str) (ms : List Nat) (ls : List Lit) (cs : List Pr) : Bool := ls.all fun l => decide (bp nm ms l.x l.y ∈ cs) == l.b
def Lits (nm : List Str) (ls : List Lit) : Prop := ls.length ≤ 6 ∧ ∀ l ∈ ls, l.x ∈ nm ∧ l.y ∈ nm
def holdF : List SV → (SV → Prop) → Prop := fun ss P => ∃ (s0 : PyData) (nm : List Str) (c : Nat × List Nat) (ls : List Lit) (s : SV) (cs : List Pr), ss = [.d s0, .k (nm.map .str), .d (.list (ls.map eLt)), .d (eC c), s] ∧ Own s cs ∧ MkOk nm.length c.2 ∧ Lits nm ls ∧ P (.d (.bool (fits nm c.2 ls cs)))
theorem bools_map : ∀ bs : List Bool, bools (bs.map .bool) = some bs
  | [] => rfl
  | b :: bs => by
    show (bools (bs.map .bool)).map (b :: ·) = some (b :: bs)
    rw [bools_map bs]; rfl
theorem ok_hold (T : Top K mg a) (G_below_truth : FnOk P w K mg base CX0 2 a.f_below_truth a.d_below_truth ["card", "names", "cell", "own", "atom"] (spP K truthF)) : FnOk P w K mg base CX0 3 a.f_all_hold a.d_all_hold ["card", "names", "literals", "cell", "own"] (spP K holdF) :=
  fn_p T.F_all_hold sc_all_hold (fun ss Pp ⟨_, _, _, _, s, _, e, h, _⟩ => by subst e; rcases h with rfl | rfl <;> exact ⟨rfl, trivial⟩) fun cdv A outer s H E hr => ⟨_, _, (pss_one (ps_ret (pe_callB (RT.cr_allK (K := K) rfl rfl) (by rfl) T.z_all (by decide +kernel) (pa_cons (pe_lc (own := [("atom", 5), ("sign", 6)]) rfl sc_all_hold.nd (R1.pi_listK (K := K) rfl (pv 2)) (blkOk_by (own := [("atom", 5), ("sign", 6)]) (N := ["card", "names", "literals", "cell", "own", "atom", "sign"]) (sc := defScope s_all_hold) (by decide +kernel)) (fun _ _ _ _ _ => (R1.pg_tupK (K := K) (n := 2) rfl rfl (pgs_cons (pg_name (i := 5) sc_all_hold.nd rfl (.inl rfl)) (pgs_cons (pg_name (i := 6) sc_all_hold.nd rfl (.inl rfl)) pgs_nil)))) (fun _ _ _ _ _ => pts_nil) (fun _ _ _ _ _ => (pe_cmpR (OpR.or op_eq (PL.op_eqDK (K := K) hr.units rfl)) (pe_call G_below_truth (hr.mono (by decide)) (by rfl) T.m_below_truth T.F_below_truth.kp T.b_below_truth .nil pass0 (pa_cons (pv 0) (pa_cons (pv 1) (pa_cons (pv 3) (pa_cons (pv 4) (pa_cons (pv 5) pa_nil)))))) (pv 6) (nomark _)))) pa_nil)))),
    (PL.sim_ret (PL.sim_mv (PL.sim_rdL PL.rd_all (PL.sim_lc (PL.sim_itL (PL.sim_dat (PL.sim_var 2))) (PL.sim_gT 2 (PL.sim_gsC (PL.sim_gN 5) (PL.sim_gsC (PL.sim_gN 6) PL.sim_gsN))) PL.sim_yes (PL.sim_dat (PL.sim_op PL.rule_eq (PL.sim_dat (PL.sim_call (PL.sim_lC (PL.sim_arg (PL.sim_var 0)) (PL.sim_lC (PL.sim_arg (PL.sim_var 1)) (PL.sim_lC (PL.sim_arg (PL.sim_var 3)) (PL.sim_lC (PL.sim_arg (PL.sim_var 4)) (PL.sim_lC (PL.sim_arg (PL.sim_var 5)) PL.sim_lN))))))) (PL.sim_dat (PL.sim_var 6)))) (by decide))))), fun ss Pp ⟨s0, nm, c, ls, s, cs, e, hs, ok, hl, q⟩ => by
    subst e
    have fin : ∀ s, Own s cs → s = .d (.tuple (cs.map eP)) ∨ s = .k (cs.map eP) := fun _ h => h
    rcases hs with rfl | rfl
    all_goals
      refine ⟨fun i acc e' => e' = wipeE (startE ["card", "names", "literals", "cell", "own", "atom", "sign"] [.d s0, .k (nm.map .str), .d (.list (ls.map eLt)), .d (eC c), _]) [5, 6] ∧ acc = ((ls.take i).map fun l => decide (bp nm c.2 l.x l.y ∈ cs) == l.b).map .bool, ⟨rfl, rfl⟩, ?_, ?_⟩
      · rintro i x acc e' hx ⟨rfl, rfl⟩
        obtain ⟨l, hi, rfl⟩ := map_at hx
        obtain ⟨lx, ly⟩ := hl.2 l (List.mem_of_getElem? hi)
        have lt := (List.getElem?_eq_some_iff.mp hi).1
        have l6 := hl.1
        refine ⟨rfl, ?_⟩
        refine ⟨0, [.d s0, .k (nm.map .str), .d (eC c), _, .d (eA l.o l.x l.y)], ⟨rfl, rfl, rfl, rfl, rfl, trivial⟩, s0, nm, c, _, cs, l.o, l.x, l.y, rfl, by first | exact .inl rfl | exact .inr rfl, ok, lx, ly, ?_⟩
        refine ⟨?_, rfl, ?_⟩
        · rw [List.length_map, List.length_map, List.length_take]; omega
        · rw [List.take_add_one, hi, List.map_append, List.map_append]; rfl
      · rintro acc e' ⟨rfl, rfl⟩
        refine ⟨_, bools_map _, ?_⟩
        rw [List.length_map, List.take_length, List.all_map]
        exact q⟩
end
end K20


/-! the number of blocks, the parts -/
namespace K20
open PySem PySem.Spec PyProof.Rows L2 RN PL M20 K21
section
variable {P : Program} {w : World} {K : PySem.W.Frag} {mg : Str → Option Value} {base : Heap} {a : Ad}
def spBlk (K : PySem.W.Frag) : Sp := fun vs H Q _ => ∃ (p : Addr) (n : Nat) (ms : List Nat), vs = [.ref p] ∧ SqT K H p ((ivals ms).map V.int) ∧ MkOk n ms ∧ Q (.int (blk ms : Int)) H
theorem ok_blk (T : Top K mg a) : FnOk P w K mg base CX0 1 a.f_block_count a.d_block_count ["marks"] (spBlk K) := by
  refine T.F_block_count.ok sc_block_count (fun vs H Q E h => ?_) (fun cdv A outer s H vs Q E hr h => ?_)
  · obtain ⟨x, n, ms, rfl, _⟩ := h
    rfl
  · obtain ⟨p, n, ms, rfl, hs, ok, q⟩ := h
    refine ⟨_, (pss_one (ps_ret (pe_op op_add (pe_callBK (R0.ck_maxD rfl hr.units) (by rfl) T.z_max (by decide +kernel) (pa_cons (pv 0) pa_nil) (pk_cons (pe_un un_neg pe_int) pk_nil)) pe_int))), ?_⟩
    rw [← ok.mx] at q
    exact ⟨_, rfl, 1, rfl, p, ivals ms, -1, rfl, rfl, .inl hs, _, 1, rfl, rfl, q⟩
def blkF : List SV → (SV → Prop) → Prop := fun ss P => ∃ (n : Nat) (ms : List Nat), ss = [.d (eM ms)] ∧ MkOk n ms ∧ P (.d (.int (blk ms : Int)))
theorem gd_blk (T : Top K mg a) : FnOk P w K mg base CX0 1 a.f_block_count a.d_block_count ["marks"] (spP K blkF) := (ok_blk T).imp fun vs H Q E h => by
  obtain ⟨I, sa, ss, Pp, s0, g, ha, ⟨n, ms, rfl, ok, hf⟩, hq⟩ := h
  match vs, ha with
  | [v1], ⟨a1, _⟩ =>
    have a1 : W K I v1 (.tuple ((ivals ms).map .int)) := a1
    cases a1 with
    | @tup p ws _ hp hw =>
      have ew := PL.wa_ints hw (PL.ints_map (ivals ms))
      subst ew
      exact ⟨p, n, ms, rfl, sqT_same s0 hp, ok, hq _ hf _ H ⟨I, Same.refl _, s0, fun _ _ _ e => e, fun _ _ e _ _ => e, fun p e => (g p e).1, .int _⟩⟩
def partsF : List SV → (SV → Prop) → Prop := fun ss P => ∃ (s0 : PyData) (nm : List Str) (c : Nat × List Nat) (ls : List Lit), ss = [.d s0, .k (nm.map .str), .d (.list (ls.map eLt)), .d (eC c)] ∧ MkOk nm.length c.2 ∧ Lits nm ls ∧ P (.l (((ordL (blk c.2)).filter (fits nm c.2 ls)).map eO))
theorem ordL_len {n : Nat} (h : n ≤ 3) : (ordL n).length ≤ 64 := by
  have e : (ordL n).length = ((lawRows (prs n)).filter trB).length := (List.mergeSort_perm _ _).length_eq
  rw [e]
  refine Nat.le_trans (List.length_filter_le _ _) ?_
  rw [lawRows_len]
  exact Nat.le_trans (Nat.pow_le_pow_right (by decide) (prs_ok h).len) (by decide)
theorem filt_snoc {α : Type} {l : List α} {i : Nat} {x : α} (f : α → Bool) (h : l[i]? = some x) : (l.take (i + 1)).filter f = (l.take i).filter f ++ if f x = true then [x] else [] := by
  rw [List.take_add_one, h, List.filter_append]
  congr 1
  by_cases g : f x = true <;> simp [g]
theorem filt_le {α : Type} {l : List α} {i : Nat} (f : α → Bool) : ((l.take i).filter f).length ≤ l.length := Nat.le_trans (List.length_filter_le _ _) (by rw [List.length_take]; omega)
theorem ok_parts (T : Top K mg a) (G_block_count : FnOk P w K mg base CX0 1 a.f_block_count a.d_block_count ["marks"] (spP K blkF)) (G_orders : FnOk P w K mg base CX0 3 a.f_orders a.d_orders ["count"] (spP K ordersF))
    (G_all_hold : FnOk P w K mg base CX0 3 a.f_all_hold a.d_all_hold ["card", "names", "literals", "cell", "own"] (spP K holdF)) : FnOk P w K mg base CX0 4 a.f_below_parts a.d_below_parts ["card", "names", "literals", "cell"] (spP K partsF) :=
  fn_p T.F_below_parts sc_below_parts (fun ss Pp ⟨_, _, _, _, e, _⟩ => by subst e; exact ⟨rfl, trivial⟩) fun cdv A outer s H E hr => ⟨_, _, (pss_one (ps_ret (pe_lc (own := [("own", 4)]) rfl sc_below_parts.nd (R1.pi_listK (K := K) rfl (pe_call G_orders (hr.mono (by decide)) (by rfl) T.m_orders T.F_orders.kp T.b_orders .nil pass0 (pa_cons (pe_call G_block_count (hr.mono (by decide)) (by rfl) T.m_block_count T.F_block_count.kp T.b_block_count .nil pass0 (pa_cons (pe_ix (R1.ix_seqK (K := K) rfl) (pv 3) pe_int (fun _ _ => rfl)) pa_nil)) pa_nil))) (blkOk_by (own := [("own", 4)]) (N := ["card", "names", "literals", "cell", "own"]) (sc := defScope s_below_parts) (by decide +kernel)) (fun _ _ _ _ _ => (pg_name (i := 4) sc_below_parts.nd rfl (.inl rfl))) (fun _ _ _ _ _ => pts_one (pt_val (pe_call G_all_hold (hr.mono (by decide)) (by rfl) T.m_all_hold T.F_all_hold.kp T.b_all_hold .nil pass0 (pa_cons (pv 0) (pa_cons (pv 1) (pa_cons (pv 2) (pa_cons (pv 3) (pa_cons (pv 4) pa_nil)))))))) (fun _ _ _ _ _ => (pv 4))))),
    (PL.sim_ret (PL.sim_mv (PL.sim_lc (PL.sim_itL (PL.sim_dat (PL.sim_call (PL.sim_lC (PL.sim_arg (PL.sim_call (PL.sim_lC (PL.sim_arg (PL.sim_val (PL.sim_ix (PL.sim_var 3) PL.sim_int))) PL.sim_lN))) PL.sim_lN)))) (PL.sim_gN 4) (PL.sim_tB (PL.sim_dat (PL.sim_call (PL.sim_lC (PL.sim_arg (PL.sim_var 0)) (PL.sim_lC (PL.sim_arg (PL.sim_var 1)) (PL.sim_lC (PL.sim_arg (PL.sim_var 2)) (PL.sim_lC (PL.sim_arg (PL.sim_var 3)) (PL.sim_lC (PL.sim_arg (PL.sim_var 4)) PL.sim_lN)))))))) (PL.sim_dat (PL.sim_var 4)) (by decide)))), fun ss Pp ⟨s0, nm, c, ls, e, ok, hl, q⟩ => by
    subst e
    refine ⟨eM c.2, rfl, 0, [.d (eM c.2)], ⟨rfl, trivial⟩, nm.length, c.2, rfl, ok, ?_⟩
    refine ⟨0, [.d (.int (blk c.2 : Int))], ⟨rfl, trivial⟩, blk c.2, rfl, ok.le, ?_⟩
    have len := ordL_len ok.le
    generalize ordL (blk c.2) = os at len q ⊢
    refine ⟨fun i acc e' => e' = [.d s0, .k (nm.map .str), .d (.list (ls.map eLt)), .d (eC c), .u] ∧ acc = ((os.take i).filter (fits nm c.2 ls)).map eO, ⟨rfl, rfl⟩, ?_, ?_⟩
    · rintro i x acc e' hx ⟨rfl, rfl⟩
      obtain ⟨cs, hi, rfl⟩ := map_at hx
      refine ⟨0, [.d s0, .k (nm.map .str), .d (.list (ls.map eLt)), .d (eC c), .d (eO cs)], ⟨rfl, rfl, rfl, rfl, rfl, trivial⟩, s0, nm, c, ls, .d (eO cs), cs, rfl, .inl rfl, ok, hl, ?_⟩
      have fs := filt_snoc (fits nm c.2 ls) hi
      cases h : fits nm c.2 ls cs with
      | true =>
        refine ⟨?_, rfl, ?_⟩
        · rw [List.length_map]
          have := filt_le (l := os) (i := i) (fits nm c.2 ls)
          omega
        · rw [fs, if_pos h, List.map_append]; rfl
      | false => exact ⟨rfl, by rw [fs, if_neg (by rw [h]; decide), List.append_nil]⟩
    · rintro acc e' ⟨rfl, rfl⟩
      rw [List.length_map, List.take_length]
      exact q⟩
def goodF : List SV → (SV → Prop) → Prop := fun ss P => ∃ (os : List (List Pr)) (nm : List Str) (c : Nat × List Nat) (ls : List Lit), ss = [.d (.list (os.map eO)), .k (nm.map .str), .d (eC c), .d (.list (ls.map eLt))] ∧ os.length ≤ 64 ∧ MkOk nm.length c.2 ∧ Lits nm ls ∧ P (.l ((os.filter (fits nm c.2 ls)).map eO))
theorem ok_good (T : Top K mg a) (G_l_blocks : FnOk P w K mg base CX0 1 a.f_l_blocks a.d_l_blocks ["_law_names_here", "_law_cell", "_law_low", "_law_high"] (spP K blocksF)) : FnOk P w K mg base CX0 2 a.f_l_good a.d_l_good ["_law_listed", "_law_names_here", "_law_cell", "_law_literals"] (spP K goodF) :=
  fn_p T.F_l_good sc_l_good (fun ss Pp ⟨_, _, _, _, e, _⟩ => by subst e; exact ⟨rfl, trivial⟩) fun cdv A outer s H E hr => ⟨_, _, (pss_cons (ps_set (i := 4) sc_l_good.nd rfl (.inl rfl) (pe_lst pa_nil))
    (pss_cons (ps_for PassesOwn.never rfl (R1.pi_listK (K := K) rfl (pv 0)) (pg_name (i := 5) sc_l_good.nd rfl (.inr rfl))
    (pss_cons (ps_setLc (own := [("_law_row", 7)]) (i := 6) rfl sc_l_good.nd rfl rfl (sw_true rfl rfl rfl (by decide +kernel)) (R1.pi_listK (K := K) rfl (pv 3)) (blkOk_by (own := [("_law_row", 7)]) (N := ["_law_listed", "_law_names_here", "_law_cell", "_law_literals", "_law_found", "_law_order", "_law_wrong", "_law_row"]) (sc := defScope s_l_good) (by decide +kernel)) (fun _ _ _ _ _ => (pg_name (i := 7) sc_l_good.nd rfl (.inl rfl))) (fun _ _ _ _ _ => pts_one (pt_cmpR (OpR.or op_ne (PL.op_neDK (K := K) hr.units rfl)) (pe_cmpR (OpR.or (PL.op_inDK (K := K) hr.units65 rfl) (R1.op_inDT (K := K) hr.units65 rfl)) (pe_call G_l_blocks (hr.mono (by decide)) (by rfl) T.m_l_blocks T.F_l_blocks.kp T.b_l_blocks .nil pass0 (pa_cons (pv 1) (pa_cons (pv 2) (pa_cons (pe_ix (R1.ix_seqK (K := K) rfl) (pe_ix (R1.ix_seqK (K := K) rfl) (pv 7) pe_int (fun _ _ => rfl)) pe_int (fun _ _ => rfl)) (pa_cons (pe_ix (R1.ix_seqK (K := K) rfl) (pe_ix (R1.ix_seqK (K := K) rfl) (pv 7) pe_int (fun _ _ => rfl)) pe_int (fun _ _ => rfl)) pa_nil))))) (pv 5) rfl) (pe_ix (R1.ix_seqK (K := K) rfl) (pv 7) pe_int (fun _ _ => rfl)) (nomark _))) (fun _ _ _ _ _ => (pv 7)))
    (pss_one (ps_if (pt_cmpR (OpR.or op_eq (PL.op_eqDK (K := K) hr.units rfl)) (pe_callB call_len_seq (by rfl) T.z_len (by decide +kernel) (pa_cons (pv 6) pa_nil)) pe_int (nomark _))
    (pss_one (ps_expr (pe_bm PySem.F.plainAttrs_list PySem.F.slot_list_append PySem.F.type_list_append mt_append (pv 4) (pa_cons (pv 5) pa_nil))))
    pss_nil))))
    (pss_one (ps_ret (pv 4))))),
    (PL.sim_seq (PL.sim_set 4 (PL.sim_mv (PL.sim_lst PL.sim_nil)))
    (PL.sim_seq (PL.sim_for (PL.sim_itL (PL.sim_dat (PL.sim_var 0))) (PL.sim_gN 5)
    (PL.sim_seq (PL.sim_set 6 (PL.sim_mv (PL.sim_lc (PL.sim_itL (PL.sim_dat (PL.sim_var 3))) (PL.sim_gN 7) (PL.sim_test (PL.sim_dat (PL.sim_op PL.rule_ne (PL.sim_in (PL.sim_dat (PL.sim_call (PL.sim_lC (PL.sim_arg (PL.sim_var 1)) (PL.sim_lC (PL.sim_arg (PL.sim_var 2)) (PL.sim_lC (PL.sim_arg (PL.sim_val (PL.sim_ix (PL.sim_val (PL.sim_ix (PL.sim_var 7) PL.sim_int)) PL.sim_int))) (PL.sim_lC (PL.sim_arg (PL.sim_val (PL.sim_ix (PL.sim_val (PL.sim_ix (PL.sim_var 7) PL.sim_int)) PL.sim_int))) PL.sim_lN)))))) (PL.sim_var 5)) (PL.sim_ix (PL.sim_var 7) PL.sim_int)))) (PL.sim_dat (PL.sim_var 7)) (by decide))))
    (PL.sim_if (PL.sim_test (PL.sim_dat (PL.sim_op PL.rule_eq (PL.sim_dat (PL.sim_rd PL.rd_len (PL.sim_var 6))) PL.sim_int)))
    (PL.sim_drop (PL.sim_app (PL.sim_var 4) (PL.sim_dat (PL.sim_var 5))))
    PL.sim_next)))
    (PL.sim_ret (PL.sim_mv (PL.sim_var 4))))), fun ss Pp ⟨os, nm, c, ls, e, lo, ok, hl, q⟩ => by
    subst e
    refine ⟨Nat.zero_le _, fun i e' => ∃ s5 s6, e' = [.d (.list (os.map eO)), .k (nm.map .str), .d (eC c), .d (.list (ls.map eLt)), .l (((os.take i).filter (fits nm c.2 ls)).map eO), s5, s6, .u], ⟨_, _, rfl⟩, ?_, ?_⟩
    · rintro i x e' hx ⟨s5, s6, rfl⟩
      obtain ⟨cs, hi, rfl⟩ := map_at hx
      refine ⟨fun u acc e' => e' = [.d (.list (os.map eO)), .k (nm.map .str), .d (eC c), .d (.list (ls.map eLt)), .l (((os.take i).filter (fits nm c.2 ls)).map eO), .d (eO cs), s6, .u] ∧ acc = ((ls.take u).filter fun l => !(decide (bp nm c.2 l.x l.y ∈ cs) == l.b)).map eLt, ⟨rfl, rfl⟩, ?_, ?_⟩
      · rintro u x acc e' hx ⟨rfl, rfl⟩
        obtain ⟨l, hu, rfl⟩ := map_at hx
        obtain ⟨lx, ly⟩ := hl.2 l (List.mem_of_getElem? hu)
        refine ⟨_, rfl, _, rfl, _, rfl, _, rfl, 0, [.k (nm.map .str), .d (eC c), .d (.str l.x), .d (.str l.y)], ⟨rfl, rfl, rfl, rfl, trivial⟩, nm, c, l.x, l.y, rfl, ok, lx, ly, ?_⟩
        refine ⟨sh_eP (bp nm c.2 l.x l.y), sh_eps cs, ?_⟩
        rw [any_eP cs (bp nm c.2 l.x l.y)]
        refine ⟨_, rfl, ?_⟩
        have fs := filt_snoc (fun l : Lit => !(decide (bp nm c.2 l.x l.y ∈ cs) == l.b)) hu
        refine ite2 (fun h => ?_) (fun h => ?_)
        · refine ⟨?_, rfl, ?_⟩
          · rw [List.length_map]
            have := filt_le (l := ls) (i := u) fun l : Lit => !(decide (bp nm c.2 l.x l.y ∈ cs) == l.b)
            have := hl.1
            omega
          · rw [fs, if_pos h, List.map_append]; rfl
        · exact ⟨rfl, by rw [fs, if_neg h, List.append_nil]⟩
      · rintro acc e' ⟨rfl, rfl⟩
        rw [List.length_map, List.take_length]
        have fs := filt_snoc (fits nm c.2 ls) hi
        have ff : fits nm c.2 ls cs = decide ((ls.filter fun l => !(decide (bp nm c.2 l.x l.y ∈ cs) == l.b)).length = 0) := by
          unfold fits
          rw [Bool.eq_iff_iff, decide_eq_true_iff, List.length_eq_zero_iff, List.filter_eq_nil_iff, List.all_eq_true]
          constructor
          · intro h x hx
            rw [h x hx]; decide
          · intro h x hx
            have := h x hx
            simpa using this
        refine ite2 (fun h => ?_) (fun h => ?_)
        · have h1 : fits nm c.2 ls cs = true := by
            rw [ff]
            simpa using h
          refine ⟨?_, .d (eO cs), .l ((ls.filter fun l => !(decide (bp nm c.2 l.x l.y ∈ cs) == l.b)).map eLt), ?_⟩
          · rw [List.length_map]
            have := filt_le (l := os) (i := i) (fits nm c.2 ls)
            omega
          · rw [fs, if_pos h1, List.map_append]; rfl
        · have h1 : fits nm c.2 ls cs = false := by
            rw [ff]
            simpa using h
          refine ⟨.d (eO cs), .l ((ls.filter fun l => !(decide (bp nm c.2 l.x l.y ∈ cs) == l.b)).map eLt), ?_⟩
          rw [fs, if_neg (by rw [h1]; decide), List.append_nil]
          rfl
    · rintro e' ⟨s5, s6, rfl⟩
      rw [List.length_map, List.take_length]
      exact q⟩
end
end K20

/-! the fewest, truths, drawn pairs and literals -/
namespace K20
open PySem PySem.Spec PyProof.Rows L2 RN PL M20 K21
def fewStep (b : Option (List Pr)) (c : List Pr) : Option (List Pr) := match b with
  | none => some c
  | some d => if c.length < d.length then some c else some d
def fewest (os : List (List Pr)) : Option (List Pr) := os.foldl fewStep none
def eOpt : Option (List Pr) → PyData
  | none => .none
  | some c => eO c
section
variable {P : Program} {w : World} {K : PySem.W.Frag} {mg : Str → Option Value} {base : Heap} {a : Ad}
def fewF : List SV → (SV → Prop) → Prop := fun ss P => ∃ os : List (List Pr), ss = [.d (.list (os.map eO))] ∧ P (.d (eOpt (fewest os)))
theorem ok_few (T : Top K mg a) : FnOk P w K mg base CX0 1 a.f_l_fewest a.d_l_fewest ["_law_parts"] (spP K fewF) :=
  fn_p T.F_l_fewest sc_l_fewest (fun ss Pp ⟨_, e, _⟩ => by subst e; exact ⟨rfl, trivial⟩) fun cdv A outer s H E hr => ⟨_, _, (pss_cons (ps_set (i := 1) sc_l_fewest.nd rfl (.inl rfl) pe_non)
    (pss_cons (ps_for PassesOwn.never rfl (R1.pi_listK (K := K) rfl (pv 0)) (pg_name (i := 2) sc_l_fewest.nd rfl (.inl rfl))
    (pss_one (ps_if (PW.pt (pw_or (pt_cmpR op_isN (pv 1) pe_non (nomark _)) (pw_or1 (pt_cmpR op_lt (pe_callB call_len_seq (by rfl) T.z_len (by decide +kernel) (pa_cons (pv 2) pa_nil)) (pe_callB call_len_seq (by rfl) T.z_len (by decide +kernel) (pa_cons (pv 1) pa_nil)) (nomark _)))))
    (pss_one (ps_set (i := 1) sc_l_fewest.nd rfl (.inl rfl) (pv 2)))
    pss_nil)))
    (pss_one (ps_ret (pv 1))))),
    (PL.sim_seq (PL.sim_set 1 (PL.sim_mv (PL.sim_val PL.sim_non)))
    (PL.sim_seq (PL.sim_for (PL.sim_itL (PL.sim_dat (PL.sim_var 0))) (PL.sim_gN 2)
    (PL.sim_if (PL.sim_or (PL.sim_test (PL.sim_dat (PL.sim_op PL.rule_isN (PL.sim_dat (PL.sim_var 1)) PL.sim_non))) (PL.sim_test (PL.sim_dat (PL.sim_op PL.rule_lt (PL.sim_dat (PL.sim_rd PL.rd_len (PL.sim_var 2))) (PL.sim_dat (PL.sim_rd PL.rd_len (PL.sim_var 1)))))))
    (PL.sim_set 1 (PL.sim_mv (PL.sim_var 2)))
    PL.sim_next))
    (PL.sim_ret (PL.sim_mv (PL.sim_var 1))))), fun ss Pp ⟨os, e, q⟩ => by
    subst e
    refine ⟨fun i e' => ∃ s2, e' = [.d (.list (os.map eO)), .d (eOpt ((os.take i).foldl fewStep none)), s2], ⟨_, rfl⟩, ?_, ?_⟩
    · rintro i x e' hx ⟨s2, rfl⟩
      obtain ⟨c, hi, rfl⟩ := map_at hx
      have fs : (os.take (i + 1)).foldl fewStep none = fewStep ((os.take i).foldl fewStep none) c := by
        rw [List.take_add_one, hi, List.foldl_append]; rfl
      cases h : (os.take i).foldl fewStep none with
      | none =>
        rw [h] at fs
        refine ⟨rfl, .d (eO c), ?_⟩
        rw [fs]; rfl
      | some d =>
        rw [h] at fs
        refine ⟨rfl, ?_⟩
        refine ite2 (fun z => nomatch z) (fun _ => ite2 (fun z => ?_) (fun z => ?_))
        · have lt : c.length < d.length := by simpa using z
          refine ⟨.d (eO c), ?_⟩
          rw [fs, show fewStep (some d) c = some c from if_pos lt]; rfl
        · have lt : ¬ c.length < d.length := by simpa using z
          refine ⟨.d (eO c), ?_⟩
          rw [fs, show fewStep (some d) c = some d from if_neg lt]; rfl
    · rintro e' ⟨s2, rfl⟩
      rw [List.length_map, List.take_length]
      exact q⟩
def truthsF : List SV → (SV → Prop) → Prop := fun ss P => ∃ (nm : List Str) (c : Nat × List Nat) (cs : List Pr), ss = [.k (nm.map .str), .d (eC c), .d (eO cs)] ∧ MkOk nm.length c.2 ∧ P (.d (.bool true))
theorem ok_truths (T : Top K mg a) (G_l_blocks : FnOk P w K mg base CX0 1 a.f_l_blocks a.d_l_blocks ["_law_names_here", "_law_cell", "_law_low", "_law_high"] (spP K blocksF)) (G_below_truth : FnOk P w K mg base CX0 2 a.f_below_truth a.d_below_truth ["card", "names", "cell", "own", "atom"] (spP K truthF))
    (G_l_alike : FnOk P w K mg base CX0 30 a.f_l_alike a.d_l_alike ["_law_actual", "_law_due"] (spP K alikeF)) : FnOk P w K mg base CX0 31 a.f_l_truths a.d_l_truths ["_law_names_here", "_law_cell", "_law_order"] (spP K truthsF) :=
  fn_p T.F_l_truths sc_l_truths (fun ss Pp ⟨_, _, _, e, _⟩ => by subst e; exact ⟨rfl, trivial⟩) fun cdv A outer s H E hr => ⟨_, _, (pss_cons (ps_for PassesOwn.never rfl (R1.pi_tupK (K := K) rfl (pv 0)) (pg_name (i := 3) sc_l_truths.nd rfl (.inl rfl))
    (pss_one (ps_for PassesOwn.never rfl (R1.pi_tupK (K := K) rfl (pv 0)) (pg_name (i := 4) sc_l_truths.nd rfl (.inl rfl))
    (pss_cons (ps_set (i := 5) sc_l_truths.nd rfl (.inl rfl) (pe_cmpR (OpR.or (PL.op_inDK (K := K) hr.units65 rfl) (R1.op_inDT (K := K) hr.units65 rfl)) (pe_call G_l_blocks (hr.mono (by decide)) (by rfl) T.m_l_blocks T.F_l_blocks.kp T.b_l_blocks .nil pass0 (pa_cons (pv 0) (pa_cons (pv 1) (pa_cons (pv 3) (pa_cons (pv 4) pa_nil))))) (pv 2) rfl))
    (pss_one (ps_if (pt_not (pt_val (pe_call G_l_alike (hr.mono (by decide)) (by rfl) T.m_l_alike T.F_l_alike.kp T.b_l_alike .nil pass0 (pa_cons (pe_call G_below_truth (hr.mono (by decide)) (by rfl) T.m_below_truth T.F_below_truth.kp T.b_below_truth .nil pass0 (pa_cons (pe_tup (pa_cons pe_str pa_nil)) (pa_cons (pv 0) (pa_cons (pv 1) (pa_cons (pv 2) (pa_cons (pe_tup (pa_cons pe_str (pa_cons pe_str (pa_cons (pv 3) (pa_cons (pv 4) pa_nil))))) pa_nil)))))) (pa_cons (pv 5) pa_nil)))))
    (pss_one (ps_ret pe_bl))
    pss_nil))))))
    (pss_one (ps_ret pe_bl))),
    (PL.sim_seq (PL.sim_for (PL.sim_itT (PL.sim_dat (PL.sim_var 0))) (PL.sim_gN 3)
    (PL.sim_for (PL.sim_itT (PL.sim_dat (PL.sim_var 0))) (PL.sim_gN 4)
    (PL.sim_seq (PL.sim_set 5 (PL.sim_mv (PL.sim_val (PL.sim_in (PL.sim_dat (PL.sim_call (PL.sim_lC (PL.sim_arg (PL.sim_var 0)) (PL.sim_lC (PL.sim_arg (PL.sim_var 1)) (PL.sim_lC (PL.sim_arg (PL.sim_var 3)) (PL.sim_lC (PL.sim_arg (PL.sim_var 4)) PL.sim_lN)))))) (PL.sim_var 2)))))
    (PL.sim_if (PL.sim_not (PL.sim_tB (PL.sim_dat (PL.sim_call (PL.sim_lC (PL.sim_arg (PL.sim_call (PL.sim_lC (PL.sim_arg (PL.sim_val (PL.sim_tup (PL.sim_cons PL.sim_str PL.sim_nil)))) (PL.sim_lC (PL.sim_arg (PL.sim_var 0)) (PL.sim_lC (PL.sim_arg (PL.sim_var 1)) (PL.sim_lC (PL.sim_arg (PL.sim_var 2)) (PL.sim_lC (PL.sim_arg (PL.sim_val (PL.sim_tup (PL.sim_cons PL.sim_str (PL.sim_cons PL.sim_str (PL.sim_cons (PL.sim_dat (PL.sim_var 3)) (PL.sim_cons (PL.sim_dat (PL.sim_var 4)) PL.sim_nil))))))) PL.sim_lN))))))) (PL.sim_lC (PL.sim_arg (PL.sim_var 5)) PL.sim_lN))))))
    (PL.sim_ret (PL.sim_mv (PL.sim_val PL.sim_bl)))
    PL.sim_next))))
    (PL.sim_ret (PL.sim_mv (PL.sim_val PL.sim_bl)))), fun ss Pp ⟨nm, c, cs, e, ok, q⟩ => by
    subst e
    refine ⟨fun i e' => ∃ s3 s4 s5, e' = [.k (nm.map .str), .d (eC c), .d (eO cs), s3, s4, s5], ⟨_, _, _, rfl⟩, ?_, ?_⟩
    · rintro i x e' hx ⟨s3, s4, s5, rfl⟩
      obtain ⟨x, hi, rfl⟩ := map_at hx
      have hx := List.mem_of_getElem? hi
      refine ⟨fun i e' => ∃ s4 s5, e' = [.k (nm.map .str), .d (eC c), .d (eO cs), .d (.str x), s4, s5], ⟨_, _, rfl⟩, ?_, ?_⟩
      · rintro j y e' hy ⟨s4, s5, rfl⟩
        obtain ⟨y, hj, rfl⟩ := map_at hy
        have hy := List.mem_of_getElem? hj
        refine ⟨0, [.k (nm.map .str), .d (eC c), .d (.str x), .d (.str y)], ⟨rfl, rfl, rfl, rfl, trivial⟩, nm, c, x, y, rfl, ok, hx, hy, ?_⟩
        refine ⟨sh_eP (bp nm c.2 x y), sh_eps cs, ?_⟩
        rw [any_eP cs (bp nm c.2 x y)]
        refine ⟨by show 1 ≤ 1000; decide, by show 4 ≤ 1000; decide, 0, [.d (.tuple [.str "below"]), .k (nm.map .str), .d (eC c), .d (eO cs), .d (eA "o" x y)], ⟨rfl, rfl, rfl, rfl, rfl, trivial⟩, _, nm, c, _, cs, "o", x, y, rfl, .inl rfl, ok, hx, hy, ?_⟩
        refine ⟨0, [.d (.bool (decide (bp nm c.2 x y ∈ cs))), .d (.bool (decide (bp nm c.2 x y ∈ cs)))], ⟨rfl, rfl, trivial⟩, _, rfl, ⟨by show 0 < 30; decide, by show 0 ≤ 1000000; decide⟩, ?_⟩
        exact ⟨.d (.str y), _, rfl⟩
      · rintro e' ⟨s4, s5, rfl⟩
        exact ⟨_, _, _, rfl⟩
    · rintro e' ⟨s3, s4, s5, rfl⟩
      exact q⟩
end
end K20

/-! what is drawn -/
namespace K20
open PySem PySem.Spec PyProof.Rows L2 RN PL M20 K21
section
variable {P : Program} {w : World} {K : PySem.W.Frag} {mg : Str → Option Value} {base : Heap} {a : Ad}
def pairsF : List SV → (SV → Prop) → Prop := fun ss P => ss = [.st] ∧ ∀ (ps : List Pr) (vs : List Int), Over vs ps → vs.length ≤ 7 → ps.length ≤ 9 → P (.l (ps.map eP))
def row7 (st g : Int) : List Int := (List.range 7).map fun (k : Nat) => st + g * (k : Int)
theorem in_row7 {st g k : Int} (h0 : 0 ≤ k) (h1 : k < 7) : st + g * k ∈ row7 st g := List.mem_map.mpr ⟨k.toNat, List.mem_range.mpr (by omega), by
  show st + g * ((k.toNat : Nat) : Int) = st + g * k
  rw [Int.toNat_of_nonneg h0]⟩
theorem pick3 {x y z : Int} {v : Int} (h0 : 0 ≤ v) (h1 : v < 3) : ∃ u, atI [PyData.int x, PyData.int y, PyData.int z] v = some (.int u) ∧ (u = x ∨ u = y ∨ u = z) := by
  rcases (by omega : v = 0 ∨ v = 1 ∨ v = 2) with rfl | rfl | rfl
  · exact ⟨x, rfl, .inl rfl⟩
  · exact ⟨y, rfl, .inr (.inl rfl)⟩
  · exact ⟨z, rfl, .inr (.inr rfl)⟩
theorem rd_drawD {e : PL.Env} {Q : PyData → PL.Env → Prop} (j : Nat) (m : Int) (c : ∀ v : Int, 0 ≤ v → v < m → Q (.int v) e) (h : gt e j = .st := by rfl) (m0 : 1 ≤ m := by decide) (m1 : m < 2 ^ 60 := by decide) : pD (pCall drawF (plC (pArg (pVar j)) (plC (pArg (pE (pC (.int m)))) plN))) e Q :=
  rd_draw j m (fun v a b => c v a b) h m0 m1
theorem over_snoc {vs : List Int} {ps : List Pr} {x y : Int} (h : Over vs ps) (hx : x ∈ vs) (hy : y ∈ vs) : Over vs (ps ++ [(x, y)]) := fun p hp => by
  rcases List.mem_append.mp hp with hp | hp
  · exact h p hp
  · rw [List.mem_singleton.mp hp]; exact ⟨hx, hy⟩
theorem ok_pairs (T : Top K mg a) (G_l_draw : FnOk P w K mg base CX0 1 a.f_l_draw a.d_l_draw ["_law_state_here", "_law_many"] (spP K drawF)) : FnOk P w K mg base CX0 2 a.f_l_pairs a.d_l_pairs ["_law_state_here"] (spP K pairsF) :=
  fn_p T.F_l_pairs sc_l_pairs (fun ss Pp ⟨e, _⟩ => by subst e; exact ⟨rfl, fun s hs => nomatch hs⟩) fun cdv A outer s H E hr => ⟨_, _, (pss_cons (ps_set (i := 1) sc_l_pairs.nd rfl (.inl rfl) (pe_ix (R1.ix_seqK (K := K) rfl) (pe_lst (pa_cons pe_int (pa_cons (pe_un un_neg pe_int) (pa_cons pe_int pa_nil)))) (pe_call G_l_draw (hr.mono (by decide)) (by rfl) T.m_l_draw T.F_l_draw.kp T.b_l_draw .nil pass0 (pa_cons (pv 0) (pa_cons pe_int pa_nil))) (fun _ _ => rfl)))
    (pss_cons (ps_set (i := 2) sc_l_pairs.nd rfl (.inl rfl) (pe_ix (R1.ix_seqK (K := K) rfl) (pe_lst (pa_cons pe_int (pa_cons pe_int (pa_cons (pe_un un_neg pe_int) pa_nil)))) (pe_call G_l_draw (hr.mono (by decide)) (by rfl) T.m_l_draw T.F_l_draw.kp T.b_l_draw .nil pass0 (pa_cons (pv 0) (pa_cons pe_int pa_nil))) (fun _ _ => rfl)))
    (pss_cons (ps_set (i := 3) sc_l_pairs.nd rfl (.inl rfl) (pe_cmpR (OpR.or op_eq (PL.op_eqDK (K := K) hr.units rfl)) (pe_call G_l_draw (hr.mono (by decide)) (by rfl) T.m_l_draw T.F_l_draw.kp T.b_l_draw .nil pass0 (pa_cons (pv 0) (pa_cons pe_int pa_nil))) pe_int (nomark _)))
    (pss_cons (ps_set (i := 4) sc_l_pairs.nd rfl (.inl rfl) (pe_lst pa_nil))
    (C8.pss_cut (ps_if (pt_val (pv 3))
    (pss_cons (ps_for PassesOwn.never rfl (pi_range1 (by rfl) T.z_range (pa_cons (pe_call G_l_draw (hr.mono (by decide)) (by rfl) T.m_l_draw T.F_l_draw.kp T.b_l_draw .nil pass0 (pa_cons (pv 0) (pa_cons pe_int pa_nil))) pa_nil)) (pg_name (i := 5) sc_l_pairs.nd rfl (.inl rfl))
    (pss_one (ps_expr (pe_bm PySem.F.plainAttrs_list PySem.F.slot_list_append PySem.F.type_list_append mt_append (pv 4) (pa_cons (pe_tup (pa_cons (pe_op (OpR.or op_add (OpR.or op_add_str (OpR.or op_cat (PL.op_catAK (K := K) rfl)))) (pv 1) (pe_op op_mul (pv 2) (pv 5))) (pa_cons (pe_op (OpR.or op_add (OpR.or op_add_str (OpR.or op_cat (PL.op_catAK (K := K) rfl)))) (pv 1) (pe_op op_mul (pv 2) (pe_op (OpR.or op_add (OpR.or op_add_str (OpR.or op_cat (PL.op_catAK (K := K) rfl)))) (pv 5) pe_int))) pa_nil))) pa_nil)))))
    (pss_one (ps_if (pt_cmpR (OpR.or op_eq (PL.op_eqDK (K := K) hr.units rfl)) (pe_call G_l_draw (hr.mono (by decide)) (by rfl) T.m_l_draw T.F_l_draw.kp T.b_l_draw .nil pass0 (pa_cons (pv 0) (pa_cons pe_int pa_nil))) pe_int (nomark _))
    (pss_one (ps_set (i := 4) sc_l_pairs.nd rfl (.inl rfl) (PL.pe_revLK (K := K) rfl (pv 4))))
    pss_nil)))
    (pss_one (ps_for PassesOwn.never rfl (pi_range1 (by rfl) T.z_range (pa_cons (pe_call G_l_draw (hr.mono (by decide)) (by rfl) T.m_l_draw T.F_l_draw.kp T.b_l_draw .nil pass0 (pa_cons (pv 0) (pa_cons pe_int pa_nil))) pa_nil)) (pg_name (i := 5) sc_l_pairs.nd rfl (.inl rfl))
    (pss_one (ps_expr (pe_bm PySem.F.plainAttrs_list PySem.F.slot_list_append PySem.F.type_list_append mt_append (pv 4) (pa_cons (pe_tup (pa_cons (pe_op (OpR.or op_add (OpR.or op_add_str (OpR.or op_cat (PL.op_catAK (K := K) rfl)))) (pv 1) (pe_op op_mul (pv 2) (pe_call G_l_draw (hr.mono (by decide)) (by rfl) T.m_l_draw T.F_l_draw.kp T.b_l_draw .nil pass0 (pa_cons (pv 0) (pa_cons pe_int pa_nil))))) (pa_cons (pe_op (OpR.or op_add (OpR.or op_add_str (OpR.or op_cat (PL.op_catAK (K := K) rfl)))) (pv 1) (pe_op op_mul (pv 2) (pe_call G_l_draw (hr.mono (by decide)) (by rfl) T.m_l_draw T.F_l_draw.kp T.b_l_draw .nil pass0 (pa_cons (pv 0) (pa_cons pe_int pa_nil))))) pa_nil))) pa_nil)))))))
    (pss_one (ps_ret (pv 4)))))))),
    (PL.sim_seq (PL.sim_set 1 (PL.sim_mv (PL.sim_val (PL.sim_ix (PL.sim_lst (PL.sim_cons PL.sim_int (PL.sim_cons PL.sim_neg (PL.sim_cons PL.sim_int PL.sim_nil)))) (PL.sim_dat (PL.sim_call (PL.sim_lC (PL.sim_arg (PL.sim_var 0)) (PL.sim_lC (PL.sim_arg (PL.sim_val PL.sim_int)) PL.sim_lN))))))))
    (PL.sim_seq (PL.sim_set 2 (PL.sim_mv (PL.sim_val (PL.sim_ix (PL.sim_lst (PL.sim_cons PL.sim_int (PL.sim_cons PL.sim_int (PL.sim_cons PL.sim_neg PL.sim_nil)))) (PL.sim_dat (PL.sim_call (PL.sim_lC (PL.sim_arg (PL.sim_var 0)) (PL.sim_lC (PL.sim_arg (PL.sim_val PL.sim_int)) PL.sim_lN))))))))
    (PL.sim_seq (PL.sim_set 3 (PL.sim_mv (PL.sim_op PL.rule_eq (PL.sim_dat (PL.sim_call (PL.sim_lC (PL.sim_arg (PL.sim_var 0)) (PL.sim_lC (PL.sim_arg (PL.sim_val PL.sim_int)) PL.sim_lN)))) PL.sim_int)))
    (PL.sim_seq (PL.sim_set 4 (PL.sim_mv (PL.sim_lst PL.sim_nil)))
    (PL.sim_cut (PL.sim_if (PL.sim_tB (PL.sim_dat (PL.sim_var 3)))
    (PL.sim_seq (PL.sim_for (PL.sim_rg1 (PL.sim_cons (PL.sim_dat (PL.sim_call (PL.sim_lC (PL.sim_arg (PL.sim_var 0)) (PL.sim_lC (PL.sim_arg (PL.sim_val PL.sim_int)) PL.sim_lN)))) PL.sim_nil)) (PL.sim_gN 5)
    (PL.sim_drop (PL.sim_app (PL.sim_var 4) (PL.sim_tup (PL.sim_cons (PL.sim_dat (PL.sim_op PL.rule_add (PL.sim_dat (PL.sim_var 1)) (PL.sim_dat (PL.sim_op PL.rule_mul (PL.sim_dat (PL.sim_var 2)) (PL.sim_dat (PL.sim_var 5)))))) (PL.sim_cons (PL.sim_dat (PL.sim_op PL.rule_add (PL.sim_dat (PL.sim_var 1)) (PL.sim_dat (PL.sim_op PL.rule_mul (PL.sim_dat (PL.sim_var 2)) (PL.sim_dat (PL.sim_op PL.rule_add (PL.sim_dat (PL.sim_var 5)) PL.sim_int)))))) PL.sim_nil))))))
    (PL.sim_if (PL.sim_test (PL.sim_dat (PL.sim_op PL.rule_eq (PL.sim_dat (PL.sim_call (PL.sim_lC (PL.sim_arg (PL.sim_var 0)) (PL.sim_lC (PL.sim_arg (PL.sim_val PL.sim_int)) PL.sim_lN)))) PL.sim_int)))
    (PL.sim_set 4 (PL.sim_mv (PL.sim_rev (PL.sim_var 4))))
    PL.sim_next))
    (PL.sim_for (PL.sim_rg1 (PL.sim_cons (PL.sim_dat (PL.sim_call (PL.sim_lC (PL.sim_arg (PL.sim_var 0)) (PL.sim_lC (PL.sim_arg (PL.sim_val PL.sim_int)) PL.sim_lN)))) PL.sim_nil)) (PL.sim_gN 5)
    (PL.sim_drop (PL.sim_app (PL.sim_var 4) (PL.sim_tup (PL.sim_cons (PL.sim_dat (PL.sim_op PL.rule_add (PL.sim_dat (PL.sim_var 1)) (PL.sim_dat (PL.sim_op PL.rule_mul (PL.sim_dat (PL.sim_var 2)) (PL.sim_dat (PL.sim_call (PL.sim_lC (PL.sim_arg (PL.sim_var 0)) (PL.sim_lC (PL.sim_arg (PL.sim_val PL.sim_int)) PL.sim_lN)))))))) (PL.sim_cons (PL.sim_dat (PL.sim_op PL.rule_add (PL.sim_dat (PL.sim_var 1)) (PL.sim_dat (PL.sim_op PL.rule_mul (PL.sim_dat (PL.sim_var 2)) (PL.sim_dat (PL.sim_call (PL.sim_lC (PL.sim_arg (PL.sim_var 0)) (PL.sim_lC (PL.sim_arg (PL.sim_val PL.sim_int)) PL.sim_lN)))))))) PL.sim_nil)))))))
    (PL.sim_ret (PL.sim_mv (PL.sim_var 4)))))))), fun ss Pp ⟨e, q⟩ => by
    subst e
    refine ⟨by show 3 ≤ 1000; decide, rd_drawD 0 3 fun v1 a0 a1 => ?_⟩
    obtain ⟨st, hs, hst⟩ := pick3 (x := 0) (y := -9) (z := 1000) a0 a1
    refine ⟨_, hs, by show 3 ≤ 1000; decide, rd_drawD 0 3 fun v2 b0 b1 => ?_⟩
    obtain ⟨g, hg, hgt⟩ := pick3 (x := 1) (y := 13) (z := -4) b0 b1
    refine ⟨_, hg, ?_⟩
    dsimp only [pSeq, pSet, pM, pOp, mv, List.set, startE, List.append, List.replicate]
    refine rd_drawD 0 3 fun v3 c0 c1 => ?_
    have gb : -(2 ^ 64) < g ∧ g < 2 ^ 64 := by rcases hgt with rfl | rfl | rfl <;> decide
    refine ⟨Nat.zero_le _, fun e' => ∃ ps s5, e' = [.st, .d (.int st), .d (.int g), .d (.bool (decide (v3 = 1))), .l ((ps : List Pr).map eP), s5] ∧ Over (row7 st g) ps ∧ ps.length ≤ 9, ?_, ?_⟩
    · refine ite2 (fun _ => ?_) (fun _ => ?_)
      · refine rd_drawD 0 7 fun n n0 n1 => ⟨by omega, by omega, fun i e' => ∃ ps s5, e' = [.st, .d (.int st), .d (.int g), .d (.bool (decide (v3 = 1))), .l ((ps : List Pr).map eP), s5] ∧ Over (row7 st g) ps ∧ ps.length ≤ i, ⟨[], _, rfl, (fun p hp => nomatch hp), Nat.le_refl _⟩, ?_, ?_⟩
        · rintro i x e' hx ⟨ps, s5, rfl, ov, le⟩
          have hi : (i : Int) < n := by
            have := (List.getElem?_eq_some_iff.mp hx).1
            rw [rng_len] at this; omega
          rw [rng_at (by omega), Int.zero_add] at hx
          cases hx
          refine ⟨gb, gb, by show 2 ≤ 1000; decide, ?_, ps ++ [(st + g * (i : Int), st + g * ((i : Int) + 1))], .d (.int (i : Int)), ?_, over_snoc ov (in_row7 (by omega) (by omega)) (in_row7 (by omega) (by omega)), ?_⟩
          · rw [List.length_map]; omega
          · rw [List.map_append]; rfl
          · rw [List.length_append]; show _ + 1 ≤ _; omega
        · rintro e' ⟨ps, s5, rfl, ov, le⟩
          rw [rng_len] at le
          refine rd_drawD (e := [.st, .d (.int st), .d (.int g), .d (.bool (decide (v3 = 1))), .l (ps.map eP), s5]) 0 2 fun v d0 d1 => ?_
          refine ite2 (fun _ => ?_) (fun _ => ?_)
          · refine ⟨ps.reverse, s5, ?_, fun p hp => ov p (List.mem_reverse.mp hp), by rw [List.length_reverse]; omega⟩
            rw [List.map_reverse]; rfl
          · exact ⟨ps, s5, rfl, ov, by omega⟩
      · refine rd_drawD 0 10 fun n n0 n1 => ⟨by omega, by omega, fun i e' => ∃ ps s5, e' = [.st, .d (.int st), .d (.int g), .d (.bool (decide (v3 = 1))), .l ((ps : List Pr).map eP), s5] ∧ Over (row7 st g) ps ∧ ps.length ≤ i, ⟨[], _, rfl, (fun p hp => nomatch hp), Nat.le_refl _⟩, ?_, ?_⟩
        · rintro i x e' hx ⟨ps, s5, rfl, ov, le⟩
          have hi : (i : Int) < n := by
            have := (List.getElem?_eq_some_iff.mp hx).1
            rw [rng_len] at this; omega
          rw [rng_at (by omega), Int.zero_add] at hx
          cases hx
          refine rd_drawD 0 7 fun k k0 k1 => ⟨gb, rd_drawD 0 7 fun m m0 m1 => ⟨gb, by show 2 ≤ 1000; decide, ?_, ps ++ [(st + g * k, st + g * m)], .d (.int (i : Int)), ?_, over_snoc ov (in_row7 (by omega) (by omega)) (in_row7 (by omega) (by omega)), ?_⟩⟩
          · rw [List.length_map]; omega
          · rw [List.map_append]; rfl
          · rw [List.length_append]; show _ + 1 ≤ _; omega
        · rintro e' ⟨ps, s5, rfl, ov, le⟩
          rw [rng_len] at le
          exact ⟨ps, s5, rfl, ov, by omega⟩
    · rintro e' ⟨ps, s5, rfl, ov, le⟩
      exact q ps (row7 st g) ov (by unfold row7; rw [List.length_map, List.length_range]; omega) le⟩
def belowF : List SV → (SV → Prop) → Prop := fun ss P => ∃ nm : List Str, ss = [.st, .k (nm.map .str)] ∧ nm.length ≤ 3 ∧ ∀ ls : List Lit, Lits nm ls → P (.l (ls.map eLt))
theorem ok_below (T : Top K mg a) (G_l_draw : FnOk P w K mg base CX0 1 a.f_l_draw a.d_l_draw ["_law_state_here", "_law_many"] (spP K drawF)) : FnOk P w K mg base CX0 2 a.f_l_below a.d_l_below ["_law_state_here", "_law_names_here"] (spP K belowF) :=
  fn_p T.F_l_below sc_l_below (fun ss Pp ⟨_, e, _⟩ => by subst e; exact ⟨rfl, fun s hs => by rw [List.mem_singleton.mp hs]; rfl⟩) fun cdv A outer s H E hr => ⟨_, _, (pss_cons (ps_set (i := 2) sc_l_below.nd rfl (.inl rfl) (pe_ix (R1.ix_seqK (K := K) rfl) (pe_lst (pa_cons pe_str (pa_cons pe_str (pa_cons pe_str pa_nil)))) (pe_call G_l_draw (hr.mono (by decide)) (by rfl) T.m_l_draw T.F_l_draw.kp T.b_l_draw .nil pass0 (pa_cons (pv 0) (pa_cons pe_int pa_nil))) (fun _ _ => rfl)))
    (pss_cons (ps_set (i := 3) sc_l_below.nd rfl (.inl rfl) (pe_lst pa_nil))
    (C8.pss_cut (ps_if (pt_cmpR op_gt (pe_callB call_len_seq (by rfl) T.z_len (by decide +kernel) (pa_cons (pv 1) pa_nil)) pe_int (nomark _))
    (pss_one (ps_for PassesOwn.never rfl (pi_range1 (by rfl) T.z_range (pa_cons (pe_call G_l_draw (hr.mono (by decide)) (by rfl) T.m_l_draw T.F_l_draw.kp T.b_l_draw .nil pass0 (pa_cons (pv 0) (pa_cons pe_int pa_nil))) pa_nil)) (pg_name (i := 4) sc_l_below.nd rfl (.inl rfl))
    (pss_cons (ps_set (i := 5) sc_l_below.nd rfl (.inl rfl) (pe_ix (R1.ix_seqK (K := K) rfl) (pv 1) (pe_call G_l_draw (hr.mono (by decide)) (by rfl) T.m_l_draw T.F_l_draw.kp T.b_l_draw .nil pass0 (pa_cons (pv 0) (pa_cons (pe_callB call_len_seq (by rfl) T.z_len (by decide +kernel) (pa_cons (pv 1) pa_nil)) pa_nil))) (fun _ _ => rfl)))
    (pss_cons (ps_set (i := 6) sc_l_below.nd rfl (.inl rfl) (pe_ix (R1.ix_seqK (K := K) rfl) (pv 1) (pe_call G_l_draw (hr.mono (by decide)) (by rfl) T.m_l_draw T.F_l_draw.kp T.b_l_draw .nil pass0 (pa_cons (pv 0) (pa_cons (pe_callB call_len_seq (by rfl) T.z_len (by decide +kernel) (pa_cons (pv 1) pa_nil)) pa_nil))) (fun _ _ => rfl)))
    (pss_one (ps_expr (pe_bm PySem.F.plainAttrs_list PySem.F.slot_list_append PySem.F.type_list_append mt_append (pv 3) (pa_cons (pe_tup (pa_cons (pe_tup (pa_cons (pv 2) (pa_cons pe_str (pa_cons (pv 5) (pa_cons (pv 6) pa_nil))))) (pa_cons (pe_cmpR (OpR.or op_ne (PL.op_neDK (K := K) hr.units rfl)) (pe_call G_l_draw (hr.mono (by decide)) (by rfl) T.m_l_draw T.F_l_draw.kp T.b_l_draw .nil pass0 (pa_cons (pv 0) (pa_cons pe_int pa_nil))) pe_int (nomark _)) pa_nil))) pa_nil))))))))
    pss_nil)
    (pss_one (ps_ret (pv 3)))))),
    (PL.sim_seq (PL.sim_set 2 (PL.sim_mv (PL.sim_val (PL.sim_ix (PL.sim_lst (PL.sim_cons PL.sim_str (PL.sim_cons PL.sim_str (PL.sim_cons PL.sim_str PL.sim_nil)))) (PL.sim_dat (PL.sim_call (PL.sim_lC (PL.sim_arg (PL.sim_var 0)) (PL.sim_lC (PL.sim_arg (PL.sim_val PL.sim_int)) PL.sim_lN))))))))
    (PL.sim_seq (PL.sim_set 3 (PL.sim_mv (PL.sim_lst PL.sim_nil)))
    (PL.sim_cut (PL.sim_if (PL.sim_test (PL.sim_dat (PL.sim_op PL.rule_gt (PL.sim_dat (PL.sim_rd PL.rd_len (PL.sim_var 1))) PL.sim_int)))
    (PL.sim_for (PL.sim_rg1 (PL.sim_cons (PL.sim_dat (PL.sim_call (PL.sim_lC (PL.sim_arg (PL.sim_var 0)) (PL.sim_lC (PL.sim_arg (PL.sim_val PL.sim_int)) PL.sim_lN)))) PL.sim_nil)) (PL.sim_gN 4)
    (PL.sim_seq (PL.sim_set 5 (PL.sim_mv (PL.sim_val (PL.sim_ix (PL.sim_var 1) (PL.sim_dat (PL.sim_call (PL.sim_lC (PL.sim_arg (PL.sim_var 0)) (PL.sim_lC (PL.sim_arg (PL.sim_rd PL.rd_len (PL.sim_var 1))) PL.sim_lN))))))))
    (PL.sim_seq (PL.sim_set 6 (PL.sim_mv (PL.sim_val (PL.sim_ix (PL.sim_var 1) (PL.sim_dat (PL.sim_call (PL.sim_lC (PL.sim_arg (PL.sim_var 0)) (PL.sim_lC (PL.sim_arg (PL.sim_rd PL.rd_len (PL.sim_var 1))) PL.sim_lN))))))))
    (PL.sim_drop (PL.sim_app (PL.sim_var 3) (PL.sim_tup (PL.sim_cons (PL.sim_tup (PL.sim_cons (PL.sim_dat (PL.sim_var 2)) (PL.sim_cons PL.sim_str (PL.sim_cons (PL.sim_dat (PL.sim_var 5)) (PL.sim_cons (PL.sim_dat (PL.sim_var 6)) PL.sim_nil))))) (PL.sim_cons (PL.sim_dat (PL.sim_op PL.rule_ne (PL.sim_dat (PL.sim_call (PL.sim_lC (PL.sim_arg (PL.sim_var 0)) (PL.sim_lC (PL.sim_arg (PL.sim_val PL.sim_int)) PL.sim_lN)))) PL.sim_int)) PL.sim_nil))))))))
    PL.sim_next)
    (PL.sim_ret (PL.sim_mv (PL.sim_var 3)))))), fun ss Pp ⟨nm, e, hn, q⟩ => by
    subst e
    refine ⟨by show 3 ≤ 1000; decide, rd_drawD 0 3 fun v1 a0 a1 => ?_⟩
    obtain ⟨o, ho⟩ : ∃ o : Str, atI [PyData.str "o", PyData.str "b", PyData.str "t10"] v1 = some (.str o) := by
      rcases (by omega : v1 = 0 ∨ v1 = 1 ∨ v1 = 2) with rfl | rfl | rfl
      · exact ⟨"o", rfl⟩
      · exact ⟨"b", rfl⟩
      · exact ⟨"t10", rfl⟩
    refine ⟨_, ho, Nat.zero_le _, fun e' => ∃ ls s4 s5 s6, e' = [.st, .k (nm.map .str), .d (.str o), .l ((ls : List Lit).map eLt), s4, s5, s6] ∧ Lits nm ls, ?_, ?_⟩
    · have none : Lits nm [] := ⟨Nat.zero_le _, fun l h => nomatch h⟩
      refine ite2 (fun h => ?_) (fun _ => ⟨[], _, _, _, rfl, none⟩)
      have pos : 0 < nm.length := by
        have := of_decide_eq_true h
        rw [List.length_map] at this
        omega
      refine rd_drawD 0 5 fun n n0 n1 => ⟨by omega, by omega, fun i e' => ∃ ls s4 s5 s6, e' = [.st, .k (nm.map .str), .d (.str o), .l ((ls : List Lit).map eLt), s4, s5, s6] ∧ Lits nm ls ∧ ls.length ≤ i, ⟨[], _, _, _, rfl, none, Nat.le_refl _⟩, ?_, ?_⟩
      · rintro i x e' hx ⟨ls, s4, s5, s6, rfl, hl, le⟩
        have hi : (i : Int) < n := by
          have := (List.getElem?_eq_some_iff.mp hx).1
          rw [rng_len] at this; omega
        rw [rng_at (by omega), Int.zero_add] at hx
        cases hx
        have ln : ((nm.map PyData.str).length : Int) = (nm.length : Int) := by rw [List.length_map]
        have pick : ∀ v : Int, 0 ≤ v → v < ((nm.map PyData.str).length : Int) → ∃ z, z ∈ nm ∧ atI (nm.map PyData.str) v = some (.str z) := fun v v0 v1 => by
          rw [ln] at v1
          obtain ⟨m, rfl⟩ : ∃ m : Nat, v = (m : Int) := ⟨v.toNat, by omega⟩
          have lt : m < nm.length := by omega
          exact ⟨nm[m], List.getElem_mem lt, atI_nat (by rw [List.getElem?_map, List.getElem?_eq_getElem lt]; rfl)⟩
        refine ⟨0, [.st, .d (.int ((nm.map PyData.str).length : Nat))], ⟨⟨rfl, rfl⟩, rfl, trivial⟩, _, rfl, by omega, by omega, fun v p0 p1 => ?_⟩
        obtain ⟨x, hx, ex⟩ := pick v p0 p1
        refine ⟨_, ex, ?_⟩
        refine ⟨0, [.st, .d (.int ((nm.map PyData.str).length : Nat))], ⟨⟨rfl, rfl⟩, rfl, trivial⟩, _, rfl, by omega, by omega, fun v q0 q1 => ?_⟩
        obtain ⟨y, hy, ey⟩ := pick v q0 q1
        refine ⟨_, ey, by show 4 ≤ 1000; decide, ?_⟩
        refine rd_drawD (e := [.st, .k (nm.map .str), .d (.str o), .l (ls.map eLt), .d (.int (i : Int)), .d (.str x), .d (.str y)]) 0 3 fun b d0 d1 => ?_
        refine ⟨by show 2 ≤ 1000; decide, ?_, ls ++ [⟨o, x, y, !decide (b = 2)⟩], .d (.int (i : Int)), .d (.str x), .d (.str y), ?_, ⟨?_, fun l h => ?_⟩, ?_⟩
        · rw [List.length_map]; omega
        · rw [List.map_append]; rfl
        · rw [List.length_append]; show _ + 1 ≤ 6; omega
        · rcases List.mem_append.mp h with h | h
          · exact hl.2 l h
          · rw [List.mem_singleton.mp h]; exact ⟨hx, hy⟩
        · rw [List.length_append]; show _ + 1 ≤ _; omega
      · rintro e' ⟨ls, s4, s5, s6, rfl, hl, le⟩
        exact ⟨ls, _, _, _, rfl, hl⟩
    · rintro e' ⟨ls, s4, s5, s6, rfl, hl⟩
      exact q ls hl⟩
end
end K20

/-! the program's least part -/
namespace K20
open PySem PySem.Spec PyProof.Rows L2 RN PL M20 K21
/-- the pairs that the literals say -/
def said (nm : List Str) (ms : List Nat) (ls : List Lit) : List Pr := (ls.filter (·.b)).map fun l => bp nm ms l.x l.y
/-- what below_part returns, if cs is the closure of what is said -/
def partOf (nm : List Str) (ms : List Nat) (ls : List Lit) (cs : List Pr) : Option (List Pr) := if (cs.any fun p => decide (p.1 = p.2)) || !fits nm ms ls cs then none else some cs
section
variable {P : Program} {w : World} {K : PySem.W.Frag} {mg : Str → Option Value} {base : Heap} {a : Ad}
def partF : List SV → (SV → Prop) → Prop := fun ss P => ∃ (s0 : PyData) (nm : List Str) (c : Nat × List Nat) (ls : List Lit), ss = [.d s0, .k (nm.map .str), .d (.list (ls.map eLt)), .d (eC c)] ∧ MkOk nm.length c.2 ∧ Lits nm ls ∧
  ∀ cs, Clo (said nm c.2 ls) cs → (partOf nm c.2 ls cs = none → P (.d .none)) ∧ (partOf nm c.2 ls cs = some cs → P (.k (cs.map eP)))
theorem ok_part (T : Top K mg a) (G_block_of : FnOk P w K mg base CX0 1 a.f_block_of a.d_block_of ["names", "cell", "name"] (spP K bofF)) (G_closed_pairs : FnOk P w K mg base CX0 2 a.f_closed_pairs a.d_closed_pairs ["pairs"] (spP K closeF))
    (G_all_hold : FnOk P w K mg base CX0 3 a.f_all_hold a.d_all_hold ["card", "names", "literals", "cell", "own"] (spP K holdF)) : FnOk P w K mg base CX0 4 a.f_below_part a.d_below_part ["card", "names", "literals", "cell"] (spP K partF) :=
  fn_p T.F_below_part sc_below_part (fun ss Pp ⟨_, _, _, _, e, _⟩ => by subst e; exact ⟨rfl, trivial⟩) fun cdv A outer s H E hr => ⟨_, _, (pss_cons (ps_setLc (own := [("atom", 6), ("sign", 7)]) (i := 4) rfl sc_below_part.nd rfl rfl (sw_true rfl rfl rfl (by decide +kernel)) (R1.pi_listK (K := K) rfl (pv 2)) (blkOk_by (own := [("atom", 6), ("sign", 7)]) (N := ["card", "names", "literals", "cell", "asserted", "own", "atom", "sign", "low", "high"]) (sc := defScope s_below_part) (by decide +kernel)) (fun _ _ _ _ _ => (R1.pg_tupK (K := K) (n := 2) rfl rfl (pgs_cons (pg_name (i := 6) sc_below_part.nd rfl (.inl rfl)) (pgs_cons (pg_name (i := 7) sc_below_part.nd rfl (.inl rfl)) pgs_nil)))) (fun _ _ _ _ _ => pts_one (pt_val (pv 7))) (fun _ _ _ _ _ => (pe_tup (pa_cons (pe_call G_block_of (hr.mono (by decide)) (by rfl) T.m_block_of T.F_block_of.kp T.b_block_of .nil pass0 (pa_cons (pv 1) (pa_cons (pv 3) (pa_cons (pe_ix (R1.ix_seqK (K := K) rfl) (pv 6) pe_int (fun _ _ => rfl)) pa_nil)))) (pa_cons (pe_call G_block_of (hr.mono (by decide)) (by rfl) T.m_block_of T.F_block_of.kp T.b_block_of .nil pass0 (pa_cons (pv 1) (pa_cons (pv 3) (pa_cons (pe_ix (R1.ix_seqK (K := K) rfl) (pv 6) pe_int (fun _ _ => rfl)) pa_nil)))) pa_nil)))))
    (pss_cons (ps_set (i := 5) sc_below_part.nd rfl (.inl rfl) (pe_call G_closed_pairs (hr.mono (by decide)) (by rfl) T.m_closed_pairs T.F_closed_pairs.kp T.b_closed_pairs .nil pass0 (pa_cons (pv 4) pa_nil)))
    (pss_cons (ps_if (PW.pt (pw_or (pt_val (pe_callB (RT.cr_anyK (K := K) rfl rfl) (by rfl) T.z_any (by decide +kernel) (pa_cons (pe_lc (own := [("low", 8), ("high", 9)]) rfl sc_below_part.nd (R1.pi_tupK (K := K) rfl (pv 5)) (blkOk_by (own := [("low", 8), ("high", 9)]) (N := ["card", "names", "literals", "cell", "asserted", "own", "atom", "sign", "low", "high"]) (sc := defScope s_below_part) (by decide +kernel)) (fun _ _ _ _ _ => (R1.pg_tupK (K := K) (n := 2) rfl rfl (pgs_cons (pg_name (i := 8) sc_below_part.nd rfl (.inl rfl)) (pgs_cons (pg_name (i := 9) sc_below_part.nd rfl (.inl rfl)) pgs_nil)))) (fun _ _ _ _ _ => pts_nil) (fun _ _ _ _ _ => (pe_cmpR (OpR.or op_eq (PL.op_eqDK (K := K) hr.units rfl)) (pv 8) (pv 9) (nomark _)))) pa_nil))) (pw_or1 (pt_not (pt_val (pe_call G_all_hold (hr.mono (by decide)) (by rfl) T.m_all_hold T.F_all_hold.kp T.b_all_hold .nil pass0 (pa_cons (pv 0) (pa_cons (pv 1) (pa_cons (pv 2) (pa_cons (pv 3) (pa_cons (pv 5) pa_nil)))))))))))
    (pss_one (ps_ret pe_non))
    pss_nil)
    (pss_one (ps_ret (pv 5)))))),
    (PL.sim_seq (PL.sim_set 4 (PL.sim_mv (PL.sim_lc (PL.sim_itL (PL.sim_dat (PL.sim_var 2))) (PL.sim_gT 2 (PL.sim_gsC (PL.sim_gN 6) (PL.sim_gsC (PL.sim_gN 7) PL.sim_gsN))) (PL.sim_tB (PL.sim_dat (PL.sim_var 7))) (PL.sim_tup (PL.sim_cons (PL.sim_dat (PL.sim_call (PL.sim_lC (PL.sim_arg (PL.sim_var 1)) (PL.sim_lC (PL.sim_arg (PL.sim_var 3)) (PL.sim_lC (PL.sim_arg (PL.sim_val (PL.sim_ix (PL.sim_var 6) PL.sim_int))) PL.sim_lN))))) (PL.sim_cons (PL.sim_dat (PL.sim_call (PL.sim_lC (PL.sim_arg (PL.sim_var 1)) (PL.sim_lC (PL.sim_arg (PL.sim_var 3)) (PL.sim_lC (PL.sim_arg (PL.sim_val (PL.sim_ix (PL.sim_var 6) PL.sim_int))) PL.sim_lN))))) PL.sim_nil))) (by decide))))
    (PL.sim_seq (PL.sim_set 5 (PL.sim_mv (PL.sim_call (PL.sim_lC (PL.sim_arg (PL.sim_var 4)) PL.sim_lN))))
    (PL.sim_seq (PL.sim_if (PL.sim_or (PL.sim_tB (PL.sim_dat (PL.sim_rdL PL.rd_any (PL.sim_lc (PL.sim_itT (PL.sim_dat (PL.sim_var 5))) (PL.sim_gT 2 (PL.sim_gsC (PL.sim_gN 8) (PL.sim_gsC (PL.sim_gN 9) PL.sim_gsN))) PL.sim_yes (PL.sim_dat (PL.sim_op PL.rule_eq (PL.sim_dat (PL.sim_var 8)) (PL.sim_dat (PL.sim_var 9)))) (by decide))))) (PL.sim_not (PL.sim_tB (PL.sim_dat (PL.sim_call (PL.sim_lC (PL.sim_arg (PL.sim_var 0)) (PL.sim_lC (PL.sim_arg (PL.sim_var 1)) (PL.sim_lC (PL.sim_arg (PL.sim_var 2)) (PL.sim_lC (PL.sim_arg (PL.sim_var 3)) (PL.sim_lC (PL.sim_arg (PL.sim_var 5)) PL.sim_lN))))))))))
    (PL.sim_ret (PL.sim_mv (PL.sim_val PL.sim_non)))
    PL.sim_next)
    (PL.sim_ret (PL.sim_mv (PL.sim_var 5)))))), fun ss Pp ⟨s0, nm, c, ls, e, ok, hl, q⟩ => by
    subst e
    have call : ∀ (z : Str), z ∈ nm → ∀ Z : SV → Prop, Z (.d (.int (bk nm c.2 z : Int))) → bofF [.k (nm.map .str), .d (eC c), .d (.str z)] Z := fun z hz Z h => by
      obtain ⟨z1, z2⟩ := ixS_get hz
      exact ⟨nm, .int (c.1 : Int), (ivals c.2).map .int, z, ixS nm z, _, rfl, z1, z2, at_mark ok hz, h⟩
    refine ⟨fun i acc e' => e' = [.d s0, .k (nm.map .str), .d (.list (ls.map eLt)), .d (eC c), .u, .u, .u, .u, .u, .u] ∧ acc = (said nm c.2 (ls.take i)).map eP, ⟨rfl, rfl⟩, ?_, ?_⟩
    · rintro i x acc e' hx ⟨rfl, rfl⟩
      obtain ⟨l, hi, rfl⟩ := map_at hx
      obtain ⟨lx, ly⟩ := hl.2 l (List.mem_of_getElem? hi)
      have l6 := hl.1
      have fs : said nm c.2 (ls.take (i + 1)) = said nm c.2 (ls.take i) ++ if l.b = true then [bp nm c.2 l.x l.y] else [] := by
        unfold said
        rw [filt_snoc (fun l : Lit => l.b) hi, List.map_append]
        by_cases h : l.b = true <;> simp [h]
      refine ⟨rfl, ?_⟩
      refine ite2 (fun h => ?_) (fun h => ?_)
      · refine ⟨_, rfl, 0, [.k (nm.map .str), .d (eC c), .d (.str l.x)], ⟨rfl, rfl, rfl, trivial⟩, call l.x lx _ ?_⟩
        refine ⟨_, rfl, 0, [.k (nm.map .str), .d (eC c), .d (.str l.y)], ⟨rfl, rfl, rfl, trivial⟩, call l.y ly _ ?_⟩
        refine ⟨by show 2 ≤ 1000; decide, ?_, rfl, ?_⟩
        · unfold said
          rw [List.length_map, List.length_map]
          have := filt_le (l := ls) (i := i) fun l : Lit => l.b
          omega
        · rw [fs, if_pos h, List.map_append]; rfl
      · exact ⟨rfl, by rw [fs, if_neg h, List.append_nil]⟩
    · rintro acc e' ⟨rfl, rfl⟩
      rw [List.length_map, List.take_length]
      have ov : Over [0, 1, 2] (said nm c.2 ls) := fun p hp => by
        obtain ⟨l, hl2, rfl⟩ := List.mem_map.mp hp
        obtain ⟨lx, ly⟩ := hl.2 l (List.mem_filter.mp hl2).1
        have b1 := (bk_get ok rfl lx).2
        have b2 := (bk_get ok rfl ly).2
        have b3 := ok.le
        have small : ∀ m : Nat, m < 3 → (m : Int) ∈ [(0 : Int), 1, 2] := fun m hm => by
          rcases (by omega : m = 0 ∨ m = 1 ∨ m = 2) with rfl | rfl | rfl <;> decide
        exact ⟨small _ (by omega), small _ (by omega)⟩
      have sl : (said nm c.2 ls).length ≤ 6 := by
        unfold said
        rw [List.length_map]
        exact Nat.le_trans (List.length_filter_le _ _) hl.1
      refine ⟨0, [.d (.list ((said nm c.2 ls).map eP))], ⟨rfl, trivial⟩, _, said nm c.2 ls, [0, 1, 2], rfl, .inl rfl, ov, by decide, by omega, fun cs hcs => ?_⟩
      obtain ⟨q1, q2⟩ := q cs hcs
      have cl : cs.length ≤ 9 := clo_len ov hcs
      refine ⟨fun i acc e' => e' = [.d s0, .k (nm.map .str), .d (.list (ls.map eLt)), .d (eC c), .d (.list ((said nm c.2 ls).map eP)), .k (cs.map eP), .u, .u, .u, .u] ∧ acc = ((cs.take i).map fun p => decide (p.1 = p.2)).map .bool, ⟨rfl, rfl⟩, ?_, ?_⟩
      · rintro i x acc e' hx ⟨rfl, rfl⟩
        obtain ⟨p, hi, rfl⟩ := map_at hx
        have lt := (List.getElem?_eq_some_iff.mp hi).1
        refine ⟨rfl, ?_, rfl, ?_⟩
        · rw [List.length_map, List.length_map, List.length_take]; omega
        · rw [List.take_add_one, hi, List.map_append, List.map_append]; rfl
      · rintro acc e' ⟨rfl, rfl⟩
        refine ⟨_, bools_map _, ?_⟩
        rw [List.length_map, List.take_length, List.any_map]
        refine ite2 (fun h => ?_) (fun h => ?_)
        · refine q1 ?_
          unfold partOf
          rw [if_pos]
          rw [Bool.or_eq_true]
          exact .inl h
        · refine ⟨0, [.d s0, .k (nm.map .str), .d (.list (ls.map eLt)), .d (eC c), .k (cs.map eP)], ⟨rfl, rfl, rfl, rfl, rfl, trivial⟩, s0, nm, c, ls, _, cs, rfl, .inr rfl, ok, hl, ?_⟩
          refine ite2 (fun g => ?_) (fun g => ?_)
          · refine q1 ?_
            unfold partOf
            rw [if_pos]
            rw [Bool.or_eq_true]
            exact .inr g
          · refine q2 ?_
            unfold partOf
            rw [if_neg]
            rw [Bool.or_eq_true]
            rintro (z | z)
            · exact h z
            · exact g z⟩
end
end K20

/-! the least part is the fewest of the parts -/
namespace K20
open PySem PySem.Spec PyProof.Rows L2 RN PL M20 K21
theorem fewest_of {os : List (List Pr)} {cs : List Pr} (h : cs ∈ os) (lt : ∀ c ∈ os, c ≠ cs → cs.length < c.length) : fewest os = some cs := by
  have go : ∀ (os : List (List Pr)) (b : Option (List Pr)), (∀ c ∈ os, c ≠ cs → cs.length < c.length) → (b = none ∨ ∃ d, b = some d ∧ (d = cs ∨ cs.length < d.length)) → (cs ∈ os ∨ b = some cs) → os.foldl fewStep b = some cs := by
    intro os
    induction os with
    | nil =>
      intro b _ _ h
      rcases h with h | h
      · exact nomatch h
      · exact h
    | cons c os ih =>
      intro b lt hb h
      rw [List.foldl_cons]
      have lt' : ∀ c ∈ os, c ≠ cs → cs.length < c.length := fun x hx => lt x (.tail _ hx)
      have hc : c = cs ∨ cs.length < c.length := by
        by_cases e : c = cs
        · exact .inl e
        · exact .inr (lt c (.head _) e)
      rcases hb with rfl | ⟨d, rfl, hd⟩
      · refine ih (some c) lt' (.inr ⟨c, rfl, hc⟩) ?_
        rcases h with h | h
        · rcases List.mem_cons.mp h with e | h
          · exact .inr (by rw [e])
          · exact .inl h
        · exact nomatch h
      · by_cases l : c.length < d.length
        · rw [show fewStep (some d) c = some c from if_pos l]
          refine ih (some c) lt' (.inr ⟨c, rfl, hc⟩) ?_
          rcases h with h | h
          · rcases List.mem_cons.mp h with e | h
            · exact .inr (by rw [e])
            · exact .inl h
          · injection h with h
            subst h
            rcases hc with rfl | hc
            · exact .inr rfl
            · omega
        · rw [show fewStep (some d) c = some d from if_neg l]
          refine ih (some d) lt' (.inr ⟨d, rfl, hd⟩) ?_
          rcases h with h | h
          · rcases List.mem_cons.mp h with e | h
            · subst e
              rcases hd with rfl | hd
              · exact .inr rfl
              · omega
            · exact .inl h
          · exact .inr h
  exact go os none lt (.inl rfl) (.inl h)
/-- all sublists are rows -/
theorem rows_all : ∀ (ps c : List Pr), List.Sublist c ps → c ∈ lawRows ps := by
  have g : ∀ (ps : List Pr) (rs : List (List Pr)) (d c : List Pr), d ∈ rs → List.Sublist c ps → d ++ c ∈ ps.foldl stepL rs := by
    intro ps
    induction ps with
    | nil =>
      intro rs d c hd s
      cases s
      rw [List.append_nil]; exact hd
    | cons p ps ih =>
      intro rs d c hd s
      rw [List.foldl_cons]
      cases s with
      | cons _ s => exact ih _ d c (List.mem_append_left _ hd) s
      | cons_cons _ s =>
        rename_i c
        have z := ih (stepL rs p) (d ++ [p]) c (List.mem_append_right _ (List.mem_map.mpr ⟨d, hd, rfl⟩)) s
        rwa [List.append_assoc] at z
  intro ps c s
  exact g ps [[]] [] c (List.mem_singleton.mpr rfl) s
theorem sub_asc : ∀ {c ps : List Pr}, c.Pairwise plt → ps.Pairwise plt → (∀ p ∈ c, p ∈ ps) → List.Sublist c ps
  | [], _, _, _, _ => List.nil_sublist _
  | p :: c, [], _, _, s => nomatch s p (.head _)
  | p :: c, q :: ps, hc, hp, s => by
    cases hc with
    | cons c1 c2 =>
      cases hp with
      | cons p1 p2 =>
        by_cases e : p = q
        · subst e
          refine (sub_asc c2 p2 fun x hx => ?_).cons₂ p
          rcases List.mem_cons.mp (s x (.tail _ hx)) with e | h
          · exact absurd (e ▸ c1 x hx) (plt_irrefl _)
          · exact h
        · refine (sub_asc (.cons c1 c2) p2 fun x hx => ?_).cons q
          rcases List.mem_cons.mp (s x hx) with e2 | h
          · subst e2
            exfalso
            have hp' : p ∈ ps := (List.mem_cons.mp (s p (.head _))).resolve_left e
            rcases List.mem_cons.mp hx with e3 | h3
            · exact e e3.symm
            · exact plt_asymm (c1 _ h3) (p1 _ hp')
          · exact h
theorem mem_prs {n : Nat} {p : Pr} : p ∈ prs n ↔ ∃ i j : Nat, i < n ∧ j < n ∧ i ≠ j ∧ p = ((i : Int), (j : Int)) := by
  unfold prs rowP
  simp only [List.mem_flatMap, List.mem_range, List.mem_map, List.mem_filter, decide_eq_true_eq]
  constructor
  · rintro ⟨i, hi, j, ⟨hj, ne⟩, rfl⟩
    exact ⟨i, j, hi, hj, ne, rfl⟩
  · rintro ⟨i, j, hi, hj, ne, rfl⟩
    exact ⟨i, hi, j, ⟨hj, ne⟩, rfl⟩
theorem mem_ordL {n : Nat} {c : List Pr} : c ∈ ordL n ↔ c ∈ lawRows (prs n) ∧ trB c = true := by
  unfold ordL R1.sortK
  rw [List.mem_mergeSort, List.mem_filter]
theorem fewest_part {nm : List Str} {ms : List Nat} {ls : List Lit} {cs : List Pr} (ok : MkOk nm.length ms) (hl : Lits nm ls) (hc : Clo (said nm ms ls) cs) : fewest ((ordL (blk ms)).filter (fits nm ms ls)) = partOf nm ms ls cs := by
  have okp := prs_ok ok.le
  -- what fits has the closure
  have has : ∀ c ∈ (ordL (blk ms)).filter (fits nm ms ls), (∀ p ∈ cs, p ∈ c) ∧ List.Sublist c (prs (blk ms)) ∧ fits nm ms ls c = true := fun c h => by
    obtain ⟨h1, h2⟩ := List.mem_filter.mp h
    obtain ⟨h3, h4⟩ := mem_ordL.mp h1
    refine ⟨fun p hp => ?_, lawRows_sub _ c h3, h2⟩
    refine tc_of_trans (ps := said nm ms ls) (fs := c) (fun x hx => ?_) (trB_iff.mp h4) ((hc.2 p).mp hp)
    obtain ⟨l, hm, rfl⟩ := List.mem_map.mp hx
    obtain ⟨m1, m2⟩ := List.mem_filter.mp hm
    have z := List.all_eq_true.mp h2 l m1
    rw [show l.b = true from m2] at z
    simpa using z
  have sc : ∀ l ∈ ls, l.b = true → bp nm ms l.x l.y ∈ cs := fun l h hb => hc.sub (List.mem_map.mpr ⟨l, List.mem_filter.mpr ⟨h, hb⟩, rfl⟩)
  unfold partOf
  by_cases bad : ((cs.any fun p => decide (p.1 = p.2)) || !fits nm ms ls cs) = true
  · rw [if_pos bad]
    have em : (ordL (blk ms)).filter (fits nm ms ls) = [] := by
      rw [List.eq_nil_iff_forall_not_mem]
      intro c h
      obtain ⟨a1, a2, a3⟩ := has c h
      rcases (Bool.or_eq_true _ _).mp bad with b | b
      · obtain ⟨p, hp, e⟩ := List.any_eq_true.mp b
        have e := of_decide_eq_true e
        obtain ⟨i, j, _, _, ne, rfl⟩ := mem_prs.mp (a2.subset (a1 p hp))
        have e : (i : Int) = (j : Int) := e
        exact ne (by omega)
      · have nf : fits nm ms ls cs = false := by simpa using b
        have : fits nm ms ls cs = true := by
          unfold fits
          rw [List.all_eq_true]
          intro l hm
          have z := List.all_eq_true.mp a3 l hm
          cases hb : l.b with
          | true => simp [sc l hm hb]
          | false =>
            rw [hb] at z
            have nc : bp nm ms l.x l.y ∉ c := by simpa using z
            have ncs : bp nm ms l.x l.y ∉ cs := fun m => nc (a1 _ m)
            simp [ncs]
        rw [nf] at this
        exact nomatch this
    rw [em]; rfl
  · rw [if_neg bad]
    have bad2 : (cs.any fun p => decide (p.1 = p.2)) = false ∧ fits nm ms ls cs = true := by
      have z := Bool.eq_false_iff.mpr bad
      rw [Bool.or_eq_false_iff] at z
      exact ⟨z.1, by simpa using z.2⟩
    have over : ∀ l ∈ ls, bk nm ms l.x < blk ms ∧ bk nm ms l.y < blk ms := fun l h => ⟨(bk_get ok rfl (hl.2 l h).1).2, (bk_get ok rfl (hl.2 l h).2).2⟩
    have ovs : Over ((List.range (blk ms)).map fun (k : Nat) => (k : Int)) (said nm ms ls) := fun p hp => by
      obtain ⟨l, hm, rfl⟩ := List.mem_map.mp hp
      obtain ⟨o1, o2⟩ := over l (List.mem_filter.mp hm).1
      exact ⟨List.mem_map.mpr ⟨_, List.mem_range.mpr o1, rfl⟩, List.mem_map.mpr ⟨_, List.mem_range.mpr o2, rfl⟩⟩
    have ovc := clo_over ovs hc
    have inp : ∀ p ∈ cs, p ∈ prs (blk ms) := fun p hp => by
      obtain ⟨o1, o2⟩ := ovc p hp
      obtain ⟨i, hi, e1⟩ := List.mem_map.mp o1
      obtain ⟨j, hj, e2⟩ := List.mem_map.mp o2
      refine mem_prs.mpr ⟨i, j, List.mem_range.mp hi, List.mem_range.mp hj, fun e => ?_, Prod.ext e1.symm e2.symm⟩
      have z := List.any_eq_false.mp bad2.1 p hp
      rw [decide_eq_true_eq] at z
      exact z (by rw [← e1, ← e2, e])
    have tr : trB cs = true := trB_iff.mpr fun a b d x y => hc.trans x y
    have mem : cs ∈ (ordL (blk ms)).filter (fits nm ms ls) := List.mem_filter.mpr ⟨mem_ordL.mpr ⟨rows_all _ _ (sub_asc hc.1 okp.asc inp), tr⟩, bad2.2⟩
    refine fewest_of mem fun c h ne => ?_
    obtain ⟨a1, a2, _⟩ := has c h
    have nc := okp.asc.sublist a2
    have le := nodup_le (asc_nodup hc.1) a1
    rcases Nat.lt_or_ge cs.length c.length with z | z
    · exact z
    · exfalso
      refine ne ?_
      have s := sub_asc hc.1 nc a1
      exact (s.eq_of_length (by omega)).symm
end K20

set_option maxHeartbeats 8000000
/-! the law -/
namespace K20
open PySem PySem.Spec PyProof.Rows L2 RN PL M20 K21
theorem wl_eps : ∀ cs : List Pr, wlAll (cs.map eP) = 2 * cs.length
  | [] => rfl
  | p :: cs => by
    have e : wlAll (eP p :: cs.map eP) = 2 + wlAll (cs.map eP) := rfl
    rw [List.map_cons, e, wl_eps cs, List.length_cons]; omega
theorem al_eOb {c : List Pr} (h : c.length ≤ 100) : AlB (eO c) := ⟨by
  have := (can_eP c).2
  show PyData.depthAll (c.map eP) + 1 < 30
  omega, by
  show (c.map eP).length + wlAll (c.map eP) ≤ 1000000
  rw [wl_eps, List.length_map]; omega⟩
theorem wl_eos : ∀ os : List (List Pr), (∀ c ∈ os, c.length ≤ 100) → wlAll (os.map eO) ≤ 300 * os.length ∧ PyData.depthAll (os.map eO) ≤ 2
  | [], _ => ⟨Nat.le_refl _, Nat.zero_le _⟩
  | c :: os, h => by
    obtain ⟨h1, h2⟩ := wl_eos os fun x hx => h x (.tail _ hx)
    have lc := h c (.head _)
    have d := (can_eP c).2
    have w : wl (eO c) = (c.map eP).length + wlAll (c.map eP) := rfl
    rw [wl_eps, List.length_map] at w
    refine ⟨?_, ?_⟩
    · show wl (eO c) + wlAll (os.map eO) ≤ 300 * (os.length + 1)
      omega
    · show max (PyData.depthAll (c.map eP) + 1) (PyData.depthAll (os.map eO)) ≤ 2
      omega
theorem al_eOs {os : List (List Pr)} (l : os.length ≤ 64) (h : ∀ c ∈ os, c.length ≤ 100) : AlB (.list (os.map eO)) := by
  obtain ⟨h1, h2⟩ := wl_eos os h
  refine ⟨?_, ?_⟩
  · show PyData.depthAll (os.map eO) + 1 < 30
    omega
  · show (os.map eO).length + wlAll (os.map eO) ≤ 1000000
    rw [List.length_map]; omega
theorem al_eL2 {cs : List Pr} (h : cs.length ≤ 100) : AlB (.list (cs.map eP)) := ⟨(al_eOb h).dp, (al_eOb h).wt⟩
theorem al_lits : ∀ ls : List Lit, wlAll (ls.map eLt) = 6 * ls.length ∧ PyData.depthAll (ls.map eLt) ≤ 2
  | [] => ⟨rfl, Nat.zero_le _⟩
  | l :: ls => by
    obtain ⟨h1, h2⟩ := al_lits ls
    have e : wlAll (eLt l :: ls.map eLt) = 6 + wlAll (ls.map eLt) := rfl
    refine ⟨by rw [List.map_cons, e, h1, List.length_cons]; omega, ?_⟩
    show max 2 (PyData.depthAll (ls.map eLt)) ≤ 2
    omega
theorem al_eLs {ls : List Lit} (h : ls.length ≤ 6) : AlB (.list (ls.map eLt)) := by
  obtain ⟨h1, h2⟩ := al_lits ls
  refine ⟨?_, ?_⟩
  · show PyData.depthAll (ls.map eLt) + 1 < 30
    omega
  · show (ls.map eLt).length + wlAll (ls.map eLt) ≤ 1000000
    rw [h1, List.length_map]; omega
theorem ordL_small {n : Nat} (h : n ≤ 3) : ∀ c ∈ ordL n, c.length ≤ 100 := fun c hc => by
  have := (lawRows_sub _ c (mem_ordL.mp hc).1).length_le
  have := (prs_ok h).len
  omega
theorem ordL_pos (n : Nat) : 0 < (ordL n).length := List.length_pos_of_mem (mem_ordL.mpr ⟨rows_all _ [] (List.nil_sublist _), rfl⟩)
theorem said_len {nm : List Str} {ms : List Nat} {ls : List Lit} {ds : List Pr} (ok : MkOk nm.length ms) (hl : Lits nm ls) (h : Clo (said nm ms ls) ds) : ds.length ≤ 9 := by
  have ov : Over [0, 1, 2] (said nm ms ls) := fun p hp => by
    obtain ⟨l, hl2, rfl⟩ := List.mem_map.mp hp
    obtain ⟨lx, ly⟩ := hl.2 l (List.mem_filter.mp hl2).1
    have b1 := (bk_get ok rfl lx).2
    have b2 := (bk_get ok rfl ly).2
    have b3 := ok.le
    have small : ∀ m : Nat, m < 3 → (m : Int) ∈ [(0 : Int), 1, 2] := fun m hm => by
      rcases (by omega : m = 0 ∨ m = 1 ∨ m = 2) with rfl | rfl | rfl <;> decide
    exact ⟨small _ (by omega), small _ (by omega)⟩
  exact clo_len ov h
section
variable {P : Program} {w : World} {K : PySem.W.Frag} {mg : Str → Option Value} {base : Heap} {a : Ad}
def closeP : List SV → (SV → Prop) → Prop := fun ss P => ∃ (s : SV) (ps : List Pr) (vs : List Int), ss = [s] ∧ Arg s ps ∧ Over vs ps ∧ vs.length ≤ 7 ∧ ps.length ≤ 49 ∧ ∀ cs, Clo ps cs → P (.k (cs.map eP))
theorem spP_mono {f g : List SV → (SV → Prop) → Prop} (h : ∀ ss P, f ss P → g ss P) {vs : List V} {H : Hp} {Q : VK} {E : XK} (x : spP K f vs H Q E) : spP K g vs H Q E := by
  obtain ⟨I, sa, ss, Pp, s0, g0, ha, hf, hq⟩ := x
  exact ⟨I, sa, ss, Pp, s0, g0, ha, h _ _ hf, hq⟩
theorem close_of {k : Nat} {fa : Addr} {fd : FuncData} {xs : List Str} (h : FnOk P w K mg base CX0 k fa fd xs (spP K closeP)) : FnOk P w K mg base CX0 k fa fd xs (spP K closeF) :=
  h.imp fun vs H Q E x => spP_mono (fun ss P ⟨s, ps, vs, e, ha, ov, lv, lp, q⟩ => ⟨s, ps, vs, e, ha, ov, lv, by omega, q⟩) x
def spLaw (K : PySem.W.Frag) : Sp := fun vs H Q _ => ∃ (p : Addr) (ns : List Int), vs = [.ref p] ∧ SqL K H p (ns.map V.int) ∧ ∀ H', Q (.bl true) H'
theorem ok_law_of (T : Top K mg a) (G_l_state : FnOk P w K mg base CX0 1 a.f_l_state a.d_l_state ["_law_script"] (spState2 K)) (G_l_draw : FnOk P w K mg base CX0 1 a.f_l_draw a.d_l_draw ["_law_state_here", "_law_many"] (spP K drawF))
    (G_l_alike : FnOk P w K mg base CX0 30 a.f_l_alike a.d_l_alike ["_law_actual", "_law_due"] (spP K alikeF)) (G_l_pairs : FnOk P w K mg base CX0 2 a.f_l_pairs a.d_l_pairs ["_law_state_here"] (spP K pairsF))
    (G_l_closed : FnOk P w K mg base CX0 1 a.f_l_closed a.d_l_closed ["_law_pairs_here"] (spP K closeF)) (G_closed_pairs : FnOk P w K mg base CX0 2 a.f_closed_pairs a.d_closed_pairs ["pairs"] (spP K closeP))
    (G_l_all_orders : FnOk P w K mg base CX0 2 a.f_l_all_orders a.d_l_all_orders ["_law_count"] (spP K ordersF)) (G_orders : FnOk P w K mg base CX0 3 a.f_orders a.d_orders ["count"] (spP K ordersF))
    (G_l_names : FnOk P w K mg base CX0 2 a.f_l_names a.d_l_names ["_law_state_here", "_law_count"] (spP K namesF)) (G_l_below : FnOk P w K mg base CX0 2 a.f_l_below a.d_l_below ["_law_state_here", "_law_names_here"] (spP K belowF))
    (G_l_cells : FnOk P w K mg base CX0 2 a.f_l_cells a.d_l_cells ["_law_count"] (spP K cellsF)) (G_l_good : FnOk P w K mg base CX0 2 a.f_l_good a.d_l_good ["_law_listed", "_law_names_here", "_law_cell", "_law_literals"] (spP K goodF))
    (G_below_parts : FnOk P w K mg base CX0 4 a.f_below_parts a.d_below_parts ["card", "names", "literals", "cell"] (spP K partsF)) (G_below_part : FnOk P w K mg base CX0 4 a.f_below_part a.d_below_part ["card", "names", "literals", "cell"] (spP K partF))
    (G_l_fewest : FnOk P w K mg base CX0 1 a.f_l_fewest a.d_l_fewest ["_law_parts"] (spP K fewF)) (G_l_truths : FnOk P w K mg base CX0 31 a.f_l_truths a.d_l_truths ["_law_names_here", "_law_cell", "_law_order"] (spP K truthsF)) :
    FnOk P w K mg base CX0 33 a.f_law a.d_law ["_law_script"] (spLaw K) := by
  refine T.F_law.ok sc_law (fun vs H Q E h => ?_) (fun cdv A outer s H vs Q E hr h => ?_)
  · obtain ⟨_, _, rfl, _⟩ := h
    rfl
  · obtain ⟨p0, ns0, rfl, hS, q0⟩ := h
    refine ⟨_, (pss_cons (ps_set (i := 1) sc_law.nd rfl (.inl rfl) (pe_call G_l_state (hr.mono (by decide)) (by rfl) T.m_l_state T.F_l_state.kp T.b_l_state .nil pass0 (pa_cons (pv 0) pa_nil)))
    (pss_cons (ps_set (i := 2) sc_law.nd rfl (.inl rfl) (pe_call G_l_pairs (hr.mono (by decide)) (by rfl) T.m_l_pairs T.F_l_pairs.kp T.b_l_pairs .nil pass0 (pa_cons (pv 1) pa_nil)))
    (pss_cons (ps_set (i := 3) sc_law.nd rfl (.inl rfl) (pe_call G_l_closed (hr.mono (by decide)) (by rfl) T.m_l_closed T.F_l_closed.kp T.b_l_closed .nil pass0 (pa_cons (pv 2) pa_nil)))
    (pss_cons (ps_set (i := 4) sc_law.nd rfl (.inl rfl) (pe_callTy (R1.list_ofK (K := K) rfl) (by rfl) T.z_list (by decide +kernel) (pa_cons (pv 2) pa_nil)))
    (pss_cons (ps_for PassesOwn.never rfl (R1.pi_listK (K := K) rfl (pe_lst (pa_cons (pv 4) (pa_cons (pe_callTy (R1.list_ofK (K := K) rfl) (by rfl) T.z_list (by decide +kernel) (pa_cons (pv 3) pa_nil)) (pa_cons (pv 4) pa_nil))))) (pg_name (i := 5) sc_law.nd rfl (.inl rfl))
    (pss_one (ps_if (pt_not (pt_val (pe_call G_l_alike (hr.mono (by decide)) (by rfl) T.m_l_alike T.F_l_alike.kp T.b_l_alike .nil pass0 (pa_cons (pe_call G_closed_pairs (hr.mono (by decide)) (by rfl) T.m_closed_pairs T.F_closed_pairs.kp T.b_closed_pairs .nil pass0 (pa_cons (pv 5) pa_nil)) (pa_cons (pv 3) pa_nil)))))
    (pss_one (ps_ret pe_bl))
    pss_nil)))
    (pss_cons (ps_setLc (own := [("_law_count", 6)]) (i := 7) rfl sc_law.nd rfl rfl (sw_true rfl rfl rfl (by decide +kernel)) (pi_range1 (by rfl) T.z_range (pa_cons pe_int pa_nil)) (blkOk_by (own := [("_law_count", 6)]) (N := ["_law_script", "_law_state_here", "_law_pairs_here", "_law_due", "_law_handed", "_law_asked", "_law_count", "_law_listed", "_law_names_here", "_law_literals", "_law_given", "_law_cells_here", "_law_cell", "_law_here", "_law_good_here"]) (sc := defScope s_law) (by decide +kernel)) (fun _ _ _ _ _ => (pg_name (i := 6) sc_law.nd rfl (.inl rfl))) (fun _ _ _ _ _ => pts_nil) (fun _ _ _ _ _ => (pe_call G_l_all_orders (hr.mono (by decide)) (by rfl) T.m_l_all_orders T.F_l_all_orders.kp T.b_l_all_orders .nil pass0 (pa_cons (pv 6) pa_nil))))
    (pss_cons (ps_set (i := 6) sc_law.nd rfl (.inl rfl) (pe_call G_l_draw (hr.mono (by decide)) (by rfl) T.m_l_draw T.F_l_draw.kp T.b_l_draw .nil pass0 (pa_cons (pv 1) (pa_cons pe_int pa_nil))))
    (pss_cons (ps_if (pt_not (pt_val (pe_call G_l_alike (hr.mono (by decide)) (by rfl) T.m_l_alike T.F_l_alike.kp T.b_l_alike .nil pass0 (pa_cons (pe_call G_orders (hr.mono (by decide)) (by rfl) T.m_orders T.F_orders.kp T.b_orders .nil pass0 (pa_cons (pv 6) pa_nil)) (pa_cons (pe_ix (R1.ix_seqK (K := K) rfl) (pv 7) (pv 6) (fun _ _ => rfl)) pa_nil)))))
    (pss_one (ps_ret pe_bl))
    pss_nil)
    (pss_cons (ps_set (i := 8) sc_law.nd rfl (.inl rfl) (pe_call G_l_names (hr.mono (by decide)) (by rfl) T.m_l_names T.F_l_names.kp T.b_l_names .nil pass0 (pa_cons (pv 1) (pa_cons (pe_ix (R1.ix_seqK (K := K) rfl) (pe_lst (pa_cons pe_int (pa_cons pe_int (pa_cons pe_int (pa_cons pe_int pa_nil))))) (pe_call G_l_draw (hr.mono (by decide)) (by rfl) T.m_l_draw T.F_l_draw.kp T.b_l_draw .nil pass0 (pa_cons (pv 1) (pa_cons pe_int pa_nil))) (fun _ _ => rfl)) pa_nil))))
    (pss_cons (ps_set (i := 9) sc_law.nd rfl (.inl rfl) (pe_call G_l_below (hr.mono (by decide)) (by rfl) T.m_l_below T.F_l_below.kp T.b_l_below .nil pass0 (pa_cons (pv 1) (pa_cons (pv 8) pa_nil))))
    (pss_cons (ps_set (i := 10) sc_law.nd rfl (.inl rfl) (pe_callTy (R1.list_ofK (K := K) rfl) (by rfl) T.z_list (by decide +kernel) (pa_cons (pv 9) pa_nil)))
    (pss_cons (ps_set (i := 11) sc_law.nd rfl (.inl rfl) (pe_call G_l_cells (hr.mono (by decide)) (by rfl) T.m_l_cells T.F_l_cells.kp T.b_l_cells .nil pass0 (pa_cons (pe_callB call_len_seq (by rfl) T.z_len (by decide +kernel) (pa_cons (pv 8) pa_nil)) pa_nil)))
    (pss_cons (ps_for PassesOwn.never rfl (R1.pi_listK (K := K) rfl (pe_op (OpR.or op_add (OpR.or op_add_str (OpR.or op_cat (PL.op_catAK (K := K) rfl)))) (pv 11) (pe_lst (pa_cons (pe_ix (R1.ix_seqK (K := K) rfl) (pv 11) pe_int (fun _ _ => rfl)) pa_nil)))) (pg_name (i := 12) sc_law.nd rfl (.inl rfl))
    (pss_cons (ps_set (i := 13) sc_law.nd rfl (.inl rfl) (pe_ix (R1.ix_seqK (K := K) rfl) (pv 7) (R1.pe_lenSetX rfl (by rfl) T.z_len (by rfl) T.z_set (pe_ix (R1.ix_seqK (K := K) rfl) (pv 12) pe_int (fun _ _ => rfl))) (fun _ _ => rfl)))
    (pss_cons (ps_set (i := 14) sc_law.nd rfl (.inl rfl) (pe_call G_l_good (hr.mono (by decide)) (by rfl) T.m_l_good T.F_l_good.kp T.b_l_good .nil pass0 (pa_cons (pv 13) (pa_cons (pv 8) (pa_cons (pv 12) (pa_cons (pv 9) pa_nil))))))
    (pss_cons (ps_if (pt_not (pt_val (pe_call G_l_alike (hr.mono (by decide)) (by rfl) T.m_l_alike T.F_l_alike.kp T.b_l_alike .nil pass0 (pa_cons (pe_call G_below_parts (hr.mono (by decide)) (by rfl) T.m_below_parts T.F_below_parts.kp T.b_below_parts .nil pass0 (pa_cons (pe_tup (pa_cons pe_str pa_nil)) (pa_cons (pv 8) (pa_cons (pv 10) (pa_cons (pv 12) pa_nil))))) (pa_cons (pv 14) pa_nil)))))
    (pss_one (ps_ret pe_bl))
    pss_nil)
    (pss_cons (ps_if (pt_not (pt_val (pe_call G_l_alike (hr.mono (by decide)) (by rfl) T.m_l_alike T.F_l_alike.kp T.b_l_alike .nil pass0 (pa_cons (pe_call G_below_part (hr.mono (by decide)) (by rfl) T.m_below_part T.F_below_part.kp T.b_below_part .nil pass0 (pa_cons (pe_tup (pa_cons pe_str pa_nil)) (pa_cons (pv 8) (pa_cons (pv 10) (pa_cons (pv 12) pa_nil))))) (pa_cons (pe_call G_l_fewest (hr.mono (by decide)) (by rfl) T.m_l_fewest T.F_l_fewest.kp T.b_l_fewest .nil pass0 (pa_cons (pv 14) pa_nil)) pa_nil)))))
    (pss_one (ps_ret pe_bl))
    pss_nil)
    (pss_one (ps_if (pt_not (pt_val (pe_call G_l_truths (hr.mono (by decide)) (by rfl) T.m_l_truths T.F_l_truths.kp T.b_l_truths .nil pass0 (pa_cons (pv 8) (pa_cons (pv 12) (pa_cons (pe_ix (R1.ix_seqK (K := K) rfl) (pv 13) (pe_call G_l_draw (hr.mono (by decide)) (by rfl) T.m_l_draw T.F_l_draw.kp T.b_l_draw .nil pass0 (pa_cons (pv 1) (pa_cons (pe_callB call_len_seq (by rfl) T.z_len (by decide +kernel) (pa_cons (pv 13) pa_nil)) pa_nil))) (fun _ _ => rfl)) pa_nil))))))
    (pss_one (ps_ret pe_bl))
    pss_nil)))))))
    (pss_one (ps_ret (pe_and (pe_call G_l_alike (hr.mono (by decide)) (by rfl) T.m_l_alike T.F_l_alike.kp T.b_l_alike .nil pass0 (pa_cons (pv 10) (pa_cons (pv 9) pa_nil))) (pe_one (pe_call G_l_alike (hr.mono (by decide)) (by rfl) T.m_l_alike T.F_l_alike.kp T.b_l_alike .nil pass0 (pa_cons (pv 4) (pa_cons (pv 2) pa_nil)))))))))))))))))))), ?_⟩
    refine ⟨.ref p0, rfl, p0, ns0, rfl, hS, fun H1 st sc n0 n1 sm S e1 => ?_⟩
    obtain ⟨ns1, i1, b1, s1, l1, hne, h1, h2, h3⟩ := S.ex
    have hIsc : (fun b => if b = sc then some (HO.lst (ns0.map V.int)) else none : Hp) sc = some (.lst (ns0.map V.int)) := if_pos rfl
    have hIst : (fun b => if b = sc then some (HO.lst (ns0.map V.int)) else none : Hp) st = none := if_neg (Ne.symm hne)
    have hIs : Same (fun b => if b = sc then some (HO.lst (ns0.map V.int)) else none : Hp) H1 := fun b o e => by
      by_cases z : b = sc
      · subst z
        have e : (if b = b then some (HO.lst (ns0.map V.int)) else none) = some o := e
        rw [if_pos rfl] at e
        rw [e1, e]
      · have e : (if b = sc then some (HO.lst (ns0.map V.int)) else none) = some o := e
        rw [if_neg z] at e; cases e
    generalize (fun b => if b = sc then some (HO.lst (ns0.map V.int)) else none : Hp) = I at hIsc hIst hIs
    have hst : StOk I H1 st := ⟨sc, ns0, i1, b1, s1, l1, h1, hIsc, h3⟩
    obtain ⟨Pp, hPp⟩ : ∃ Pp : SV → Prop, Pp = fun s => s = SV.d (.bool true) := ⟨_, rfl⟩
    have q : Pp (.d (.bool true)) := by rw [hPp]
    have r0 : RepI K I H1 (some st) I H1 ((some (V.ref p0), SV.u) :: (some (V.ref st), SV.st) :: List.replicate 13 ((none, SV.u) : Rt)) [] := by
      refine ⟨hIs, Same.refl _, fun _ _ e _ _ => e, fun _ _ _ e => e, fun r hr => ?_, ?_, fun p e => ?_⟩
      · rw [List.append_nil] at hr
        rcases List.mem_cons.mp hr with rfl | hr
        · exact trivial
        · rcases List.mem_cons.mp hr with rfl | hr
          · exact ⟨st, rfl, hst, hIst, .inl rfl⟩
          · obtain ⟨_, rfl⟩ := List.mem_replicate.mp hr
            exact trivial
      · show ([st] : List Addr).Nodup
        simp
      · cases e
        exact ⟨hst, hIst, _, h1, rfl⟩
    refine (PL.sim_seq (PL.sim_set 2 (PL.sim_mv (PL.sim_call (PL.sim_lC (PL.sim_arg (PL.sim_var 1)) PL.sim_lN))))
    (PL.sim_seq (PL.sim_set 3 (PL.sim_mv (PL.sim_call (PL.sim_lC (PL.sim_arg (PL.sim_var 2)) PL.sim_lN))))
    (PL.sim_seq (PL.sim_set 4 (PL.sim_mv (PL.sim_rd PL.rd_list (PL.sim_var 2))))
    (PL.sim_seq (PL.sim_for (PL.sim_itL (PL.sim_dat (PL.sim_lst (PL.sim_cons (PL.sim_dat (PL.sim_var 4)) (PL.sim_cons (PL.sim_dat (PL.sim_rd PL.rd_list (PL.sim_var 3))) (PL.sim_cons (PL.sim_dat (PL.sim_var 4)) PL.sim_nil)))))) (PL.sim_gN 5)
    (PL.sim_if (PL.sim_not (PL.sim_tB (PL.sim_dat (PL.sim_call (PL.sim_lC (PL.sim_arg (PL.sim_call (PL.sim_lC (PL.sim_arg (PL.sim_var 5)) PL.sim_lN))) (PL.sim_lC (PL.sim_arg (PL.sim_var 3)) PL.sim_lN))))))
    (PL.sim_ret (PL.sim_mv (PL.sim_val PL.sim_bl)))
    PL.sim_next))
    (PL.sim_seq (PL.sim_set 7 (PL.sim_mv (PL.sim_lc (PL.sim_rg1 (PL.sim_cons PL.sim_int PL.sim_nil)) (PL.sim_gN 6) PL.sim_yes (PL.sim_dat (PL.sim_call (PL.sim_lC (PL.sim_arg (PL.sim_var 6)) PL.sim_lN))) (by decide))))
    (PL.sim_seq (PL.sim_set 6 (PL.sim_mv (PL.sim_call (PL.sim_lC (PL.sim_arg (PL.sim_var 1)) (PL.sim_lC (PL.sim_arg (PL.sim_val PL.sim_int)) PL.sim_lN)))))
    (PL.sim_seq (PL.sim_if (PL.sim_not (PL.sim_tB (PL.sim_dat (PL.sim_call (PL.sim_lC (PL.sim_arg (PL.sim_call (PL.sim_lC (PL.sim_arg (PL.sim_var 6)) PL.sim_lN))) (PL.sim_lC (PL.sim_arg (PL.sim_val (PL.sim_ix (PL.sim_var 7) (PL.sim_dat (PL.sim_var 6))))) PL.sim_lN))))))
    (PL.sim_ret (PL.sim_mv (PL.sim_val PL.sim_bl)))
    PL.sim_next)
    (PL.sim_seq (PL.sim_set 8 (PL.sim_mv (PL.sim_call (PL.sim_lC (PL.sim_arg (PL.sim_var 1)) (PL.sim_lC (PL.sim_arg (PL.sim_val (PL.sim_ix (PL.sim_lst (PL.sim_cons PL.sim_int (PL.sim_cons PL.sim_int (PL.sim_cons PL.sim_int (PL.sim_cons PL.sim_int PL.sim_nil))))) (PL.sim_dat (PL.sim_call (PL.sim_lC (PL.sim_arg (PL.sim_var 1)) (PL.sim_lC (PL.sim_arg (PL.sim_val PL.sim_int)) PL.sim_lN))))))) PL.sim_lN)))))
    (PL.sim_seq (PL.sim_set 9 (PL.sim_mv (PL.sim_call (PL.sim_lC (PL.sim_arg (PL.sim_var 1)) (PL.sim_lC (PL.sim_arg (PL.sim_var 8)) PL.sim_lN)))))
    (PL.sim_seq (PL.sim_set 10 (PL.sim_mv (PL.sim_rd PL.rd_list (PL.sim_var 9))))
    (PL.sim_seq (PL.sim_set 11 (PL.sim_mv (PL.sim_call (PL.sim_lC (PL.sim_arg (PL.sim_rd PL.rd_len (PL.sim_var 8))) PL.sim_lN))))
    (PL.sim_seq (PL.sim_for (PL.sim_itL (PL.sim_dat (PL.sim_op PL.rule_add (PL.sim_dat (PL.sim_var 11)) (PL.sim_dat (PL.sim_lst (PL.sim_cons (PL.sim_ix (PL.sim_var 11) PL.sim_int) PL.sim_nil)))))) (PL.sim_gN 12)
    (PL.sim_seq (PL.sim_set 13 (PL.sim_mv (PL.sim_val (PL.sim_ix (PL.sim_var 7) (PL.sim_lenSet (PL.sim_val (PL.sim_ix (PL.sim_var 12) PL.sim_int)))))))
    (PL.sim_seq (PL.sim_set 14 (PL.sim_mv (PL.sim_call (PL.sim_lC (PL.sim_arg (PL.sim_var 13)) (PL.sim_lC (PL.sim_arg (PL.sim_var 8)) (PL.sim_lC (PL.sim_arg (PL.sim_var 12)) (PL.sim_lC (PL.sim_arg (PL.sim_var 9)) PL.sim_lN)))))))
    (PL.sim_seq (PL.sim_if (PL.sim_not (PL.sim_tB (PL.sim_dat (PL.sim_call (PL.sim_lC (PL.sim_arg (PL.sim_call (PL.sim_lC (PL.sim_arg (PL.sim_val (PL.sim_tup (PL.sim_cons PL.sim_str PL.sim_nil)))) (PL.sim_lC (PL.sim_arg (PL.sim_var 8)) (PL.sim_lC (PL.sim_arg (PL.sim_var 10)) (PL.sim_lC (PL.sim_arg (PL.sim_var 12)) PL.sim_lN)))))) (PL.sim_lC (PL.sim_arg (PL.sim_var 14)) PL.sim_lN))))))
    (PL.sim_ret (PL.sim_mv (PL.sim_val PL.sim_bl)))
    PL.sim_next)
    (PL.sim_seq (PL.sim_if (PL.sim_not (PL.sim_tB (PL.sim_dat (PL.sim_call (PL.sim_lC (PL.sim_arg (PL.sim_call (PL.sim_lC (PL.sim_arg (PL.sim_val (PL.sim_tup (PL.sim_cons PL.sim_str PL.sim_nil)))) (PL.sim_lC (PL.sim_arg (PL.sim_var 8)) (PL.sim_lC (PL.sim_arg (PL.sim_var 10)) (PL.sim_lC (PL.sim_arg (PL.sim_var 12)) PL.sim_lN)))))) (PL.sim_lC (PL.sim_arg (PL.sim_call (PL.sim_lC (PL.sim_arg (PL.sim_var 14)) PL.sim_lN))) PL.sim_lN))))))
    (PL.sim_ret (PL.sim_mv (PL.sim_val PL.sim_bl)))
    PL.sim_next)
    (PL.sim_if (PL.sim_not (PL.sim_tB (PL.sim_dat (PL.sim_call (PL.sim_lC (PL.sim_arg (PL.sim_var 8)) (PL.sim_lC (PL.sim_arg (PL.sim_var 12)) (PL.sim_lC (PL.sim_arg (PL.sim_val (PL.sim_ix (PL.sim_var 13) (PL.sim_dat (PL.sim_call (PL.sim_lC (PL.sim_arg (PL.sim_var 1)) (PL.sim_lC (PL.sim_arg (PL.sim_rd PL.rd_len (PL.sim_var 13))) PL.sim_lN))))))) PL.sim_lN)))))))
    (PL.sim_ret (PL.sim_mv (PL.sim_val PL.sim_bl)))
    PL.sim_next))))))
    (PL.sim_ret (PL.sim_mv (PL.sim_val (PL.sim_andV (PL.sim_dat (PL.sim_call (PL.sim_lC (PL.sim_arg (PL.sim_var 10)) (PL.sim_lC (PL.sim_arg (PL.sim_var 9)) PL.sim_lN)))) (PL.sim_dat (PL.sim_call (PL.sim_lC (PL.sim_arg (PL.sim_var 4)) (PL.sim_lC (PL.sim_arg (PL.sim_var 2)) PL.sim_lN)))))))))))))))))))) I H1 (some st) H1 _ [] ⟨fun _ => False, fun s _ => retF Pp s, fun _ => False, fun _ => False⟩ _ ⟨I, r0⟩ ⟨fun _ _ _ _ z => z.elim, fun v s H' R' _ n r' z => ?_, fun _ _ _ _ z => z.elim, fun _ _ _ _ z => z.elim⟩ ?_
    · have hs : s = SV.d (.bool true) := by
        have z2 : Pp s := by cases s <;> first | exact z | exact z.elim | cases n
        rw [hPp] at z2; exact z2
      subst hs
      obtain ⟨I', r'⟩ := r'
      obtain ⟨v', e, wv⟩ := r'.top
      cases e
      cases wv
      exact q0 H'
    show pSeq _ _ _ [SV.u, .st, .u, .u, .u, .u, .u, .u, .u, .u, .u, .u, .u, .u, .u]
    refine ⟨1, [.st], ⟨⟨rfl, rfl⟩, trivial⟩, rfl, fun ps vs ov lv lp => ?_⟩
    refine ⟨0, [.d (.list (ps.map eP))], ⟨rfl, trivial⟩, _, ps, vs, rfl, .inl rfl, ov, lv, by omega, fun cs hcs => ?_⟩
    have lcs : cs.length ≤ 49 := by
      have := clo_len ov hcs
      have := Nat.mul_le_mul lv lv
      omega
    refine ⟨by show 3 ≤ 1000; decide, fun i e' => ∃ s5, e' = [.u, .st, .d (.list (ps.map eP)), .k (cs.map eP), .d (.list (ps.map eP)), s5, .u, .u, .u, .u, .u, .u, .u, .u, .u], ⟨_, rfl⟩, ?_, ?_⟩
    · rintro i x e' hx ⟨s5, rfl⟩
      have hq : ∃ qs : List Pr, x = .list (qs.map eP) ∧ Over vs qs ∧ qs.length ≤ 49 ∧ ∀ ds, Clo qs ds → ds = cs := by
        match i, hx with
        | 0, hx => cases hx; exact ⟨ps, rfl, ov, by omega, fun ds h => h.unique hcs⟩
        | 1, hx => cases hx; exact ⟨cs, rfl, clo_over ov hcs, lcs, fun ds h => h.unique hcs.self⟩
        | 2, hx => cases hx; exact ⟨ps, rfl, ov, by omega, fun ds h => h.unique hcs⟩
        | i + 3, hx => simp at hx
      obtain ⟨qs, rfl, oq, lq, un⟩ := hq
      refine ⟨0, [.d (.list (qs.map eP))], ⟨rfl, trivial⟩, _, qs, vs, rfl, .inl rfl, oq, lv, lq, fun ds hds => ?_⟩
      obtain rfl := un ds hds
      refine ⟨0, [.d (eO ds), .d (eO ds)], ⟨rfl, rfl, trivial⟩, eO ds, rfl, al_eOb (by omega), ?_⟩
      exact ⟨_, rfl⟩
    · rintro e' ⟨s5, rfl⟩
      obtain ⟨LL, hLL⟩ : ∃ LL, LL = (List.range 4).map fun n => PyData.list ((ordL n).map eO) := ⟨_, rfl⟩
      have atL : ∀ n : Nat, n ≤ 3 → LL[n]? = some (.list ((ordL n).map eO)) := fun n hn => by
        rw [hLL, List.getElem?_map, List.getElem?_range (by omega)]; rfl
      refine ⟨by decide, by decide, fun i acc e' => e' = [.u, .st, .d (.list (ps.map eP)), .k (cs.map eP), .d (.list (ps.map eP)), s5, .u, .u, .u, .u, .u, .u, .u, .u, .u] ∧ acc = (List.range i).map fun n => PyData.list ((ordL n).map eO), ⟨rfl, rfl⟩, ?_, ?_⟩
      · rintro i x acc e' hx ⟨rfl, rfl⟩
        have hi : i < 4 := by
          have := (List.getElem?_eq_some_iff.mp hx).1
          rw [rng_len] at this; exact this
        have hx : (rng 0 4)[i]? = some x := hx
        rw [rng_at hi, Int.zero_add] at hx
        cases hx
        refine ⟨0, [.d (.int (i : Int))], ⟨rfl, trivial⟩, i, rfl, by omega, ?_⟩
        refine ⟨?_, rfl, ?_⟩
        · rw [List.length_map, List.length_range]; omega
        · rw [List.range_succ, List.map_append]; rfl
      · rintro acc e' ⟨rfl, rfl⟩
        rw [show (rng 0 (4 : Int).toNat).length = 4 from rfl, ← hLL]
        refine ⟨1, [.st, .d (.int 4)], ⟨⟨rfl, rfl⟩, rfl, trivial⟩, 4, rfl, by decide, by decide, fun v v0 v1 => ?_⟩
        obtain ⟨m, hm, rfl⟩ : ∃ m : Nat, m ≤ 3 ∧ v = (m : Int) := ⟨v.toNat, by omega, by omega⟩
        refine ⟨0, [.d (.int (m : Int))], ⟨rfl, trivial⟩, m, rfl, hm, ?_⟩
        refine ⟨.list ((ordL m).map eO), atI_nat (atL m hm), ?_⟩
        refine ⟨0, [.d (.list ((ordL m).map eO)), .d (.list ((ordL m).map eO))], ⟨rfl, rfl, trivial⟩, _, rfl, al_eOs (ordL_len hm) (ordL_small hm), ?_⟩
        refine ⟨by show 4 ≤ 1000; decide, ?_⟩
        refine ⟨1, [.st, .d (.int 4)], ⟨⟨rfl, rfl⟩, rfl, trivial⟩, 4, rfl, by decide, by decide, fun v w0 w1 => ?_⟩
        obtain ⟨n, hn, en⟩ : ∃ n : Nat, n ≤ 3 ∧ atI [PyData.int 2, PyData.int 3, PyData.int 1, PyData.int 0] v = some (.int (n : Int)) := by
          rcases (by omega : v = 0 ∨ v = 1 ∨ v = 2 ∨ v = 3) with rfl | rfl | rfl | rfl
          · exact ⟨2, by decide, rfl⟩
          · exact ⟨3, by decide, rfl⟩
          · exact ⟨1, by decide, rfl⟩
          · exact ⟨0, by decide, rfl⟩
        refine ⟨_, en, ?_⟩
        refine ⟨1, [.st, .d (.int (n : Int))], ⟨⟨rfl, rfl⟩, rfl, trivial⟩, n, rfl, hn, fun nm hnm => ?_⟩
        subst hnm
        refine ⟨1, [.st, .k (nm.map .str)], ⟨⟨rfl, rfl⟩, rfl, trivial⟩, nm, rfl, hn, fun ls hls => ?_⟩
        refine ⟨0, [.d (.int ((nm.map PyData.str).length : Nat))], ⟨rfl, trivial⟩, nm.length, by rw [List.length_map], hn, ?_⟩
        obtain ⟨c1, c2, c3⟩ := cells_ok hn
        obtain ⟨c0, hc0⟩ : ∃ c0, (cellsN nm.length)[0]? = some c0 := ⟨_, List.getElem?_eq_getElem c1⟩
        have cok : ∀ x ∈ (cellsN nm.length).map eC ++ [eC c0], ∃ c, x = eC c ∧ MkOk nm.length c.2 := fun x hx => by
          rcases List.mem_append.mp hx with hx | hx
          · obtain ⟨c, hc, rfl⟩ := List.mem_map.mp hx
            exact ⟨c, rfl, c3 c hc⟩
          · rw [List.mem_singleton.mp hx]
            exact ⟨c0, rfl, c3 c0 (List.mem_of_getElem? hc0)⟩
        refine ⟨eC c0, atI_nat (by rw [List.getElem?_map, hc0]; rfl), by show 1 ≤ 1000; decide, ?_, fun i e' => ∃ s9 s10 s12 s13 s14, e' = [.u, .st, .d (.list (ps.map eP)), .k (cs.map eP), .d (.list (ps.map eP)), s5, .d (.int (m : Int)), .l LL, .k (nm.map .str), s9, s10, .d (.list ((cellsN nm.length).map eC)), s12, s13, s14] ∧ ((s9 = .l (ls.map eLt) ∧ s10 = .l (ls.map eLt)) ∨ (s9 = .d (.list (ls.map eLt)) ∧ s10 = .d (.list (ls.map eLt)))), ⟨_, _, _, _, _, rfl, .inl ⟨rfl, rfl⟩⟩, ?_, ?_⟩
        · rw [List.length_map]; show _ + 1 ≤ 1000; omega
        · rintro i x e' hx ⟨s9, s10, s12, s13, s14, rfl, hs⟩
          obtain ⟨c, rfl, mo⟩ := cok x (List.mem_of_getElem? hx)
          have len := ordL_len mo.le
          have sm := ordL_small mo.le
          have pos := ordL_pos (blk c.2)
          have fl : ((ordL (blk c.2)).filter (fits nm c.2 ls)).length ≤ 64 := Nat.le_trans (List.length_filter_le _ _) len
          have fsm : ∀ x ∈ (ordL (blk c.2)).filter (fits nm c.2 ls), x.length ≤ 100 := fun x hx => sm x (List.mem_filter.mp hx).1
          have lint : (ivals c.2).length ≤ 1000 := by rw [iv_len, mo.len]; omega
          have atD : atI LL ((R1.dist (ivals c.2)).length : Nat) = some (.list ((ordL (blk c.2)).map eO)) := by rw [mo.ds]; exact atI_nat (atL _ mo.le)
          have pick : ∀ v : Int, 0 ≤ v → v < (((ordL (blk c.2)).map eO).length : Nat) → ∃ oc, atI ((ordL (blk c.2)).map eO) v = some (eO oc) := fun v v0 v1 => by
            rw [List.length_map] at v1
            obtain ⟨k, rfl⟩ : ∃ k : Nat, v = (k : Int) := ⟨v.toNat, by omega⟩
            have lt : k < (ordL (blk c.2)).length := by omega
            exact ⟨(ordL (blk c.2))[k], atI_nat (by rw [List.getElem?_map, List.getElem?_eq_getElem lt]; rfl)⟩
          have b0 : (1 : Int) ≤ (((ordL (blk c.2)).map eO).length : Nat) := by rw [List.length_map]; omega
          have b1 : ((((ordL (blk c.2)).map eO).length : Nat) : Int) < 2 ^ 60 := by rw [List.length_map]; omega
          have few : ∀ ds, Clo (said nm c.2 ls) ds → fewest ((ordL (blk c.2)).filter (fits nm c.2 ls)) = partOf nm c.2 ls ds := fun ds h => fewest_part mo hls h
          rcases hs with ⟨rfl, rfl⟩ | ⟨rfl, rfl⟩
          all_goals
            refine ⟨eM c.2, rfl, ivals c.2, ints_map _, lint, _, atD, ?_⟩
            refine ⟨0, [.d (.list ((ordL (blk c.2)).map eO)), .k (nm.map .str), .d (eC c), .d (.list (ls.map eLt))], ⟨rfl, rfl, rfl, rfl, trivial⟩, ordL (blk c.2), nm, c, ls, rfl, len, mo, hls, ?_⟩
            refine ⟨by show 1 ≤ 1000; decide, 0, [.d (.tuple [.str "below"]), .k (nm.map .str), .d (.list (ls.map eLt)), .d (eC c)], ⟨rfl, rfl, rfl, rfl, trivial⟩, _, nm, c, ls, rfl, mo, hls, ?_⟩
            refine ⟨0, [.d (.list (((ordL (blk c.2)).filter (fits nm c.2 ls)).map eO)), .d (.list (((ordL (blk c.2)).filter (fits nm c.2 ls)).map eO))], ⟨rfl, rfl, trivial⟩, _, rfl, al_eOs fl fsm, ?_⟩
            refine ⟨by show 1 ≤ 1000; decide, 0, [.d (.tuple [.str "below"]), .k (nm.map .str), .d (.list (ls.map eLt)), .d (eC c)], ⟨rfl, rfl, rfl, rfl, trivial⟩, _, nm, c, ls, rfl, mo, hls, fun ds hds => ⟨fun hn => ?_, fun hs => ?_⟩⟩
            · refine ⟨0, [.d (.list (((ordL (blk c.2)).filter (fits nm c.2 ls)).map eO))], ⟨rfl, trivial⟩, _, rfl, ?_⟩
              rw [few ds hds, hn]
              refine ⟨0, [.d .none, .d .none], ⟨rfl, rfl, trivial⟩, _, rfl, ⟨by show 0 < 30; decide, by show 0 ≤ 1000000; decide⟩, ?_⟩
              refine ⟨1, [.st, .d (.int (((ordL (blk c.2)).map eO).length : Nat))], ⟨⟨rfl, rfl⟩, rfl, trivial⟩, _, rfl, b0, b1, fun v v0 v1 => ?_⟩
              obtain ⟨oc, ho⟩ := pick v v0 v1
              refine ⟨eO oc, ho, 0, [.k (nm.map .str), .d (eC c), .d (eO oc)], ⟨rfl, rfl, rfl, trivial⟩, nm, c, oc, rfl, mo, ?_⟩
              exact ⟨.d (.list (ls.map eLt)), .d (.list (ls.map eLt)), .d (eC c), .d (.list ((ordL (blk c.2)).map eO)), .d (.list (((ordL (blk c.2)).filter (fits nm c.2 ls)).map eO)), rfl, .inr ⟨rfl, rfl⟩⟩
            · have dl := said_len mo hls hds
              refine ⟨0, [.d (.list (((ordL (blk c.2)).filter (fits nm c.2 ls)).map eO))], ⟨rfl, trivial⟩, _, rfl, ?_⟩
              rw [few ds hds, hs]
              refine ⟨0, [.d (eO ds), .d (eO ds)], ⟨rfl, rfl, trivial⟩, _, rfl, al_eOb (by omega), ?_⟩
              refine ⟨1, [.st, .d (.int (((ordL (blk c.2)).map eO).length : Nat))], ⟨⟨rfl, rfl⟩, rfl, trivial⟩, _, rfl, b0, b1, fun v v0 v1 => ?_⟩
              obtain ⟨oc, ho⟩ := pick v v0 v1
              refine ⟨eO oc, ho, 0, [.k (nm.map .str), .d (eC c), .d (eO oc)], ⟨rfl, rfl, rfl, trivial⟩, nm, c, oc, rfl, mo, ?_⟩
              exact ⟨.d (.list (ls.map eLt)), .d (.list (ls.map eLt)), .d (eC c), .d (.list ((ordL (blk c.2)).map eO)), .d (.list (((ordL (blk c.2)).filter (fits nm c.2 ls)).map eO)), rfl, .inr ⟨rfl, rfl⟩⟩
        · rintro e' ⟨s9, s10, s12, s13, s14, rfl, hs⟩
          rcases hs with ⟨rfl, rfl⟩ | ⟨rfl, rfl⟩
          all_goals
            refine ⟨0, [.d (.list (ls.map eLt)), .d (.list (ls.map eLt))], ⟨rfl, rfl, trivial⟩, _, rfl, al_eLs hls.1, ?_⟩
            refine ⟨0, [.d (.list (ps.map eP)), .d (.list (ps.map eP))], ⟨rfl, rfl, trivial⟩, _, rfl, al_eL2 (by omega), ?_⟩
            exact q
end
end K20


set_option maxHeartbeats 8000000
/-! what is reached -/
namespace K20
open PySem PySem.Spec PyProof.Rows L2 RN PL M20 K21
theorem snocI {α : Type} {P : List α → Prop} (nil : P []) (snoc : ∀ l x, P l → P (l ++ [x])) (l : List α) : P l := by
  have : ∀ m : List α, P m.reverse := fun m => by
    induction m with
    | nil => exact nil
    | cons x m ih => rw [List.reverse_cons]; exact snoc _ _ ih
  have z := this l.reverse
  rwa [List.reverse_reverse] at z
abbrev Gr := List (Int × Addr × List Int)
def kvs (g : Gr) : List (Key × V) := g.map fun t => (Sum.inl t.1, V.ref t.2.1)
def suc (g : Gr) (x : Int) : List Int := ((g.find? fun t => decide (t.1 = x)).map (·.2.2)).getD []
inductive Rch (g : Gr) (a : Int) : Int → Prop
  | base {b : Int} : b ∈ suc g a → Rch g a b
  | step {b c : Int} : Rch g a b → c ∈ suc g b → Rch g a c
def dd (l : List Int) : List Int := l.foldl (fun acc k => if k ∈ acc then acc else acc ++ [k]) []
theorem dd_snoc (l : List Int) (k : Int) : dd (l ++ [k]) = if k ∈ dd l then dd l else dd l ++ [k] := by unfold dd; rw [List.foldl_append]; rfl
theorem dd_ok (l : List Int) : (dd l).Nodup ∧ (∀ b, b ∈ dd l ↔ b ∈ l) ∧ (dd l).length ≤ l.length := by
  induction l using snocI with
  | nil => exact ⟨.nil, fun b => Iff.rfl, Nat.le_refl _⟩
  | snoc l k ih =>
    obtain ⟨h1, h2, h3⟩ := ih
    rw [dd_snoc]
    by_cases h : k ∈ dd l
    · rw [if_pos h]
      refine ⟨h1, fun b => ?_, by rw [List.length_append]; show _ ≤ _ + 1; omega⟩
      rw [h2, List.mem_append, List.mem_singleton]
      exact ⟨.inl, fun z => z.elim id fun e => e ▸ (h2 k).mp h⟩
    · rw [if_neg h]
      refine ⟨?_, fun b => ?_, by rw [List.length_append, List.length_append]; show _ + 1 ≤ _ + 1; omega⟩
      · rw [List.nodup_append]
        refine ⟨h1, by simp, fun x hx y hy => ?_⟩
        rw [List.mem_singleton.mp hy]
        rintro rfl
        exact h hx
      · rw [List.mem_append, List.mem_append, h2]
def keyed (l : List Int) : List (Key × V) := l.map fun j => (Sum.inl j, V.bl true)
theorem keyed_val (l : List Int) (k : Int) : (valV (keyed l) (Sum.inl k)).isSome = decide (k ∈ l) := by
  induction l with
  | nil => rfl
  | cons j l ih =>
    show (valV ((Sum.inl j, V.bl true) :: keyed l) (Sum.inl k)).isSome = _
    by_cases e : j = k
    · subst e
      rw [valV_pos rfl]; simp
    · rw [valV_neg (fun z => e (Sum.inl.inj z)), ih]
      have : ¬ k = j := fun z => e z.symm
      simp [this]
theorem keyed_put (l : List Int) (k : Int) : putK (keyed l) (Sum.inl k) (V.bl true) = keyed (if k ∈ l then l else l ++ [k]) := by
  have z := keyed_val l k
  by_cases h : k ∈ l
  · rw [if_pos h]
    rw [decide_eq_true h] at z
    unfold putK
    rw [if_pos (by rw [valV_any]; exact z)]
    unfold keyed
    rw [List.map_map]
    refine List.map_congr_left fun j _ => ?_
    show (if (Sum.inl j : Key) = Sum.inl k then ((Sum.inl j : Key), V.bl true) else (Sum.inl j, V.bl true)) = _
    split <;> rfl
  · rw [if_neg h]
    rw [decide_eq_false h] at z
    rw [putK_new _ (by cases e : valV (keyed l) (Sum.inl k) with | none => rfl | some v => rw [e] at z; cases z)]
    unfold keyed
    rw [List.map_append]; rfl
theorem same_mut {H H' : Hp} {p : Addr} {o : HO} (e : Same H H') (h : H p = none) : Same H (upd H' p o) := fun b u hb => by
  rw [upd_ne (ne_of_none hb h)]
  exact e b u hb
theorem at_int {l : List Int} {i : Nat} {y : V} (h : (l.map V.int)[i]? = some y) : ∃ b, l[i]? = some b ∧ y = .int b ∧ l.take (i + 1) = l.take i ++ [b] := by
  rw [List.getElem?_map] at h
  cases e : l[i]? with
  | none => rw [e] at h; cases h
  | some b => rw [e] at h; cases h; exact ⟨b, rfl, rfl, by rw [List.take_add_one, e]; rfl⟩
theorem small_sz {n : Nat} (h : n ≤ 1000) : n < sizeLine := Nat.lt_of_le_of_lt h (by decide)
structure GrOk (H : Hp) (d : Addr) (g : Gr) : Prop where
  rd : Rd H d (.dK (kvs g))
  ls : ∀ t ∈ g, H t.2.1 = some (.lst (t.2.2.map V.int))
/-- the while loop's state, m turns ahead at most -/
def WS (H : Hp) (d : Addr) (x : Int) (g : Gr) (p1 D2 : Addr) (m : Nat) (σ' : L2.St) (H' : Hp) : Prop := ∃ (ms : List Int) (i : Nat) (y2 : Option V), σ' = [some (.ref d), some (.int x), y2, some (.ref p1), some (.ref D2), some (.int (i : Int))] ∧ m + i = 7 ∧ i ≤ ms.length ∧ Same H H' ∧ H' p1 = some (.lst (ms.map V.int)) ∧ H' D2 = some (.dK (keyed ms)) ∧
  ms.Nodup ∧ (∀ b ∈ ms, Rch g x b) ∧ (∀ b ∈ suc g x, b ∈ ms) ∧ (∀ (j : Nat) (y : Int), j < i → ms[j]? = some y → ∀ b ∈ suc g y, b ∈ ms)
theorem suc_in {g : Gr} {vs : List Int} (hv : ∀ t ∈ g, ∀ b ∈ t.2.2, b ∈ vs) {y b : Int} (h : b ∈ suc g y) : b ∈ vs := by
  unfold suc at h
  cases e : g.find? fun t => decide (t.1 = y) with
  | none => rw [e] at h; exact nomatch h
  | some t => rw [e] at h; exact hv t (List.mem_of_find?_eq_some e) b h
section
variable {P : Program} {w : World} {K : PySem.W.Frag} {mg : Str → Option Value} {base : Heap} {a : Ad}
theorem hu_of {k : Nat} {A : Around} (r : Room k A) : A.units + 1 < cLine := by have := r.un; omega
def spReach : Sp := fun us H Q _ => ∃ (d : Addr) (x : Int) (g : Gr) (vs : List Int), us = [.ref d, .int x] ∧ GrOk H d g ∧ (∃ t ∈ g, t.1 = x) ∧ (∀ t ∈ g, ∀ b ∈ t.2.2, b ∈ vs) ∧ vs.length ≤ 7 ∧ (∀ t ∈ g, t.2.2.length ≤ 49) ∧
  ∀ (H' : Hp) (p : Addr) (ms : List Int), Same H H' → H p = none → H' p = some (.lst (ms.map V.int)) → ms.Nodup → (∀ b, b ∈ ms ↔ Rch g x b) → Q (.ref p) H'
theorem ok_reached (T : Top K mg a) : FnOk P w K mg base CX0 1 a.f_reached a.d_reached ["following", "start"] spReach := by
  refine T.F_reached.ok sc_reached (fun vs H Q E h => ?_) (fun cdv A outer s H us Q E hr h => ?_)
  · obtain ⟨_, _, _, _, rfl, _⟩ := h
    rfl
  · obtain ⟨d, x, g, vs, rfl, go, ⟨t0, ht0, hx0⟩, hv, lv, lt, q⟩ := h
    refine ⟨_, (pss_cons (ps_set (i := 3) sc_reached.nd rfl (.inl rfl) (pe_callTy (call_list_dK rfl) (by rfl) T.z_list (by decide +kernel) (pa_cons (R1.PE.or (pe_dc (own := [("high", 2)]) rfl sc_reached.nd (R1.PI.or (pi_list (pe_dget (hu_of hr) (pv 0) (pv 1) (fun _ _ => rfl))) (pi_tup (pe_dget (hu_of hr) (pv 0) (pv 1) (fun _ _ => rfl)))) (blkOk_by (own := [("high", 2)]) (N := ["following", "start", "high", "found", "seen", "at"]) (sc := defScope s_reached) (by decide +kernel)) (fun _ _ _ _ _ => (pg_name (i := 2) sc_reached.nd rfl (.inl rfl))) (fun _ _ _ _ _ => pts_nil) (fun _ _ _ _ _ => (pv 2)) (fun _ _ _ _ _ => pe_bl)) (R1.pe_dcT (own := [("high", 2)]) hr.units rfl sc_reached.nd (R1.PI.or (pi_list (pe_dget (hu_of hr) (pv 0) (pv 1) (fun _ _ => rfl))) (pi_tup (pe_dget (hu_of hr) (pv 0) (pv 1) (fun _ _ => rfl)))) (blkOk_by (own := [("high", 2)]) (N := ["following", "start", "high", "found", "seen", "at"]) (sc := defScope s_reached) (by decide +kernel)) (fun _ _ _ _ _ => (pg_name (i := 2) sc_reached.nd rfl (.inl rfl))) (fun _ _ _ _ _ => pts_nil) (fun _ _ _ _ _ => (pv 2)) (fun _ _ _ _ _ => pe_bl))) pa_nil)))
    (pss_cons (R1.PS.or (R1.ps_setDcK (own := [("high", 2)]) (i := 4) rfl rfl (R1.sw_trueD rfl rfl rfl (by decide +kernel)) rfl sc_reached.nd (R1.PI.or (pi_list (pv 3)) (pi_tup (pv 3))) (blkOk_by (own := [("high", 2)]) (N := ["following", "start", "high", "found", "seen", "at"]) (sc := defScope s_reached) (by decide +kernel)) (fun _ _ _ _ _ => (pg_name (i := 2) sc_reached.nd rfl (.inl rfl))) (fun _ _ _ _ _ => pts_nil) (fun _ _ _ _ _ => (pv 2)) (fun _ _ _ _ _ => pe_bl)) (R1.ps_setDcT (own := [("high", 2)]) (i := 4) rfl rfl (R1.sw_trueD rfl rfl rfl (by decide +kernel)) hr.units rfl sc_reached.nd (R1.PI.or (pi_list (pv 3)) (pi_tup (pv 3))) (blkOk_by (own := [("high", 2)]) (N := ["following", "start", "high", "found", "seen", "at"]) (sc := defScope s_reached) (by decide +kernel)) (fun _ _ _ _ _ => (pg_name (i := 2) sc_reached.nd rfl (.inl rfl))) (fun _ _ _ _ _ => pts_nil) (fun _ _ _ _ _ => (pv 2)) (fun _ _ _ _ _ => pe_bl)))
    (pss_cons (ps_set (i := 5) sc_reached.nd rfl (.inl rfl) pe_int)
    (pss_cons (ps_while PassesOwn.never (pt_cmpR op_lt (pv 5) (pe_callB call_len_seq (by rfl) T.z_len (by decide +kernel) (pa_cons (pv 3) pa_nil)) (nomark _))
      (pss_cons (ps_for PassesOwn.never rfl (R1.PI.or (pi_list (pe_dget2 (hu_of hr) (pv 0) (pe_ix ix_seq (pv 3) (pv 5) (fun _ _ => rfl)) (pe_lst pa_nil) ⟨by rfl, by rfl, by rfl, by rfl⟩)) (pi_tup (pe_dget2 (hu_of hr) (pv 0) (pe_ix ix_seq (pv 3) (pv 5) (fun _ _ => rfl)) (pe_lst pa_nil) ⟨by rfl, by rfl, by rfl, by rfl⟩))) (pg_name (i := 2) sc_reached.nd rfl (.inl rfl))
        (pss_one (ps_if (pt_cmp (pc_dnotin (hu_of hr) (pv 2) (pv 4)))
          (pss_cons (ps_asg pe_bl (pg_sub (pv 4) (pv 2) (set_dict (hu_of hr))))
          (pss_one (ps_expr (pe_bm PySem.F.plainAttrs_list PySem.F.slot_list_append PySem.F.type_list_append mt_append (pv 3) (pa_cons (pv 2) pa_nil)))))
          pss_nil)))
      (pss_one (ps_aug (i := 5) sc_reached.nd rfl (.inl rfl) pe_int ip_add))))
    (pss_one (ps_ret (pv 3))))))), ?_⟩
    obtain ⟨t1, ht1, hx1⟩ : ∃ t, g.find? (fun t => decide (t.1 = x)) = some t ∧ t.1 = x := by
      cases e : g.find? fun t => decide (t.1 = x) with
      | none =>
        have := List.find?_eq_none.mp e t0 ht0
        simp [hx0] at this
      | some t => exact ⟨t, rfl, by simpa using List.find?_some e⟩
    have mt1 := List.mem_of_find?_eq_some ht1
    have vx : ∀ y, valV (kvs g) (Sum.inl y) = (g.find? fun t => decide (t.1 = y)).map fun t => V.ref t.2.1 := fun y => by
      unfold valV kvs
      rw [List.find?_map, Option.map_map]
      have e : ((fun kv : Key × V => decide (kv.1 = Sum.inl y)) ∘ fun t : Int × Addr × List Int => ((Sum.inl t.1 : Key), V.ref t.2.1)) = fun t => decide (t.1 = y) := by
        funext t
        show decide ((Sum.inl t.1 : Key) = Sum.inl y) = decide (t.1 = y)
        by_cases h : t.1 = y
        · rw [decide_eq_true h, decide_eq_true (by rw [h])]
        · rw [decide_eq_false h, decide_eq_false (fun z => h (Sum.inl.inj z))]
      rw [e]; rfl
    have sx : suc g x = t1.2.2 := by unfold suc; rw [ht1]; rfl
    have dg : ∀ H', Same H H' → ∀ y, DGet H' d (.int y) ((g.find? fun t => decide (t.1 = y)).map fun t => V.ref t.2.1) := fun H' s1 y => by
      rw [← vx y]
      refine .inl ⟨kvs g, Sum.inl y, ?_, rfl, rfl⟩
      rcases go.rd with h | ⟨o, h⟩
      · exact .inl (s1 _ _ h)
      · exact .inr ⟨o, s1 _ _ h⟩
    have l49 := lt t1 mt1
    refine .inl (.inl ⟨.ref d, rfl, .int x, rfl, d, .ref t1.2.1, rfl, ?_, t1.2.1, rfl, ⟨_, SqL.of (go.ls t1 mt1)⟩, fun D nD => R1.dK_it (walk_list (xs := t1.2.2.map V.int)) (fun i H' => Same H H' ∧ H' D = some (.dK (keyed (dd (t1.2.2.take i))))) ⟨?_, upd_same⟩ (fun i H' _ p => SqL.of (p.1 _ _ (go.ls t1 mt1))) ?_ ?_⟩)
    · have z := dg H (Same.refl _) x
      rw [ht1] at z
      exact z
    · exact same_upd nD
    · rintro i y H1 H2 hi ⟨s1, hD⟩ ⟨rfl, hy⟩
      obtain ⟨b, hb, rfl, et⟩ := at_int hy
      refine ⟨rfl, _, rfl, _, Sum.inl b, rfl, hD, ?_, same_mut s1 nD, ?_⟩
      · have := (dd_ok (t1.2.2.take i)).2.2
        rw [List.length_take] at this
        refine small_sz ?_
        unfold keyed
        rw [List.length_map]; omega
      · rw [upd_same, keyed_put, et, dd_snoc]
    · rintro H1 ⟨s1, hD⟩
      rw [List.length_map, List.take_length] at hD
      obtain ⟨k1, k2, k3⟩ := dd_ok t1.2.2
      refine ⟨D, _, rfl, hD, fun p1 n1 => ?_⟩
      have np1 : H p1 = none := s1.free n1
      have hp1 : (upd H1 p1 (.lst ((keyed (dd t1.2.2)).map fun kv => kV kv.1))) p1 = some (.lst ((dd t1.2.2).map V.int)) := by
        rw [upd_same]; unfold keyed; rw [List.map_map]; rfl
      have s2 : Same H (upd H1 p1 (.lst ((keyed (dd t1.2.2)).map fun kv => kV kv.1))) := same_mut s1 np1
      generalize upd H1 p1 (.lst ((keyed (dd t1.2.2)).map fun kv => kV kv.1)) = H2 at hp1 s2 ⊢
      refine .inl (.inl ⟨.ref p1, rfl, p1, rfl, ⟨_, SqL.of hp1⟩, fun D2 nD2 => R1.dK_it (walk_list (xs := (dd t1.2.2).map V.int)) (fun i H' => Same H2 H' ∧ H' D2 = some (.dK (keyed ((dd t1.2.2).take i)))) ⟨same_upd nD2, upd_same⟩ (fun i H' _ p => SqL.of (p.1 _ _ hp1)) ?_ ?_⟩)
      · rintro i y H3 H4 hi ⟨s3, hD2⟩ ⟨rfl, hy⟩
        obtain ⟨b, hb, rfl, et⟩ := at_int hy
        have nb : b ∉ (dd t1.2.2).take i := fun h => by
          obtain ⟨j, hj, ej⟩ := List.getElem_of_mem h
          rw [List.length_take] at hj
          rw [List.getElem_take] at ej
          have lt2 := (List.getElem?_eq_some_iff.mp hb).1
          have eb := (List.getElem?_eq_some_iff.mp hb).2
          have := (List.getElem_inj k1).mp (ej.trans eb.symm)
          omega
        refine ⟨rfl, _, rfl, _, Sum.inl b, rfl, hD2, ?_, same_mut s3 nD2, ?_⟩
        · refine small_sz ?_
          unfold keyed
          rw [List.length_map, List.length_take]; omega
        · rw [upd_same, keyed_put, et, if_neg nb]
      · rintro H3 ⟨s3, hD2⟩
        rw [List.length_map, List.take_length] at hD2
        have nD2' : H D2 = none := s2.free nD2
        have ne : p1 ≠ D2 := fun e => by rw [← e, hp1] at nD2; cases nD2
        -- the loop
        refine ⟨WS H d x g p1 D2, ⟨7, dd t1.2.2, 0, _, rfl, rfl, Nat.zero_le _, s2.trans s3, s3 _ _ hp1, hD2, k1, ?_, ?_, fun j y h => absurd h (Nat.not_lt_zero _)⟩, ?_⟩
        · intro b hb
          exact .base (by rw [sx]; exact (k2 b).mp hb)
        · intro b hb
          rw [sx] at hb
          exact (k2 b).mpr hb
        · rintro m σ' H4 ⟨ms, i, y2, rfl, hm, hi, s4, h1, h2, nd, rc, su, cl⟩
          have inV : ∀ b, Rch g x b → b ∈ vs := fun b hb => by cases hb with | base h => exact suc_in hv h | step _ h => exact suc_in hv h
          have l7 : ms.length ≤ 7 := Nat.le_trans (nodup_le nd fun b hb => inV b (rc b hb)) lv
          refine ⟨.int (i : Int), rfl, .ref p1, rfl, p1, _, rfl, .inl (SqL.of h1), (i : Int), _, rfl, rfl, _, rfl, ite2 (fun e => ?_) (fun e => ?_)⟩
          · have li : i < ms.length := by
              have := of_decide_eq_true e
              rw [List.length_map] at this
              omega
            have hy : ms[i]? = some ms[i] := List.getElem?_eq_getElem li
            generalize ms[i] = y at hy
            refine ⟨fun σ5 H5 => ∃ m', m' < m ∧ WS H d x g p1 D2 m' σ5 H5, fun _ _ z => z, ?_⟩
            have isD : IsD H4 d := .inl ⟨kvs g, by
              rcases go.rd with h | ⟨o, h⟩
              · exact .inl (s4 _ _ h)
              · exact .inr ⟨o, s4 _ _ h⟩⟩
            refine .inl ⟨.ref d, rfl, d, rfl, isD, .ref p1, rfl, .int (i : Int), rfl, .inl ⟨p1, _, (i : Int), .int y, rfl, rfl, SqL.of h1, atI_nat (by rw [List.getElem?_map, hy]; rfl), ?_⟩⟩
            refine ⟨Nat.zero_le _, fun z nz => ?_⟩
            have s5 : Same H4 (upd H4 z (.lst [])) := same_upd nz
            have h15 := s5 _ _ h1
            have h25 := s5 _ _ h2
            have z5 : (upd H4 z (.lst [])) z = some (.lst []) := upd_same
            have s45 := s4.trans s5
            have nz0 : H z = none := s4.free nz
            have ez1 : z ≠ p1 := fun e => by rw [e, h1] at nz; cases nz
            have ez2 : z ≠ D2 := fun e => by rw [e, h2] at nz; cases nz
            generalize upd H4 z (.lst []) = H5 at s5 h15 h25 z5 s45 ⊢
            refine ⟨_, dg H5 s45 y, ?_⟩
            obtain ⟨l, el, hl, nl1, nl2⟩ : ∃ l, ((g.find? fun t => decide (t.1 = y)).map fun t => V.ref t.2.1).getD (.ref z) = .ref l ∧ H5 l = some (.lst ((suc g y).map V.int)) ∧ l ≠ p1 ∧ l ≠ D2 := by
              unfold suc
              cases ef : g.find? fun t => decide (t.1 = y) with
              | none => exact ⟨z, rfl, z5, ez1, ez2⟩
              | some t =>
                have ht := go.ls t (List.mem_of_find?_eq_some ef)
                exact ⟨t.2.1, rfl, s45 _ _ ht, (fun e => by rw [e, np1] at ht; cases ht), (fun e => by rw [e, nD2'] at ht; cases ht)⟩
            rw [el]
            refine ⟨l, rfl, ⟨_, SqL.of hl⟩, for_it (walk_list (xs := (suc g y).map V.int)) (fun u σ6 H6 => ∃ (ns : List Int) (y2 : Option V), σ6 = [some (.ref d), some (.int x), y2, some (.ref p1), some (.ref D2), some (.int (i : Int))] ∧ Same H H6 ∧ H6 l = some (.lst ((suc g y).map V.int)) ∧ H6 p1 = some (.lst ((ms ++ ns).map V.int)) ∧ H6 D2 = some (.dK (keyed (ms ++ ns))) ∧ (ms ++ ns).Nodup ∧ (∀ b ∈ ms ++ ns, Rch g x b) ∧ (∀ b ∈ (suc g y).take u, b ∈ ms ++ ns)) ⟨[], _, rfl, s45, hl, by rw [List.append_nil]; exact h15, by rw [List.append_nil]; exact h25, by rw [List.append_nil]; exact nd, by rw [List.append_nil]; exact rc, fun b h => by simp at h⟩ (fun u σ6 H6 _ ⟨_, _, _, _, h, _⟩ => SqL.of h) ?_ ?_⟩
            · rintro u v σ6 H6 H7 hu ⟨ns, y3, rfl, s6, l6, a6, b6, n6, r6, t6⟩ ⟨rfl, hv6⟩
              obtain ⟨b, hb, rfl, et⟩ := at_int hv6
              have l7b : (ms ++ ns).length ≤ 7 := Nat.le_trans (nodup_le n6 fun b hb => inV b (r6 b hb)) lv
              have kv := keyed_val (ms ++ ns) b
              refine ⟨.int b, rfl, .ref D2, rfl, D2, _, rfl, DGet.k (k := Sum.inl b) b6, _, rfl, ?_⟩
              rw [kv]
              refine ite2 (fun e => ?_) (fun e => ?_)
              · have nb : b ∉ ms ++ ns := by simpa using e
                have ld : (keyed (ms ++ ns)).length < sizeLine := by
                  refine small_sz ?_
                  unfold keyed
                  rw [List.length_map]; omega
                refine ⟨.ref D2, rfl, .int b, rfl, D2, _, rfl, DPut.k (k := Sum.inl b) b6 ld, ?_⟩
                rw [keyed_put, if_neg nb]
                have a8 : (upd H7 D2 (.dK (keyed (ms ++ ns ++ [b])))) p1 = some (.lst ((ms ++ ns).map V.int)) := by rw [upd_ne ne]; exact a6
                have ll : ((ms ++ ns).map V.int).length < sizeLine := small_sz (by rw [List.length_map]; omega)
                refine ⟨.ref p1, rfl, .inl ⟨rfl, _, SqL.of a8⟩, .int b, rfl, p1, _, _, rfl, rfl, a8, ll, ?_⟩
                refine ⟨ns ++ [b], some (.int b), rfl, same_mut (same_mut s6 nD2') np1, ?_, ?_, ?_, ?_, ?_, fun c hc => ?_⟩
                · rw [upd_ne nl1, upd_ne nl2]; exact l6
                · rw [upd_same, ← List.append_assoc, List.map_append (l₁ := ms ++ ns)]; rfl
                · rw [upd_ne (Ne.symm ne), upd_same, List.append_assoc]
                · rw [← List.append_assoc, List.nodup_append]
                  refine ⟨n6, by simp, fun p hp q hq => ?_⟩
                  rw [List.mem_singleton.mp hq]
                  rintro rfl
                  exact nb hp
                · intro c hc
                  rw [← List.append_assoc] at hc
                  rcases List.mem_append.mp hc with hc | hc
                  · exact r6 c hc
                  · rw [List.mem_singleton.mp hc]
                    exact .step (rc y (List.mem_of_getElem? hy)) (List.mem_of_getElem? hb)
                · rw [← List.append_assoc]
                  rw [et] at hc
                  rcases List.mem_append.mp hc with hc | hc
                  · exact List.mem_append_left _ (t6 c hc)
                  · exact List.mem_append_right _ hc
              · have ib : b ∈ ms ++ ns := by
                  cases h : decide (b ∈ ms ++ ns) with
                  | true => exact of_decide_eq_true h
                  | false => rw [h] at e; exact absurd rfl e
                refine ⟨ns, some (.int b), rfl, s6, l6, a6, b6, n6, r6, fun c hc => ?_⟩
                rw [et] at hc
                rcases List.mem_append.mp hc with hc | hc
                · exact t6 c hc
                · rw [List.mem_singleton.mp hc]; exact ib
            · rintro σ6 H6 ⟨ns, y3, rfl, s6, l6, a6, b6, n6, r6, t6⟩
              rw [List.length_map, List.take_length] at t6
              refine ⟨.int (i : Int), rfl, (i : Int), 1, rfl, rfl, m - 1, by omega, ms ++ ns, i + 1, y3, rfl, by omega, by rw [List.length_append]; omega, s6, a6, b6, n6, r6, fun b hb => List.mem_append_left _ (su b hb), fun j y' hj hy' b hb => ?_⟩
              rw [List.getElem?_append_left (by omega)] at hy'
              rcases (by omega : j < i ∨ j = i) with h | rfl
              · exact List.mem_append_left _ (cl j y' h hy' b hb)
              · rw [hy] at hy'
                cases hy'
                exact t6 b hb
          · have ei : i = ms.length := by
              have := of_decide_eq_false (Bool.eq_false_iff.mpr e)
              rw [List.length_map] at this
              omega
            refine ⟨.ref p1, rfl, q H4 p1 ms s4 np1 h1 nd fun b => ⟨rc b, fun hb => ?_⟩⟩
            induction hb with
            | base h => exact su _ h
            | step _ h ih =>
              obtain ⟨j, hj⟩ := List.getElem?_of_mem ih
              exact cl j _ (by rw [ei]; exact (List.getElem?_eq_some_iff.mp hj).1) hj _ h

end
end K20


set_option maxHeartbeats 8000000
/-! the program's closure -/
namespace K20
open PySem PySem.Spec PyProof.Rows L2 RN PL M20 K21
def gadd (x y : Int) (t : Int × Addr × List Int) : Int × Addr × List Int := if t.1 = x then (t.1, t.2.1, t.2.2 ++ [y]) else t
theorem gadd_key (x y : Int) (t : Int × Addr × List Int) : (gadd x y t).1 = t.1 ∧ (gadd x y t).2.1 = t.2.1 := by
  unfold gadd; split <;> exact ⟨rfl, rfl⟩
theorem kvs_add (g : Gr) (x y : Int) : kvs (g.map (gadd x y)) = kvs g := by
  unfold kvs
  rw [List.map_map]
  refine List.map_congr_left fun t _ => ?_
  show (Sum.inl (gadd x y t).1, V.ref (gadd x y t).2.1) = _
  rw [(gadd_key x y t).1, (gadd_key x y t).2]
theorem find_add (g : Gr) (x y k : Int) : (g.map (gadd x y)).find? (fun t => decide (t.1 = k)) = (g.find? fun t => decide (t.1 = k)).map (gadd x y) := by
  rw [List.find?_map]
  congr 1
  congr 1
  funext t
  show decide ((gadd x y t).1 = k) = _
  rw [(gadd_key x y t).1]
theorem suc_old {g : Gr} {x y k : Int} {t : Int × Addr × List Int} (h : g.find? (fun t => decide (t.1 = x)) = some t) : suc (g.map (gadd x y)) k = if k = x then suc g k ++ [y] else suc g k := by
  unfold suc
  rw [find_add]
  by_cases e : k = x
  · subst e
    rw [if_pos rfl, h]
    have e1 : t.1 = k := by simpa using List.find?_some h
    show (gadd k y t).2.2 = t.2.2 ++ [y]
    unfold gadd
    rw [if_pos e1]
  · rw [if_neg e]
    cases f : g.find? fun t => decide (t.1 = k) with
    | none => rfl
    | some u =>
      have e1 : u.1 = k := by simpa using List.find?_some f
      show (gadd x y u).2.2 = u.2.2
      unfold gadd
      rw [if_neg (fun z => e (e1.symm.trans z))]
theorem suc_new {g : Gr} {x y k : Int} {z : Addr} (h : g.find? (fun t => decide (t.1 = x)) = none) : suc (g ++ [(x, z, [y])]) k = if k = x then suc g k ++ [y] else suc g k := by
  unfold suc
  rw [List.find?_append]
  by_cases e : k = x
  · subst e
    rw [if_pos rfl, h]
    simp
  · rw [if_neg e]
    cases f : g.find? fun t => decide (t.1 = k) with
    | none =>
      have : ¬ x = k := fun z => e z.symm
      simp [this]
    | some u => simp
structure GI (H : Hp) (D : Addr) (ps : List Pr) (H' : Hp) (g : Gr) : Prop where
  same : Same H H'
  dk : H' D = some (.dK (kvs g))
  ls : ∀ t ∈ g, H' t.2.1 = some (.lst (t.2.2.map V.int)) ∧ H t.2.1 = none ∧ t.2.1 ≠ D
  keys : (g.map (·.1)).Nodup
  adr : (g.map (·.2.1)).Nodup
  short : ∀ t ∈ g, t.2.2.length ≤ ps.length
  len : g.length ≤ ps.length
  ok : ∀ x y, y ∈ suc g x ↔ (x, y) ∈ ps
theorem valV_kvs (g : Gr) (y : Int) : valV (kvs g) (Sum.inl y) = (g.find? fun t => decide (t.1 = y)).map fun t => V.ref t.2.1 := by
  unfold valV kvs
  rw [List.find?_map, Option.map_map]
  have e : ((fun kv : Key × V => decide (kv.1 = Sum.inl y)) ∘ fun t : Int × Addr × List Int => ((Sum.inl t.1 : Key), V.ref t.2.1)) = fun t => decide (t.1 = y) := by
    funext t
    show decide ((Sum.inl t.1 : Key) = Sum.inl y) = decide (t.1 = y)
    by_cases h : t.1 = y
    · rw [decide_eq_true h, decide_eq_true (by rw [h])]
    · rw [decide_eq_false h, decide_eq_false (fun z => h (Sum.inl.inj z))]
  rw [e]; rfl
theorem GI.suc_eq {H H' : Hp} {D : Addr} {ps : List Pr} {g : Gr} (i : GI H D ps H' g) {t : Int × Addr × List Int} (ht : t ∈ g) : suc g t.1 = t.2.2 := by
  unfold suc
  cases f : g.find? fun u => decide (u.1 = t.1) with
  | none =>
    have := List.find?_eq_none.mp f t ht
    simp at this
  | some u =>
    have e1 : u.1 = t.1 := by simpa using List.find?_some f
    obtain ⟨a, ha, ea⟩ := List.getElem_of_mem (List.mem_of_find?_eq_some f)
    obtain ⟨b, hb, eb⟩ := List.getElem_of_mem ht
    have nn := (List.getElem_inj (h₀ := by rw [List.length_map]; exact ha) (h₁ := by rw [List.length_map]; exact hb) i.keys).mp (by rw [List.getElem_map, List.getElem_map, ea, eb, e1])
    subst nn
    rw [show u = t from ea.symm.trans eb]; rfl
theorem GI.rch {H H' : Hp} {D : Addr} {ps : List Pr} {g : Gr} (i : GI H D ps H' g) {x y : Int} : Rch g x y ↔ TC ps x y := by
  constructor
  · intro h
    induction h with
    | base h => exact .base ((i.ok _ _).mp h)
    | step _ h ih => exact ih.step ((i.ok _ _).mp h)
  · intro h
    induction h with
    | base h => exact .base ((i.ok _ _).mpr h)
    | step _ h ih => exact .step ih ((i.ok _ _).mpr h)
theorem GI.key {H H' : Hp} {D : Addr} {ps : List Pr} {g : Gr} (i : GI H D ps H' g) {x y : Int} (h : TC ps x y) : ∃ t ∈ g, t.1 = x := by
  have first : ∀ {a b : Int}, TC ps a b → ∃ c, (a, c) ∈ ps := fun h => by
    induction h with
    | base m => exact ⟨_, m⟩
    | step _ _ ih => exact ih
  obtain ⟨c, hc⟩ := first h
  have z := (i.ok x c).mpr hc
  unfold suc at z
  cases f : g.find? fun t => decide (t.1 = x) with
  | none => rw [f] at z; exact nomatch z
  | some t => exact ⟨t, List.mem_of_find?_eq_some f, by simpa using List.find?_some f⟩
/-- one pair more, its key there already -/
theorem GI.old {H H' : Hp} {D : Addr} {ps : List Pr} {g : Gr} {x y : Int} {t : Int × Addr × List Int} (i : GI H D ps H' g) (h : g.find? (fun t => decide (t.1 = x)) = some t) : GI H D (ps ++ [(x, y)]) (upd H' t.2.1 (.lst (t.2.2.map V.int ++ [V.int y]))) (g.map (gadd x y)) := by
  have mt := List.mem_of_find?_eq_some h
  have ex : t.1 = x := by simpa using List.find?_some h
  obtain ⟨l1, l2, l3⟩ := i.ls t mt
  refine ⟨same_mut i.same l2, by rw [upd_ne (Ne.symm l3), kvs_add]; exact i.dk, fun u hu => ?_, ?_, ?_, fun u hu => ?_, by rw [List.length_map, List.length_append]; have := i.len; omega, fun k b => ?_⟩
  · obtain ⟨v, hv, rfl⟩ := List.mem_map.mp hu
    obtain ⟨m1, m2, m3⟩ := i.ls v hv
    rw [(gadd_key x y v).2]
    refine ⟨?_, m2, m3⟩
    by_cases e : v.2.1 = t.2.1
    · have ev : v = t := by
        obtain ⟨a, ha, ea⟩ := List.getElem_of_mem hv
        obtain ⟨b, hb, eb⟩ := List.getElem_of_mem mt
        have nn := (List.getElem_inj (h₀ := by rw [List.length_map]; exact ha) (h₁ := by rw [List.length_map]; exact hb) i.adr).mp (by rw [List.getElem_map, List.getElem_map, ea, eb, e])
        subst nn
        rw [← ea, ← eb]
      subst ev
      rw [upd_same]
      unfold gadd
      rw [if_pos ex, List.map_append]; rfl
    · rw [upd_ne e, m1]
      have ne : ¬ v.1 = x := fun z => by
        apply e
        obtain ⟨a, ha, ea⟩ := List.getElem_of_mem hv
        obtain ⟨b, hb, eb⟩ := List.getElem_of_mem mt
        have nn := (List.getElem_inj (h₀ := by rw [List.length_map]; exact ha) (h₁ := by rw [List.length_map]; exact hb) i.keys).mp (by rw [List.getElem_map, List.getElem_map, ea, eb, z, ex])
        subst nn
        rw [← ea, ← eb]
      unfold gadd
      rw [if_neg ne]
  · rw [List.map_map]
    have e : ((·.1) ∘ gadd x y : (Int × Addr × List Int) → Int) = (·.1) := by funext t; exact (gadd_key x y t).1
    rw [e]; exact i.keys
  · rw [List.map_map]
    have e : ((fun t => t.2.1) ∘ gadd x y : (Int × Addr × List Int) → Addr) = fun t => t.2.1 := by funext t; exact (gadd_key x y t).2
    rw [e]; exact i.adr
  · obtain ⟨v, hv, rfl⟩ := List.mem_map.mp hu
    have := i.short v hv
    rw [List.length_append]
    unfold gadd
    split
    · show (v.2.2 ++ [y]).length ≤ _
      rw [List.length_append]; show _ + 1 ≤ _ + 1; omega
    · show _ ≤ _ + 1; omega
  · rw [suc_old h, List.mem_append, List.mem_singleton]
    by_cases e : k = x
    · subst e
      rw [if_pos rfl, List.mem_append, List.mem_singleton, i.ok]
      simp
    · rw [if_neg e, i.ok]
      simp [e]
/-- .. its key new -/
theorem GI.new {H H' : Hp} {D z : Addr} {ps : List Pr} {g : Gr} {x y : Int} (i : GI H D ps H' g) (nD : H D = none) (h : g.find? (fun t => decide (t.1 = x)) = none) (nz : H' z = none) :
    GI H D (ps ++ [(x, y)]) (upd (upd (upd H' z (.lst [])) D (.dK (putK (kvs g) (Sum.inl x) (.ref z)))) z (.lst [V.int y])) (g ++ [(x, z, [y])]) := by
  have nz0 : H z = none := i.same.free nz
  have zD : z ≠ D := fun e => by rw [e, i.dk] at nz; cases nz
  have nk : valV (kvs g) (Sum.inl x) = none := by rw [valV_kvs, h]; rfl
  have nx : ∀ t ∈ g, t.1 ≠ x := fun t ht e => by
    have := List.find?_eq_none.mp h t ht
    simp [e] at this
  refine ⟨same_mut (same_mut (same_mut i.same nz0) nD) nz0, ?_, fun u hu => ?_, ?_, ?_, fun u hu => ?_, by rw [List.length_append, List.length_append]; have := i.len; show _ + 1 ≤ _ + 1; omega, fun k b => ?_⟩
  · rw [upd_ne (Ne.symm zD), upd_same, putK_new _ nk]
    unfold kvs
    rw [List.map_append]; rfl
  · rcases List.mem_append.mp hu with hu | hu
    · obtain ⟨m1, m2, m3⟩ := i.ls u hu
      have uz : u.2.1 ≠ z := fun e => by rw [e, nz] at m1; cases m1
      refine ⟨?_, m2, m3⟩
      rw [upd_ne uz, upd_ne m3, upd_ne uz]; exact m1
    · rw [List.mem_singleton.mp hu]
      exact ⟨upd_same, nz0, zD⟩
  · rw [List.map_append, List.nodup_append]
    refine ⟨i.keys, by simp, fun p hp q hq => ?_⟩
    obtain ⟨t, ht, rfl⟩ := List.mem_map.mp hp
    rw [List.mem_singleton.mp hq]
    exact nx t ht
  · rw [List.map_append, List.nodup_append]
    refine ⟨i.adr, by simp, fun p hp q hq => ?_⟩
    obtain ⟨t, ht, rfl⟩ := List.mem_map.mp hp
    rw [List.mem_singleton.mp hq]
    exact fun e => by
      have m1 := (i.ls t ht).1
      rw [show t.2.1 = z from e, nz] at m1
      cases m1
  · rcases List.mem_append.mp hu with hu | hu
    · have := i.short u hu
      rw [List.length_append]; show _ ≤ _ + 1; omega
    · rw [List.mem_singleton.mp hu, List.length_append]
      show 1 ≤ _ + 1; omega
  · rw [suc_new h, List.mem_append, List.mem_singleton]
    by_cases e : k = x
    · subst e
      rw [if_pos rfl, List.mem_append, List.mem_singleton, i.ok]
      simp
    · rw [if_neg e, i.ok]
      simp [e]
section
variable {P : Program} {w : World} {K : PySem.W.Frag} {mg : Str → Option Value} {base : Heap} {a : Ad}
def PairR (K : PySem.W.Frag) (H : Hp) (v : V) (p : Pr) : Prop := ∃ t, v = .ref t ∧ SqT K H t [.int p.1, .int p.2]
def spClosed (K : PySem.W.Frag) : Sp := fun us H Q _ => ∃ (p0 : Addr) (ws : List V) (ps : List Pr) (vs : List Int), us = [.ref p0] ∧ (SqL K H p0 ws ∨ SqT K H p0 ws) ∧ R1.Al (PairR K H) ws ps ∧ Over vs ps ∧ vs.length ≤ 7 ∧ ps.length ≤ 49 ∧
  ∀ (H' : Hp) (p : Addr) (us : List V) (cs : List Pr), Clo ps cs → Same H H' → FrzT H' p us → R1.Al (PairR K H') us cs → Q (.ref p) H'
theorem sqT_upd {H : Hp} {C t : Addr} {xs ys : List V} {o : HO} (h : SqT K H t xs) (hC : H C = some (.lst ys)) : SqT K (upd H C o) t xs := by
  rcases h with (h | ⟨e, h⟩) | h
  · exact .inl (.inl (by rw [upd_ne (fun z => by rw [z, hC] at h; cases h)]; exact h))
  · exact .inl (.inr ⟨e, by rw [upd_ne (fun z => by rw [z, hC] at h; cases h)]; exact h⟩)
  · exact .inr h
theorem pairs_dp {H : Hp} : ∀ {vs : List V} {cs : List Pr}, R1.Al (PairR K H) vs cs → DpAll K H vs (cs.map eP)
  | [], [], _ => .nil
  | [], _ :: _, h => by have := h.1; simp at this
  | _ :: _, [], h => by have := h.1; simp at this
  | v :: vs, c :: cs, h => by
    obtain ⟨t, rfl, st⟩ := h.2 0 v c rfl rfl
    exact .cons (.tup st (.cons (.int _) (.cons (.int _) .nil))) (pairs_dp ⟨Nat.succ.inj h.1, fun i x y a b => h.2 (i + 1) x y (by simpa using a) (by simpa using b)⟩)
theorem ok_closed (T : Top K mg a) (G_reached : FnOk P w K mg base CX0 1 a.f_reached a.d_reached ["following", "start"] spReach) : FnOk P w K mg base CX0 2 a.f_closed_pairs a.d_closed_pairs ["pairs"] (spClosed K) := by
  refine T.F_closed_pairs.ok sc_closed_pairs (fun vs H Q E h => ?_) (fun cdv A outer s H us Q E hr h => ?_)
  · obtain ⟨_, _, _, _, rfl, _⟩ := h
    rfl
  · obtain ⟨p0, ws, ps, vs, rfl, hw, al, ov, lv, lp, q⟩ := h
    refine ⟨_, (pss_cons (ps_set (i := 1) sc_closed_pairs.nd rfl (.inr rfl) pe_dnewK)
    (pss_cons (ps_for PassesOwn.never rfl (R1.PI.or (pi_list (pv 0)) (pi_tup (pv 0))) (pg_tup rfl (pgs_cons (pg_name (i := 2) sc_closed_pairs.nd rfl (.inl rfl)) (pgs_cons (pg_name (i := 3) sc_closed_pairs.nd rfl (.inl rfl)) pgs_nil)))
      (pss_one (ps_expr (pe_bm PySem.F.plainAttrs_list PySem.F.slot_list_append PySem.F.type_list_append mt_append (pe_dsetd (pv 1) (pv 2) (pe_lst pa_nil) ⟨by rfl, by rfl, by rfl, by rfl⟩) (pa_cons (pv 3) pa_nil)))))
    (pss_one (ps_ret (pe_callTy RN.call_tupleF (by rfl) T.z_tuple (by decide +kernel) (pa_cons (pe_callB (R0.cr_sortD hr.units) (by rfl) T.z_sorted (by decide +kernel) (pa_cons (pe_lock (pe_lc2 (own := [("low", 2), ("high", 3)]) (vs1 := [3]) rfl sc_closed_pairs.nd (pi_keys (pv 1)) (blkOk_by (own := [("low", 2), ("high", 3)]) (N := ["pairs", "following", "low", "high"]) (sc := defScope s_closed_pairs) (by decide +kernel)) (by decide) (fun _ _ _ _ _ => (pg_name (i := 2) sc_closed_pairs.nd rfl (.inl rfl))) (fun _ _ _ _ _ => pts_nil) (fun _ _ _ _ _ => (R1.pi_listK (K := K) rfl (pe_call G_reached (hr.mono (by decide)) (by rfl) T.m_reached T.F_reached.kp T.b_reached .nil pass0 (pa_cons (pv 1) (pa_cons (pv 2) pa_nil))))) (fun _ _ _ _ _ => (pg_name (i := 3) sc_closed_pairs.nd rfl (.inl rfl))) (fun _ _ _ _ _ => pts_nil) (fun _ _ _ _ _ => (pe_tup (pa_cons (pv 2) (pa_cons (pv 3) pa_nil)))))) pa_nil)) pa_nil)))))), ?_⟩
    refine fun D nD => ?_
    have body : ∀ (i : Nat) (x : V) (σ' : L2.St) (H1 : Hp), i < ws.length → (∃ g y2 y3, σ' = [some (.ref p0), some (.ref D), y2, y3] ∧ GI H D (ps.take i) H1 g) → ws[i]? = some x → gTup K 2 (gCons (gName 2) (gCons (gName 3) gNil)) x σ' H1 fun σ2 H2 =>
        tBM K "list" rAppend (tDSetd (tVar 1) (tVar 2) (tLst tNil)) (tCons (tVar 3) tNil) σ2 H2 fun _ H3 => ∃ g y2 y3, σ2 = [some (.ref p0), some (.ref D), y2, y3] ∧ GI H D (ps.take (i + 1)) H3 g := by
      rintro i x σ' H1 hi ⟨g, y2, y3, rfl, gi⟩ hx
      obtain ⟨p, hp, t, rfl, st⟩ := al.at hx
      have et : ps.take (i + 1) = ps.take i ++ [p] := by rw [List.take_add_one, hp]; rfl
      refine ⟨t, _, rfl, sqT_same gi.same st, rfl, _, _, rfl, _, _, rfl, rfl, ?_⟩
      refine ⟨.ref D, rfl, D, rfl, .inl ⟨_, .inl gi.dk⟩, .int p.1, rfl, Nat.zero_le _, fun z nz => ?_⟩
      have zD : D ≠ z := fun e => by rw [← e, gi.dk] at nz; cases nz
      have l50 : (kvs g).length < sizeLine := by
        refine small_sz ?_
        unfold kvs
        have := gi.len
        rw [List.length_take] at this
        rw [List.length_map]; omega
      refine ⟨kvs g, Sum.inl p.1, by rw [upd_ne zD]; exact gi.dk, rfl, l50, fun v hv => ?_, fun hv => ?_⟩
      · rw [valV_kvs] at hv
        obtain ⟨u, hu, rfl⟩ := Option.map_eq_some_iff.mp hv
        have mu := List.mem_of_find?_eq_some hu
        obtain ⟨m1, m2, m3⟩ := gi.ls u mu
        have uz : u.2.1 ≠ z := fun e => by rw [e, nz] at m1; cases m1
        have gz : GI H D (ps.take i) (upd H1 z (.lst [])) g := ⟨same_mut gi.same (gi.same.free nz), by rw [upd_ne zD]; exact gi.dk, fun t ht => by
          obtain ⟨a1, a2, a3⟩ := gi.ls t ht
          exact ⟨by rw [upd_ne (fun e => by rw [e, nz] at a1; cases a1)]; exact a1, a2, a3⟩, gi.keys, gi.adr, gi.short, gi.len, gi.ok⟩
        have lu : (u.2.2.map V.int).length < sizeLine := by
          refine small_sz ?_
          have := gi.short u mu
          rw [List.length_take] at this
          rw [List.length_map]; omega
        have mz := (gz.ls u mu).1
        refine ⟨.inl ⟨rfl, _, SqL.of mz⟩, .int p.2, rfl, u.2.1, _, _, rfl, rfl, mz, lu, g.map (gadd p.1 p.2), _, _, rfl, ?_⟩
        rw [et]
        exact gz.old hu
      · rw [valV_kvs, Option.map_eq_none_iff] at hv
        have mz : (upd (upd H1 z (.lst [])) D (.dK (putK (kvs g) (Sum.inl p.1) (.ref z)))) z = some (.lst []) := by rw [upd_ne (Ne.symm zD), upd_same]
        refine ⟨.inl ⟨rfl, _, SqL.of mz⟩, .int p.2, rfl, z, _, _, rfl, rfl, mz, by decide, g ++ [(p.1, z, [p.2])], _, _, rfl, ?_⟩
        rw [et]
        exact gi.new nD hv nz
    have g0 : GI H D (ps.take 0) (upd H D (.dK [])) [] := ⟨same_upd nD, upd_same, (fun t h => nomatch h), .nil, .nil, (fun t h => nomatch h), Nat.zero_le _, fun x y => by simp [suc]⟩
    have wl_ : ws.length = ps.length := al.1
    have fin : ∀ (Ex : XK → XK) (g : Gr) (y2 y3 : Option V) (H1 : Hp), GI H D ps H1 g → tCB (fun vs H Q => ∃ p ys, vs = [V.ref p] ∧ H p = some (HO.lst ys) ∧ ∀ (l : Addr) (H' : Hp), H l = none → Same H H' → FrzT H' l ys → Q (V.ref l) H')
        (tCons (tCB (R0.rSortD K) (tCons (tLockE (tLc2 (iKeys (tVar 1)) (gName 2) tYes (iList K (tCall spReach [] E0 (tCons (tVar 1) (tCons (tVar 2) tNil)))) (gName 3) tYes (tTup (tCons (tVar 2) (tCons (tVar 3) tNil))) [2, 3] [3])) tNil)) tNil)
        [some (.ref p0), some (.ref D), y2, y3] H1 Q := by
      intro _ g y2 y3 H1 gi
      refine ⟨D, _, gi.dk, ?_, fun od => ?_⟩
      · exact trivial
      · refine ⟨.ref D, rfl, D, od, rfl, .inl ⟨kvs g, upd_same, fun C nC => ?_⟩⟩
        have hvs : ∀ t ∈ g, ∀ b ∈ t.2.2, b ∈ vs := fun t ht b hb => by
          rw [← gi.suc_eq ht] at hb
          exact (ov _ ((gi.ok _ _).mp hb)).2
        have h2D : (upd H1 D (.frz od (.dK (kvs g)))) D = some (.frz od (.dK (kvs g))) := upd_same
        have h2l : ∀ t ∈ g, (upd H1 D (.frz od (.dK (kvs g)))) t.2.1 = some (.lst (t.2.2.map V.int)) := fun t ht => by
          obtain ⟨m1, _, m3⟩ := gi.ls t ht
          rw [upd_ne m3]; exact m1
        have s02 : Same H (upd H1 D (.frz od (.dK (kvs g)))) := same_mut gi.same nD
        generalize upd H1 D (.frz od (.dK (kvs g))) = H2 at nC h2D h2l s02 ⊢
        have inV : ∀ {x y : Int}, Rch g x y → x ∈ vs ∧ y ∈ vs := fun h => tc_over ov (gi.rch.mp h)
        have small : ∀ cs : List Pr, cs.Nodup → (∀ p ∈ cs, Rch g p.1 p.2) → cs.length ≤ 49 := fun cs n h => by
          have := nodup_le n (over_grid fun p hp => inV (h p hp))
          rw [grid_len] at this
          have := Nat.mul_le_mul lv lv
          omega
        refine R1.walk_it walk_keys (fun i F => ∃ (acc : List V) (cs : List Pr), F C = some (.lst acc) ∧ Same H2 F ∧ R1.Al (PairR K F) acc cs ∧ cs.Nodup ∧ ∀ p : Pr, p ∈ cs ↔ (∃ t ∈ g.take i, t.1 = p.1) ∧ Rch g p.1 p.2) ⟨[], [], upd_same, same_upd nC, R1.Al.nil, .nil, fun p => by simp⟩ (fun i F _ ⟨_, _, _, s2, _⟩ => s2 _ _ h2D) ?_ ?_
        · rintro i x F F' hi ⟨acc, cs, hC, s2, alF, nd, mm⟩ ⟨rfl, k, v, hkv, rfl⟩
          obtain ⟨t, hgt, rfl, et⟩ : ∃ t, g[i]? = some t ∧ k = Sum.inl t.1 ∧ g.take (i + 1) = g.take i ++ [t] := by
            unfold kvs at hkv
            rw [List.getElem?_map] at hkv
            cases e : g[i]? with
            | none => rw [e] at hkv; cases hkv
            | some t => rw [e] at hkv; cases hkv; exact ⟨t, rfl, rfl, by rw [List.take_add_one, e]; rfl⟩
          have mt := List.mem_of_getElem? hgt
          refine ⟨rfl, .ref D, rfl, .int t.1, rfl, D, t.1, g, vs, rfl, ⟨.inr ⟨od, s2 _ _ h2D⟩, fun u hu => s2 _ _ (h2l u hu)⟩, ⟨t, mt, rfl⟩, hvs, lv, fun u hu => Nat.le_trans (gi.short u hu) lp, fun F2 p ms s3 np hp ndm mm2 => ?_⟩
          have pC : p ≠ C := fun e => by rw [e, hC] at np; cases np
          have ms7 : ms.length ≤ 7 := Nat.le_trans (nodup_le ndm fun b hb => (inV ((mm2 b).mp hb)).2) lv
          have cs49 := small cs nd fun p hp => ((mm p).mp hp).2
          refine ⟨p, rfl, ⟨_, SqL.of hp⟩, R1.walk_it (walk_list (xs := ms.map V.int)) (fun j F => ∃ acc' : List V, F C = some (.lst acc') ∧ Same H2 F ∧ F p = some (.lst (ms.map V.int)) ∧ R1.Al (PairR K F) acc' (cs ++ (ms.take j).map fun b => (t.1, b))) ⟨acc, s3 _ _ hC, s2.trans s3, hp, ?_⟩ (fun j F _ ⟨_, _, _, h, _⟩ => SqL.of h) ?_ ?_⟩
          · rw [List.take_zero, List.map_nil, List.append_nil]
            exact alF.mono fun v q ⟨u, e, h⟩ => ⟨u, e, PL.sqT_same s3 h⟩
          · rintro j y F3 F4 hj ⟨acc', hC', s', hp', al'⟩ ⟨rfl, hy⟩
            obtain ⟨b, hb, rfl, etb⟩ := at_int hy
            refine ⟨rfl, .int t.1, rfl, .int b, rfl, by show 2 ≤ sizeLine; decide, fun Tt nT => ⟨acc', ?_, ?_, acc' ++ [.ref Tt], upd_same, ?_, ?_, ?_⟩⟩
            · exact same_upd nT _ _ hC'
            · refine small_sz ?_
              rw [al'.1, List.length_append, List.length_map, List.length_take]
              omega
            · exact same_mut (s'.trans (same_upd nT)) nC
            · rw [upd_ne pC]; exact same_upd nT _ _ hp'
            · have hC5 : (upd F4 Tt (.tup [.int t.1, .int b])) C = some (.lst acc') := same_upd nT _ _ hC'
              have tC : Tt ≠ C := fun e => by rw [e, hC'] at nT; cases nT
              rw [etb, List.map_append, ← List.append_assoc]
              refine (al'.mono fun v q ⟨u, e, h⟩ => ⟨u, e, sqT_upd (PL.sqT_same (same_upd nT) h) hC5⟩).snoc ⟨Tt, rfl, SqT.of ?_⟩
              rw [upd_ne tC, upd_same]
          · rintro F3 ⟨acc', hC', s', hp', al'⟩
            rw [List.length_map, List.take_length] at al'
            refine ⟨acc', _, hC', s', al', ?_, fun q => ?_⟩
            · rw [List.nodup_append]
              refine ⟨nd, ?_, fun q hq r hr => ?_⟩
              · refine List.pairwise_map.mpr (ndm.imp fun {b c} ne e => ne ?_)
                injection e
              · obtain ⟨b, hb, rfl⟩ := List.mem_map.mp hr
                rintro rfl
                obtain ⟨u, hu, eu⟩ := ((mm _).mp hq).1
                obtain ⟨j, hj, ej⟩ := List.getElem_of_mem hu
                rw [List.length_take] at hj
                rw [List.getElem_take] at ej
                have hi2 := (List.getElem?_eq_some_iff.mp hgt).1
                have eg := (List.getElem?_eq_some_iff.mp hgt).2
                have z : (g.map (·.1))[j]'(by rw [List.length_map]; omega) = (g.map (·.1))[i]'(by rw [List.length_map]; exact hi2) := by
                  rw [List.getElem_map, List.getElem_map, ej, eg]; exact eu
                have nn := (List.getElem_inj gi.keys).mp z
                omega
            · rw [List.mem_append, mm, et]
              constructor
              · rintro (⟨⟨u, hu, eu⟩, h⟩ | h)
                · exact ⟨⟨u, List.mem_append_left _ hu, eu⟩, h⟩
                · obtain ⟨b, hb, rfl⟩ := List.mem_map.mp h
                  exact ⟨⟨t, List.mem_append_right _ (List.mem_singleton.mpr rfl), rfl⟩, (mm2 b).mp hb⟩
              · rintro ⟨⟨u, hu, eu⟩, h⟩
                rcases List.mem_append.mp hu with hu | hu
                · exact .inl ⟨⟨u, hu, eu⟩, h⟩
                · rw [List.mem_singleton.mp hu] at eu
                  refine .inr (List.mem_map.mpr ⟨q.2, (mm2 _).mpr (by rw [eu]; exact h), ?_⟩)
                  exact Prod.ext eu rfl
        · rintro F ⟨acc, cs, hC, s2, alF, nd, mm⟩
          have ekl : (kvs g).length = g.length := by unfold kvs; rw [List.length_map]
          rw [ekl, List.take_length] at mm
          have CD : C ≠ D := fun e => by rw [e, h2D] at nC; cases nC
          have s03 : Same H (upd F D (.dK (kvs g))) := same_mut (s02.trans s2) nD
          have hC3 : (upd F D (.dK (kvs g))) C = some (.lst acc) := by rw [upd_ne CD]; exact hC
          have al3 : R1.Al (PairR K (upd F D (.dK (kvs g)))) acc cs := alF.mono fun v q ⟨u, e, h⟩ => ⟨u, e, by
            have hD := s2 _ _ h2D
            rcases h with (h | ⟨o, h⟩) | h
            · exact .inl (.inl (by rw [upd_ne (fun z => by rw [z, hD] at h; cases h)]; exact h))
            · exact .inl (.inr ⟨o, by rw [upd_ne (fun z => by rw [z, hD] at h; cases h)]; exact h⟩)
            · exact .inr h⟩
          obtain ⟨a1, a2, a3⟩ := srt_eps cs
          refine ⟨s2 _ _ h2D, C, acc, cs.map eP, rfl, SqL.of hC3, pairs_dp al3, a1, a2, a3, fun p np => ⟨p, _, rfl, upd_same, fun l H' nl s fr => ?_⟩⟩
          refine q H' l _ (srt cs) ⟨srt_asc nd, fun r => ?_⟩ ((s03.trans (same_upd np)).trans s) fr ?_
          · rw [(srt_perm cs).mem_iff, mm, gi.rch]
            exact ⟨fun h => h.2, fun h => ⟨gi.key h, h⟩⟩
          · have es : srt cs = R1.sortK eP cs := by
              unfold srt R1.sortK
              rw [show PySem.W.dataLe false eP = le2 from PySem.W.dataLe_ii (fun p : Pr => p.1) (fun p : Pr => p.2)]
            rw [es]
            exact R1.sort_al eP (al3.mono fun v r ⟨u, e, h⟩ => ⟨u, e, PL.sqT_same ((same_upd np).trans s) h⟩)
    rcases hw with hw | hw
    · refine .inl ⟨.ref p0, rfl, p0, rfl, ⟨_, (same_upd nD).seq hw⟩, for_it (walk_list (xs := ws)) (fun i σ' H' => ∃ g y2 y3, σ' = [some (.ref p0), some (.ref D), y2, y3] ∧ GI H D (ps.take i) H' g) ⟨[], _, _, rfl, g0⟩ (fun i σ' H' _ ⟨g, _, _, _, gi⟩ => gi.same.seq hw) ?_ ?_⟩
      · rintro i x σ' H1 H2 hi hg ⟨rfl, hx⟩
        exact body i x σ' _ hi hg hx
      · rintro σ' H1 ⟨g, y2, y3, rfl, gi⟩
        rw [wl_, List.take_length] at gi
        exact fin id g y2 y3 _ gi
    · refine .inr ⟨.ref p0, rfl, p0, rfl, ⟨_, PL.sqT_same (same_upd nD) hw⟩, for_it (walk_tup (xs := ws)) (fun i σ' H' => ∃ g y2 y3, σ' = [some (.ref p0), some (.ref D), y2, y3] ∧ GI H D (ps.take i) H' g) ⟨[], _, _, rfl, g0⟩ (fun i σ' H' _ ⟨g, _, _, _, gi⟩ => PL.sqT_same gi.same hw) ?_ ?_⟩
      · rintro i x σ' H1 H2 hi hg ⟨rfl, hx⟩
        exact body i x σ' _ hi hg hx
      · rintro σ' H1 ⟨g, y2, y3, rfl, gi⟩
        rw [wl_, List.take_length] at gi
        exact fin id g y2 y3 _ gi
end
end K20

set_option maxHeartbeats 8000000
/-! closed_pairs over pure values; the law -/
namespace K20
open PySem PySem.Spec PyProof.Rows L2 RN PL M20 K21
def imm : HO → Bool
  | .tup _ => true
  | .frz _ (.tup _) => true
  | _ => false
theorem imm_mu {o : HO} (h : mu o = true) : imm o = false := by
  cases o <;> first | rfl | exact nomatch h
def snap (I H' : Hp) : Hp := fun b => match H' b with
  | some o => if imm o = true then some o else I b
  | none => I b
theorem snap_imm {I H' : Hp} {b : Addr} {o : HO} (h : H' b = some o) (i : imm o = true) : snap I H' b = some o := by
  unfold snap; rw [h]; exact if_pos i
theorem snap_not {I H' : Hp} {b : Addr} {o : HO} (h : H' b = some o) (i : imm o = false) : snap I H' b = I b := by
  unfold snap; rw [h]; exact if_neg (by rw [i]; decide)
section
variable {P : Program} {w : World} {K : PySem.W.Frag} {mg : Str → Option Value} {base : Heap} {a : Ad}
theorem al_of {I : Hp} {ws : List V} {ps : List Pr} (h : WA K I ws (ps.map eP)) : R1.Al (PairR K I) ws ps := by
  have z := h.al
  refine ⟨by have := z.1; rwa [List.length_map] at this, fun i x p hx hp => ?_⟩
  have wp : W K I x (eP p) := z.2 i x (eP p) hx (by rw [List.getElem?_map, hp]; rfl)
  have wp : W K I x (.tuple (([p.1, p.2] : List Int).map .int)) := wp
  cases wp with
  | @tup t us _ hs hw =>
    have e := PL.wa_ints hw (PL.ints_map _)
    subst e
    exact ⟨t, rfl, hs⟩
theorem sq_snap {I H' : Hp} {t : Addr} {xs : List V} (h : SqT K H' t xs) : SqT K (snap I H') t xs := by
  rcases h with (h | ⟨o, h⟩) | h
  · exact .inl (.inl (snap_imm h rfl))
  · exact .inl (.inr ⟨o, snap_imm h rfl⟩)
  · exact .inr h
theorem wa_snap {I H' : Hp} : ∀ {us : List V} {cs : List Pr}, R1.Al (PairR K H') us cs → WA K (snap I H') us (cs.map eP)
  | [], [], _ => .nil
  | [], _ :: _, h => by have := h.1; simp at this
  | _ :: _, [], h => by have := h.1; simp at this
  | v :: us, c :: cs, h => by
    obtain ⟨t, rfl, st⟩ := h.2 0 v c rfl rfl
    exact .cons (.tup (sq_snap st) (.cons (.int _) (.cons (.int _) .nil))) (wa_snap ⟨Nat.succ.inj h.1, fun i x y a b => h.2 (i + 1) x y (by simpa using a) (by simpa using b)⟩)
theorem gd_closed (h : FnOk P w K mg base CX0 2 a.f_closed_pairs a.d_closed_pairs ["pairs"] (spClosed K)) : FnOk P w K mg base CX0 2 a.f_closed_pairs a.d_closed_pairs ["pairs"] (spP K closeP) := h.imp fun vs H Q E x => by
  obtain ⟨I, sa, ss, Pp, s0, g, ha, ⟨s, ps, vs', rfl, harg, ov, lv, lp, hf⟩, hq⟩ := x
  have res : ∀ (H' : Hp) (l : Addr) (us : List V) (cs : List Pr), Clo ps cs → Same H H' → FrzT H' l us → R1.Al (PairR K H') us cs → Q (.ref l) H' := fun H' l us cs hc sm fr al => by
    refine hq _ (hf cs hc) _ H' ⟨snap I H', fun b o e => ?_, fun b o e => ?_, fun b o _ e => sm b o e, fun b o n e m => ?_, fun p e => ?_, l, us, rfl, ?_, wa_snap al⟩
    · have e' := sm _ _ (s0 _ _ e)
      cases i : imm o with
      | true => exact snap_imm e' i
      | false => rw [snap_not e' i]; exact e
    · cases f : H' b with
      | none =>
        unfold snap at e
        rw [f] at e
        have z := sm _ _ (s0 _ _ e)
        rw [f] at z; cases z
      | some o' =>
        cases i : imm o' with
        | true => rw [snap_imm f i] at e; exact e
        | false =>
          rw [snap_not f i] at e
          have z := sm _ _ (s0 _ _ e)
          rw [f] at z; exact z
    · rw [snap_not (sm _ _ e) (imm_mu m)]; exact n
    · obtain ⟨z, zi⟩ := g p e
      have sI : Same I (snap I H') := fun b o e => by
        have e' := sm _ _ (s0 _ _ e)
        cases i : imm o with
        | true => exact snap_imm e' i
        | false => rw [snap_not e' i]; exact e
      obtain ⟨sc, ns, i, b, s, l, h1, h2, h3⟩ := z
      exact ⟨sc, ns, i, b, s, l, sm _ _ h1, sI _ _ h2, h3⟩
    · obtain ⟨o, d, ho⟩ := fr
      exact ⟨o, d, snap_imm ho rfl⟩
  match vs, ha with
  | [v1], ⟨a1, _⟩ =>
    rcases harg with rfl | rfl
    · have a1 : W K I v1 (.list (ps.map eP)) := a1
      cases a1 with
      | @lst p ws _ hp hw => exact ⟨p, ws, ps, vs', rfl, .inl (SqL.of (s0 _ _ hp)), (al_of hw).mono fun v q ⟨u, e, h⟩ => ⟨u, e, PL.sqT_same s0 h⟩, ov, lv, lp, res⟩
    · have a1 : W K I v1 (.tuple (ps.map eP)) := a1
      cases a1 with
      | @tup p ws _ hp hw => exact ⟨p, ws, ps, vs', rfl, .inr (PL.sqT_same s0 hp), (al_of hw).mono fun v q ⟨u, e, h⟩ => ⟨u, e, PL.sqT_same s0 h⟩, ov, lv, lp, res⟩
theorem ok_law (T : Top K mg a) : FnOk P w K mg base CX0 33 a.f_law a.d_law ["_law_script"] (spLaw K) :=
  let cl := gd_closed (ok_closed T (ok_reached T))
  let od := ok_orders T (close_of cl)
  let ho := ok_hold T (ok_truth T (ok_bof T))
  ok_law_of T (ok_state2 T) (gd_draw T) (gd_alike T) (ok_pairs T (gd_draw T)) (ok_l_closed T) cl (ok_l_all_orders T (ok_l_closed T)) od (ok_names T (gd_draw T)) (ok_below T (gd_draw T)) (ok_cells T (ok_marks T)) (ok_good T (ok_l_blocks T))
    (ok_parts T (gd_blk T) od ho) (ok_part T (ok_bof T) (close_of cl) ho) (ok_few T) (ok_truths T (ok_l_blocks T) (ok_truth T (ok_bof T)) (gd_alike T))
end
end K20

namespace K20
open PySem PySem.Spec PyProof.Rows L2
section
theorem all_mk {l : PySem.W.OpenLaw} {w : World} {K : PySem.W.Frag} {h : Heap} {mg : Str → Option Value} {fa : Addr} (X : K.In h) (G : h.Ns mainGlobals mg) (hfa : mg "law" = some (.ref fa))
    {f1 f2 f3 f4 f5 f6 f7 f8 f9 f10 f11 f12 f13 f14 f15 f16 f17 f18 f19 f20 f21 f22 f23 f24 : Addr}
    {od1 an1 od2 an2 od3 an3 od4 an4 od5 an5 od6 an6 od7 an7 od8 an8 od9 an9 od10 an10 od11 an11 od12 an12 od13 an13 od14 an14 od15 an15 od16 an16 od17 an17 od18 an18 od19 an19 od20 an20 od21 an21 od22 an22 od23 an23 od24 an24 : Option Addr} {sl1 sl2 sl3 sl4 sl5 sl6 sl7 sl8 sl9 sl10 sl11 sl12 sl13 sl14 sl15 sl16 sl17 sl18 sl19 sl20 sl21 sl22 sl23 sl24 : Array (Option Value)} {oc1 kV1 dc1 pm1 cd1 ct1 oc2 kV2 dc2 pm2 cd2 ct2 oc3 kV3 dc3 pm3 cd3 ct3 oc4 kV4 dc4 pm4 cd4 ct4 oc5 kV5 dc5 pm5 cd5 ct5 oc6 kV6 dc6 pm6 cd6 ct6 oc7 kV7 dc7 pm7 cd7 ct7 oc8 kV8 dc8 pm8 cd8 ct8 oc9 kV9 dc9 pm9 cd9 ct9 oc10 kV10 dc10 pm10 cd10 ct10 oc11 kV11 dc11 pm11 cd11 ct11 oc12 kV12 dc12 pm12 cd12 ct12 oc13 kV13 dc13 pm13 cd13 ct13 oc14 kV14 dc14 pm14 cd14 ct14 oc15 kV15 dc15 pm15 cd15 ct15 oc16 kV16 dc16 pm16 cd16 ct16 oc17 kV17 dc17 pm17 cd17 ct17 oc18 kV18 dc18 pm18 cd18 ct18 oc19 kV19 dc19 pm19 cd19 ct19 oc20 kV20 dc20 pm20 cd20 ct20 oc21 kV21 dc21 pm21 cd21 ct21 oc22 kV22 dc22 pm22 cd22 ct22 oc23 kV23 dc23 pm23 cd23 ct23 oc24 kV24 dc24 pm24 cd24 ct24 : Value}
    (a1 : PySem.W.nsIn K mainGlobals "block_count" = some (some (.ref f1)))
    (l1 : K.lookup f1 = some ⟨oc1, od1, .func (PySem.W.fnOf "block_count" "block_count" (defArgs s_block_count) (defBody s_block_count) (defScope s_block_count) .none kV1 dc1 pm1 an1 cd1 ct1), sl1⟩)
    (c1 : PySem.W.codeIn K cd1 "block_count" = true)
    (k1 : PySem.W.keepIn K (.ref f1) = true)
    (a2 : PySem.W.nsIn K mainGlobals "block_of" = some (some (.ref f2)))
    (l2 : K.lookup f2 = some ⟨oc2, od2, .func (PySem.W.fnOf "block_of" "block_of" (defArgs s_block_of) (defBody s_block_of) (defScope s_block_of) .none kV2 dc2 pm2 an2 cd2 ct2), sl2⟩)
    (c2 : PySem.W.codeIn K cd2 "block_of" = true)
    (k2 : PySem.W.keepIn K (.ref f2) = true)
    (a3 : PySem.W.nsIn K mainGlobals "_reached" = some (some (.ref f3)))
    (l3 : K.lookup f3 = some ⟨oc3, od3, .func (PySem.W.fnOf "_reached" "_reached" (defArgs s_reached) (defBody s_reached) (defScope s_reached) .none kV3 dc3 pm3 an3 cd3 ct3), sl3⟩)
    (c3 : PySem.W.codeIn K cd3 "_reached" = true)
    (k3 : PySem.W.keepIn K (.ref f3) = true)
    (a4 : PySem.W.nsIn K mainGlobals "closed_pairs" = some (some (.ref f4)))
    (l4 : K.lookup f4 = some ⟨oc4, od4, .func (PySem.W.fnOf "closed_pairs" "closed_pairs" (defArgs s_closed_pairs) (defBody s_closed_pairs) (defScope s_closed_pairs) .none kV4 dc4 pm4 an4 cd4 ct4), sl4⟩)
    (c4 : PySem.W.codeIn K cd4 "closed_pairs" = true)
    (k4 : PySem.W.keepIn K (.ref f4) = true)
    (a5 : PySem.W.nsIn K mainGlobals "orders" = some (some (.ref f5)))
    (l5 : K.lookup f5 = some ⟨oc5, od5, .func (PySem.W.fnOf "orders" "orders" (defArgs s_orders) (defBody s_orders) (defScope s_orders) .none kV5 dc5 pm5 an5 cd5 ct5), sl5⟩)
    (c5 : PySem.W.codeIn K cd5 "orders" = true)
    (k5 : PySem.W.keepIn K (.ref f5) = true)
    (a6 : PySem.W.nsIn K mainGlobals "below_truth" = some (some (.ref f6)))
    (l6 : K.lookup f6 = some ⟨oc6, od6, .func (PySem.W.fnOf "below_truth" "below_truth" (defArgs s_below_truth) (defBody s_below_truth) (defScope s_below_truth) .none kV6 dc6 pm6 an6 cd6 ct6), sl6⟩)
    (c6 : PySem.W.codeIn K cd6 "below_truth" = true)
    (k6 : PySem.W.keepIn K (.ref f6) = true)
    (a7 : PySem.W.nsIn K mainGlobals "_all_hold" = some (some (.ref f7)))
    (l7 : K.lookup f7 = some ⟨oc7, od7, .func (PySem.W.fnOf "_all_hold" "_all_hold" (defArgs s_all_hold) (defBody s_all_hold) (defScope s_all_hold) .none kV7 dc7 pm7 an7 cd7 ct7), sl7⟩)
    (c7 : PySem.W.codeIn K cd7 "_all_hold" = true)
    (k7 : PySem.W.keepIn K (.ref f7) = true)
    (a8 : PySem.W.nsIn K mainGlobals "below_parts" = some (some (.ref f8)))
    (l8 : K.lookup f8 = some ⟨oc8, od8, .func (PySem.W.fnOf "below_parts" "below_parts" (defArgs s_below_parts) (defBody s_below_parts) (defScope s_below_parts) .none kV8 dc8 pm8 an8 cd8 ct8), sl8⟩)
    (c8 : PySem.W.codeIn K cd8 "below_parts" = true)
    (k8 : PySem.W.keepIn K (.ref f8) = true)
    (a9 : PySem.W.nsIn K mainGlobals "below_part" = some (some (.ref f9)))
    (l9 : K.lookup f9 = some ⟨oc9, od9, .func (PySem.W.fnOf "below_part" "below_part" (defArgs s_below_part) (defBody s_below_part) (defScope s_below_part) .none kV9 dc9 pm9 an9 cd9 ct9), sl9⟩)
    (c9 : PySem.W.codeIn K cd9 "below_part" = true)
    (k9 : PySem.W.keepIn K (.ref f9) = true)
    (a10 : PySem.W.nsIn K mainGlobals "_law_state" = some (some (.ref f10)))
    (l10 : K.lookup f10 = some ⟨oc10, od10, .func (PySem.W.fnOf "_law_state" "_law_state" (defArgs s_l_state) (defBody s_l_state) (defScope s_l_state) .none kV10 dc10 pm10 an10 cd10 ct10), sl10⟩)
    (c10 : PySem.W.codeIn K cd10 "_law_state" = true)
    (k10 : PySem.W.keepIn K (.ref f10) = true)
    (a11 : PySem.W.nsIn K mainGlobals "_law_draw" = some (some (.ref f11)))
    (l11 : K.lookup f11 = some ⟨oc11, od11, .func (PySem.W.fnOf "_law_draw" "_law_draw" (defArgs s_l_draw) (defBody s_l_draw) (defScope s_l_draw) .none kV11 dc11 pm11 an11 cd11 ct11), sl11⟩)
    (c11 : PySem.W.codeIn K cd11 "_law_draw" = true)
    (k11 : PySem.W.keepIn K (.ref f11) = true)
    (a12 : PySem.W.nsIn K mainGlobals "_law_alike" = some (some (.ref f12)))
    (l12 : K.lookup f12 = some ⟨oc12, od12, .func (PySem.W.fnOf "_law_alike" "_law_alike" (defArgs s_l_alike) (defBody s_l_alike) (defScope s_l_alike) .none kV12 dc12 pm12 an12 cd12 ct12), sl12⟩)
    (c12 : PySem.W.codeIn K cd12 "_law_alike" = true)
    (k12 : PySem.W.keepIn K (.ref f12) = true)
    (a13 : PySem.W.nsIn K mainGlobals "_law_names" = some (some (.ref f13)))
    (l13 : K.lookup f13 = some ⟨oc13, od13, .func (PySem.W.fnOf "_law_names" "_law_names" (defArgs s_l_names) (defBody s_l_names) (defScope s_l_names) .none kV13 dc13 pm13 an13 cd13 ct13), sl13⟩)
    (c13 : PySem.W.codeIn K cd13 "_law_names" = true)
    (k13 : PySem.W.keepIn K (.ref f13) = true)
    (a14 : PySem.W.nsIn K mainGlobals "_law_marks" = some (some (.ref f14)))
    (l14 : K.lookup f14 = some ⟨oc14, od14, .func (PySem.W.fnOf "_law_marks" "_law_marks" (defArgs s_l_marks) (defBody s_l_marks) (defScope s_l_marks) .none kV14 dc14 pm14 an14 cd14 ct14), sl14⟩)
    (c14 : PySem.W.codeIn K cd14 "_law_marks" = true)
    (k14 : PySem.W.keepIn K (.ref f14) = true)
    (a15 : PySem.W.nsIn K mainGlobals "_law_cells" = some (some (.ref f15)))
    (l15 : K.lookup f15 = some ⟨oc15, od15, .func (PySem.W.fnOf "_law_cells" "_law_cells" (defArgs s_l_cells) (defBody s_l_cells) (defScope s_l_cells) .none kV15 dc15 pm15 an15 cd15 ct15), sl15⟩)
    (c15 : PySem.W.codeIn K cd15 "_law_cells" = true)
    (k15 : PySem.W.keepIn K (.ref f15) = true)
    (a16 : PySem.W.nsIn K mainGlobals "_law_closed" = some (some (.ref f16)))
    (l16 : K.lookup f16 = some ⟨oc16, od16, .func (PySem.W.fnOf "_law_closed" "_law_closed" (defArgs s_l_closed) (defBody s_l_closed) (defScope s_l_closed) .none kV16 dc16 pm16 an16 cd16 ct16), sl16⟩)
    (c16 : PySem.W.codeIn K cd16 "_law_closed" = true)
    (k16 : PySem.W.keepIn K (.ref f16) = true)
    (a17 : PySem.W.nsIn K mainGlobals "_law_pairs" = some (some (.ref f17)))
    (l17 : K.lookup f17 = some ⟨oc17, od17, .func (PySem.W.fnOf "_law_pairs" "_law_pairs" (defArgs s_l_pairs) (defBody s_l_pairs) (defScope s_l_pairs) .none kV17 dc17 pm17 an17 cd17 ct17), sl17⟩)
    (c17 : PySem.W.codeIn K cd17 "_law_pairs" = true)
    (k17 : PySem.W.keepIn K (.ref f17) = true)
    (a18 : PySem.W.nsIn K mainGlobals "_law_all_orders" = some (some (.ref f18)))
    (l18 : K.lookup f18 = some ⟨oc18, od18, .func (PySem.W.fnOf "_law_all_orders" "_law_all_orders" (defArgs s_l_all_orders) (defBody s_l_all_orders) (defScope s_l_all_orders) .none kV18 dc18 pm18 an18 cd18 ct18), sl18⟩)
    (c18 : PySem.W.codeIn K cd18 "_law_all_orders" = true)
    (k18 : PySem.W.keepIn K (.ref f18) = true)
    (a19 : PySem.W.nsIn K mainGlobals "_law_below" = some (some (.ref f19)))
    (l19 : K.lookup f19 = some ⟨oc19, od19, .func (PySem.W.fnOf "_law_below" "_law_below" (defArgs s_l_below) (defBody s_l_below) (defScope s_l_below) .none kV19 dc19 pm19 an19 cd19 ct19), sl19⟩)
    (c19 : PySem.W.codeIn K cd19 "_law_below" = true)
    (k19 : PySem.W.keepIn K (.ref f19) = true)
    (a20 : PySem.W.nsIn K mainGlobals "_law_blocks" = some (some (.ref f20)))
    (l20 : K.lookup f20 = some ⟨oc20, od20, .func (PySem.W.fnOf "_law_blocks" "_law_blocks" (defArgs s_l_blocks) (defBody s_l_blocks) (defScope s_l_blocks) .none kV20 dc20 pm20 an20 cd20 ct20), sl20⟩)
    (c20 : PySem.W.codeIn K cd20 "_law_blocks" = true)
    (k20 : PySem.W.keepIn K (.ref f20) = true)
    (a21 : PySem.W.nsIn K mainGlobals "_law_good" = some (some (.ref f21)))
    (l21 : K.lookup f21 = some ⟨oc21, od21, .func (PySem.W.fnOf "_law_good" "_law_good" (defArgs s_l_good) (defBody s_l_good) (defScope s_l_good) .none kV21 dc21 pm21 an21 cd21 ct21), sl21⟩)
    (c21 : PySem.W.codeIn K cd21 "_law_good" = true)
    (k21 : PySem.W.keepIn K (.ref f21) = true)
    (a22 : PySem.W.nsIn K mainGlobals "_law_fewest" = some (some (.ref f22)))
    (l22 : K.lookup f22 = some ⟨oc22, od22, .func (PySem.W.fnOf "_law_fewest" "_law_fewest" (defArgs s_l_fewest) (defBody s_l_fewest) (defScope s_l_fewest) .none kV22 dc22 pm22 an22 cd22 ct22), sl22⟩)
    (c22 : PySem.W.codeIn K cd22 "_law_fewest" = true)
    (k22 : PySem.W.keepIn K (.ref f22) = true)
    (a23 : PySem.W.nsIn K mainGlobals "_law_truths" = some (some (.ref f23)))
    (l23 : K.lookup f23 = some ⟨oc23, od23, .func (PySem.W.fnOf "_law_truths" "_law_truths" (defArgs s_l_truths) (defBody s_l_truths) (defScope s_l_truths) .none kV23 dc23 pm23 an23 cd23 ct23), sl23⟩)
    (c23 : PySem.W.codeIn K cd23 "_law_truths" = true)
    (k23 : PySem.W.keepIn K (.ref f23) = true)
    (a24 : PySem.W.nsIn K mainGlobals "law" = some (some (.ref f24)))
    (l24 : K.lookup f24 = some ⟨oc24, od24, .func (PySem.W.fnOf "law" "law" (defArgs s_law) (defBody s_law) (defScope s_law) .none kV24 dc24 pm24 an24 cd24 ct24), sl24⟩)
    (c24 : PySem.W.codeIn K cd24 "law" = true)
    (k24 : PySem.W.keepIn K (.ref f24) = true)
    (z_all : PySem.W.nsIn K mainGlobals "all" = some none)
    (z_any : PySem.W.nsIn K mainGlobals "any" = some none)
    (z_bool : PySem.W.nsIn K mainGlobals "bool" = some none)
    (z_int : PySem.W.nsIn K mainGlobals "int" = some none)
    (z_isinstance : PySem.W.nsIn K mainGlobals "isinstance" = some none)
    (z_len : PySem.W.nsIn K mainGlobals "len" = some none)
    (z_list : PySem.W.nsIn K mainGlobals "list" = some none)
    (z_max : PySem.W.nsIn K mainGlobals "max" = some none)
    (z_range : PySem.W.nsIn K mainGlobals "range" = some none)
    (z_set : PySem.W.nsIn K mainGlobals "set" = some none)
    (z_sorted : PySem.W.nsIn K mainGlobals "sorted" = some none)
    (z_str : PySem.W.nsIn K mainGlobals "str" = some none)
    (z_tuple : PySem.W.nsIn K mainGlobals "tuple" = some none)
    : ∃ fd : FuncData, (∀ (s : Shared) (v : Value), BindsTo s fd ⟨[v], []⟩ [("_law_script", v)]) ∧ ∀ base : Heap, K.In base → base.Ns mainGlobals mg → FnOk l.prog w K mg base CX0 33 fa fd ["_law_script"] (spLaw K) := by
  have e := hfa.symm.trans (PySem.W.mg_of X G a24)
  cases e
  have F1 := fun_mk (st := s_block_count) l1 c1 k1
  have b1 := F1.binds (ps := ["marks"]) fun _ _ _ _ _ _ us hl => match us, hl with | [_], _ => rfl
  have F2 := fun_mk (st := s_block_of) l2 c2 k2
  have b2 := F2.binds (ps := ["names", "cell", "name"]) fun _ _ _ _ _ _ us hl => match us, hl with | [_, _, _], _ => rfl
  have F3 := fun_mk (st := s_reached) l3 c3 k3
  have b3 := F3.binds (ps := ["following", "start"]) fun _ _ _ _ _ _ us hl => match us, hl with | [_, _], _ => rfl
  have F4 := fun_mk (st := s_closed_pairs) l4 c4 k4
  have b4 := F4.binds (ps := ["pairs"]) fun _ _ _ _ _ _ us hl => match us, hl with | [_], _ => rfl
  have F5 := fun_mk (st := s_orders) l5 c5 k5
  have b5 := F5.binds (ps := ["count"]) fun _ _ _ _ _ _ us hl => match us, hl with | [_], _ => rfl
  have F6 := fun_mk (st := s_below_truth) l6 c6 k6
  have b6 := F6.binds (ps := ["card", "names", "cell", "own", "atom"]) fun _ _ _ _ _ _ us hl => match us, hl with | [_, _, _, _, _], _ => rfl
  have F7 := fun_mk (st := s_all_hold) l7 c7 k7
  have b7 := F7.binds (ps := ["card", "names", "literals", "cell", "own"]) fun _ _ _ _ _ _ us hl => match us, hl with | [_, _, _, _, _], _ => rfl
  have F8 := fun_mk (st := s_below_parts) l8 c8 k8
  have b8 := F8.binds (ps := ["card", "names", "literals", "cell"]) fun _ _ _ _ _ _ us hl => match us, hl with | [_, _, _, _], _ => rfl
  have F9 := fun_mk (st := s_below_part) l9 c9 k9
  have b9 := F9.binds (ps := ["card", "names", "literals", "cell"]) fun _ _ _ _ _ _ us hl => match us, hl with | [_, _, _, _], _ => rfl
  have F10 := fun_mk (st := s_l_state) l10 c10 k10
  have b10 := F10.binds (ps := ["_law_script"]) fun _ _ _ _ _ _ us hl => match us, hl with | [_], _ => rfl
  have F11 := fun_mk (st := s_l_draw) l11 c11 k11
  have b11 := F11.binds (ps := ["_law_state_here", "_law_many"]) fun _ _ _ _ _ _ us hl => match us, hl with | [_, _], _ => rfl
  have F12 := fun_mk (st := s_l_alike) l12 c12 k12
  have b12 := F12.binds (ps := ["_law_actual", "_law_due"]) fun _ _ _ _ _ _ us hl => match us, hl with | [_, _], _ => rfl
  have F13 := fun_mk (st := s_l_names) l13 c13 k13
  have b13 := F13.binds (ps := ["_law_state_here", "_law_count"]) fun _ _ _ _ _ _ us hl => match us, hl with | [_, _], _ => rfl
  have F14 := fun_mk (st := s_l_marks) l14 c14 k14
  have b14 := F14.binds (ps := ["_law_count"]) fun _ _ _ _ _ _ us hl => match us, hl with | [_], _ => rfl
  have F15 := fun_mk (st := s_l_cells) l15 c15 k15
  have b15 := F15.binds (ps := ["_law_count"]) fun _ _ _ _ _ _ us hl => match us, hl with | [_], _ => rfl
  have F16 := fun_mk (st := s_l_closed) l16 c16 k16
  have b16 := F16.binds (ps := ["_law_pairs_here"]) fun _ _ _ _ _ _ us hl => match us, hl with | [_], _ => rfl
  have F17 := fun_mk (st := s_l_pairs) l17 c17 k17
  have b17 := F17.binds (ps := ["_law_state_here"]) fun _ _ _ _ _ _ us hl => match us, hl with | [_], _ => rfl
  have F18 := fun_mk (st := s_l_all_orders) l18 c18 k18
  have b18 := F18.binds (ps := ["_law_count"]) fun _ _ _ _ _ _ us hl => match us, hl with | [_], _ => rfl
  have F19 := fun_mk (st := s_l_below) l19 c19 k19
  have b19 := F19.binds (ps := ["_law_state_here", "_law_names_here"]) fun _ _ _ _ _ _ us hl => match us, hl with | [_, _], _ => rfl
  have F20 := fun_mk (st := s_l_blocks) l20 c20 k20
  have b20 := F20.binds (ps := ["_law_names_here", "_law_cell", "_law_low", "_law_high"]) fun _ _ _ _ _ _ us hl => match us, hl with | [_, _, _, _], _ => rfl
  have F21 := fun_mk (st := s_l_good) l21 c21 k21
  have b21 := F21.binds (ps := ["_law_listed", "_law_names_here", "_law_cell", "_law_literals"]) fun _ _ _ _ _ _ us hl => match us, hl with | [_, _, _, _], _ => rfl
  have F22 := fun_mk (st := s_l_fewest) l22 c22 k22
  have b22 := F22.binds (ps := ["_law_parts"]) fun _ _ _ _ _ _ us hl => match us, hl with | [_], _ => rfl
  have F23 := fun_mk (st := s_l_truths) l23 c23 k23
  have b23 := F23.binds (ps := ["_law_names_here", "_law_cell", "_law_order"]) fun _ _ _ _ _ _ us hl => match us, hl with | [_, _, _], _ => rfl
  have F24 := fun_mk (st := s_law) l24 c24 k24
  have b24 := F24.binds (ps := ["_law_script"]) fun _ _ _ _ _ _ us hl => match us, hl with | [_], _ => rfl
  let ad : Ad := { f_block_count := f1, d_block_count := (PySem.W.fnOf "block_count" "block_count" (defArgs s_block_count) (defBody s_block_count) (defScope s_block_count) .none kV1 dc1 pm1 an1 cd1 ct1), f_block_of := f2, d_block_of := (PySem.W.fnOf "block_of" "block_of" (defArgs s_block_of) (defBody s_block_of) (defScope s_block_of) .none kV2 dc2 pm2 an2 cd2 ct2), f_reached := f3, d_reached := (PySem.W.fnOf "_reached" "_reached" (defArgs s_reached) (defBody s_reached) (defScope s_reached) .none kV3 dc3 pm3 an3 cd3 ct3), f_closed_pairs := f4, d_closed_pairs := (PySem.W.fnOf "closed_pairs" "closed_pairs" (defArgs s_closed_pairs) (defBody s_closed_pairs) (defScope s_closed_pairs) .none kV4 dc4 pm4 an4 cd4 ct4), f_orders := f5, d_orders := (PySem.W.fnOf "orders" "orders" (defArgs s_orders) (defBody s_orders) (defScope s_orders) .none kV5 dc5 pm5 an5 cd5 ct5), f_below_truth := f6, d_below_truth := (PySem.W.fnOf "below_truth" "below_truth" (defArgs s_below_truth) (defBody s_below_truth) (defScope s_below_truth) .none kV6 dc6 pm6 an6 cd6 ct6), f_all_hold := f7, d_all_hold := (PySem.W.fnOf "_all_hold" "_all_hold" (defArgs s_all_hold) (defBody s_all_hold) (defScope s_all_hold) .none kV7 dc7 pm7 an7 cd7 ct7), f_below_parts := f8, d_below_parts := (PySem.W.fnOf "below_parts" "below_parts" (defArgs s_below_parts) (defBody s_below_parts) (defScope s_below_parts) .none kV8 dc8 pm8 an8 cd8 ct8), f_below_part := f9, d_below_part := (PySem.W.fnOf "below_part" "below_part" (defArgs s_below_part) (defBody s_below_part) (defScope s_below_part) .none kV9 dc9 pm9 an9 cd9 ct9), f_l_state := f10, d_l_state := (PySem.W.fnOf "_law_state" "_law_state" (defArgs s_l_state) (defBody s_l_state) (defScope s_l_state) .none kV10 dc10 pm10 an10 cd10 ct10), f_l_draw := f11, d_l_draw := (PySem.W.fnOf "_law_draw" "_law_draw" (defArgs s_l_draw) (defBody s_l_draw) (defScope s_l_draw) .none kV11 dc11 pm11 an11 cd11 ct11), f_l_alike := f12, d_l_alike := (PySem.W.fnOf "_law_alike" "_law_alike" (defArgs s_l_alike) (defBody s_l_alike) (defScope s_l_alike) .none kV12 dc12 pm12 an12 cd12 ct12), f_l_names := f13, d_l_names := (PySem.W.fnOf "_law_names" "_law_names" (defArgs s_l_names) (defBody s_l_names) (defScope s_l_names) .none kV13 dc13 pm13 an13 cd13 ct13), f_l_marks := f14, d_l_marks := (PySem.W.fnOf "_law_marks" "_law_marks" (defArgs s_l_marks) (defBody s_l_marks) (defScope s_l_marks) .none kV14 dc14 pm14 an14 cd14 ct14), f_l_cells := f15, d_l_cells := (PySem.W.fnOf "_law_cells" "_law_cells" (defArgs s_l_cells) (defBody s_l_cells) (defScope s_l_cells) .none kV15 dc15 pm15 an15 cd15 ct15), f_l_closed := f16, d_l_closed := (PySem.W.fnOf "_law_closed" "_law_closed" (defArgs s_l_closed) (defBody s_l_closed) (defScope s_l_closed) .none kV16 dc16 pm16 an16 cd16 ct16), f_l_pairs := f17, d_l_pairs := (PySem.W.fnOf "_law_pairs" "_law_pairs" (defArgs s_l_pairs) (defBody s_l_pairs) (defScope s_l_pairs) .none kV17 dc17 pm17 an17 cd17 ct17), f_l_all_orders := f18, d_l_all_orders := (PySem.W.fnOf "_law_all_orders" "_law_all_orders" (defArgs s_l_all_orders) (defBody s_l_all_orders) (defScope s_l_all_orders) .none kV18 dc18 pm18 an18 cd18 ct18), f_l_below := f19, d_l_below := (PySem.W.fnOf "_law_below" "_law_below" (defArgs s_l_below) (defBody s_l_below) (defScope s_l_below) .none kV19 dc19 pm19 an19 cd19 ct19), f_l_blocks := f20, d_l_blocks := (PySem.W.fnOf "_law_blocks" "_law_blocks" (defArgs s_l_blocks) (defBody s_l_blocks) (defScope s_l_blocks) .none kV20 dc20 pm20 an20 cd20 ct20), f_l_good := f21, d_l_good := (PySem.W.fnOf "_law_good" "_law_good" (defArgs s_l_good) (defBody s_l_good) (defScope s_l_good) .none kV21 dc21 pm21 an21 cd21 ct21), f_l_fewest := f22, d_l_fewest := (PySem.W.fnOf "_law_fewest" "_law_fewest" (defArgs s_l_fewest) (defBody s_l_fewest) (defScope s_l_fewest) .none kV22 dc22 pm22 an22 cd22 ct22), f_l_truths := f23, d_l_truths := (PySem.W.fnOf "_law_truths" "_law_truths" (defArgs s_l_truths) (defBody s_l_truths) (defScope s_l_truths) .none kV23 dc23 pm23 an23 cd23 ct23), f_law := fa, d_law := (PySem.W.fnOf "law" "law" (defArgs s_law) (defBody s_law) (defScope s_law) .none kV24 dc24 pm24 an24 cd24 ct24) }
  have T : Top K mg ad :=
    { F_block_count := F1,
      m_block_count := PySem.W.mg_of X G a1,
      b_block_count := b1,
      F_block_of := F2,
      m_block_of := PySem.W.mg_of X G a2,
      b_block_of := b2,
      F_reached := F3,
      m_reached := PySem.W.mg_of X G a3,
      b_reached := b3,
      F_closed_pairs := F4,
      m_closed_pairs := PySem.W.mg_of X G a4,
      b_closed_pairs := b4,
      F_orders := F5,
      m_orders := PySem.W.mg_of X G a5,
      b_orders := b5,
      F_below_truth := F6,
      m_below_truth := PySem.W.mg_of X G a6,
      b_below_truth := b6,
      F_all_hold := F7,
      m_all_hold := PySem.W.mg_of X G a7,
      b_all_hold := b7,
      F_below_parts := F8,
      m_below_parts := PySem.W.mg_of X G a8,
      b_below_parts := b8,
      F_below_part := F9,
      m_below_part := PySem.W.mg_of X G a9,
      b_below_part := b9,
      F_l_state := F10,
      m_l_state := PySem.W.mg_of X G a10,
      b_l_state := b10,
      F_l_draw := F11,
      m_l_draw := PySem.W.mg_of X G a11,
      b_l_draw := b11,
      F_l_alike := F12,
      m_l_alike := PySem.W.mg_of X G a12,
      b_l_alike := b12,
      F_l_names := F13,
      m_l_names := PySem.W.mg_of X G a13,
      b_l_names := b13,
      F_l_marks := F14,
      m_l_marks := PySem.W.mg_of X G a14,
      b_l_marks := b14,
      F_l_cells := F15,
      m_l_cells := PySem.W.mg_of X G a15,
      b_l_cells := b15,
      F_l_closed := F16,
      m_l_closed := PySem.W.mg_of X G a16,
      b_l_closed := b16,
      F_l_pairs := F17,
      m_l_pairs := PySem.W.mg_of X G a17,
      b_l_pairs := b17,
      F_l_all_orders := F18,
      m_l_all_orders := PySem.W.mg_of X G a18,
      b_l_all_orders := b18,
      F_l_below := F19,
      m_l_below := PySem.W.mg_of X G a19,
      b_l_below := b19,
      F_l_blocks := F20,
      m_l_blocks := PySem.W.mg_of X G a20,
      b_l_blocks := b20,
      F_l_good := F21,
      m_l_good := PySem.W.mg_of X G a21,
      b_l_good := b21,
      F_l_fewest := F22,
      m_l_fewest := PySem.W.mg_of X G a22,
      b_l_fewest := b22,
      F_l_truths := F23,
      m_l_truths := PySem.W.mg_of X G a23,
      b_l_truths := b23,
      F_law := F24,
      m_law := PySem.W.mg_of X G a24,
      b_law := b24,
      z_all := PySem.W.mg_none_of X G z_all,
      z_any := PySem.W.mg_none_of X G z_any,
      z_bool := PySem.W.mg_none_of X G z_bool,
      z_int := PySem.W.mg_none_of X G z_int,
      z_isinstance := PySem.W.mg_none_of X G z_isinstance,
      z_len := PySem.W.mg_none_of X G z_len,
      z_list := PySem.W.mg_none_of X G z_list,
      z_max := PySem.W.mg_none_of X G z_max,
      z_range := PySem.W.mg_none_of X G z_range,
      z_set := PySem.W.mg_none_of X G z_set,
      z_sorted := PySem.W.mg_none_of X G z_sorted,
      z_str := PySem.W.mg_none_of X G z_str,
      z_tuple := PySem.W.mg_none_of X G z_tuple }
  exact ⟨_, fun s v => .of_eq rfl, fun base _ _ => ok_law (a := ad) T⟩
end
end K20
open PySem PySem.W PyProof.Rows
set_option maxHeartbeats 0 in
theorem PySem.Challenge.cw_onelooker_k20_orders_closed_holds : PySem.Challenge.rw_onelooker_k20_orders_closed.Holds := by
  w_on; o_law; k_head; (case hw => w_witness2)
  k_fill
  refine L2.walk_of (l := PySem.Challenge.rw_onelooker_k20_orders_closed) (n := 63) (k := 33) (x := "_law_script") (CX := fun _ => L2.CX0) (sp := fun w => K20.spLaw _) rfl (by decide) rfl ⟨rfl, by decide, by decide⟩ (fun w h Y => PySem.W.kIn_of Y) ?F (fun _ _ a ns hl _ hS => ⟨a, ns, rfl, hS, fun _ => rfl⟩) (fun _ _ _ _ _ h => h)
  case F =>
    intro w mg fa h KX G hmg
    refine' K20.all_mk KX G hmg ?a1 ?l1 ?c1 ?k1 ?a2 ?l2 ?c2 ?k2 ?a3 ?l3 ?c3 ?k3 ?a4 ?l4 ?c4 ?k4 ?a5 ?l5 ?c5 ?k5 ?a6 ?l6 ?c6 ?k6 ?a7 ?l7 ?c7 ?k7 ?a8 ?l8 ?c8 ?k8 ?a9 ?l9 ?c9 ?k9 ?a10 ?l10 ?c10 ?k10 ?a11 ?l11 ?c11 ?k11 ?a12 ?l12 ?c12 ?k12 ?a13 ?l13 ?c13 ?k13 ?a14 ?l14 ?c14 ?k14 ?a15 ?l15 ?c15 ?k15 ?a16 ?l16 ?c16 ?k16 ?a17 ?l17 ?c17 ?k17 ?a18 ?l18 ?c18 ?k18 ?a19 ?l19 ?c19 ?k19 ?a20 ?l20 ?c20 ?k20 ?a21 ?l21 ?c21 ?k21 ?a22 ?l22 ?c22 ?k22 ?a23 ?l23 ?c23 ?k23 ?a24 ?l24 ?c24 ?k24 ?z_all ?z_any ?z_bool ?z_int ?z_isinstance ?z_len ?z_list ?z_max ?z_range ?z_set ?z_sorted ?z_str ?z_tuple
    (case a1 => k_is)
    (case l1 => k_is)
    (case c1 => k_is)
    (case k1 => k_is)
    (case a2 => k_is)
    (case l2 => k_is)
    (case c2 => k_is)
    (case k2 => k_is)
    (case a3 => k_is)
    (case l3 => k_is)
    (case c3 => k_is)
    (case k3 => k_is)
    (case a4 => k_is)
    (case l4 => k_is)
    (case c4 => k_is)
    (case k4 => k_is)
    (case a5 => k_is)
    (case l5 => k_is)
    (case c5 => k_is)
    (case k5 => k_is)
    (case a6 => k_is)
    (case l6 => k_is)
    (case c6 => k_is)
    (case k6 => k_is)
    (case a7 => k_is)
    (case l7 => k_is)
    (case c7 => k_is)
    (case k7 => k_is)
    (case a8 => k_is)
    (case l8 => k_is)
    (case c8 => k_is)
    (case k8 => k_is)
    (case a9 => k_is)
    (case l9 => k_is)
    (case c9 => k_is)
    (case k9 => k_is)
    (case a10 => k_is)
    (case l10 => k_is)
    (case c10 => k_is)
    (case k10 => k_is)
    (case a11 => k_is)
    (case l11 => k_is)
    (case c11 => k_is)
    (case k11 => k_is)
    (case a12 => k_is)
    (case l12 => k_is)
    (case c12 => k_is)
    (case k12 => k_is)
    (case a13 => k_is)
    (case l13 => k_is)
    (case c13 => k_is)
    (case k13 => k_is)
    (case a14 => k_is)
    (case l14 => k_is)
    (case c14 => k_is)
    (case k14 => k_is)
    (case a15 => k_is)
    (case l15 => k_is)
    (case c15 => k_is)
    (case k15 => k_is)
    (case a16 => k_is)
    (case l16 => k_is)
    (case c16 => k_is)
    (case k16 => k_is)
    (case a17 => k_is)
    (case l17 => k_is)
    (case c17 => k_is)
    (case k17 => k_is)
    (case a18 => k_is)
    (case l18 => k_is)
    (case c18 => k_is)
    (case k18 => k_is)
    (case a19 => k_is)
    (case l19 => k_is)
    (case c19 => k_is)
    (case k19 => k_is)
    (case a20 => k_is)
    (case l20 => k_is)
    (case c20 => k_is)
    (case k20 => k_is)
    (case a21 => k_is)
    (case l21 => k_is)
    (case c21 => k_is)
    (case k21 => k_is)
    (case a22 => k_is)
    (case l22 => k_is)
    (case c22 => k_is)
    (case k22 => k_is)
    (case a23 => k_is)
    (case l23 => k_is)
    (case c23 => k_is)
    (case k23 => k_is)
    (case a24 => k_is)
    (case l24 => k_is)
    (case c24 => k_is)
    (case k24 => k_is)
    (case z_all => k_is)
    (case z_any => k_is)
    (case z_bool => k_is)
    (case z_int => k_is)
    (case z_isinstance => k_is)
    (case z_len => k_is)
    (case z_list => k_is)
    (case z_max => k_is)
    (case z_range => k_is)
    (case z_set => k_is)
    (case z_sorted => k_is)
    (case z_str => k_is)
    (case z_tuple => k_is)

