import PyProof.Rows.All
import Wide.All
import OpenK.AllK
import Wide.FinOn
import HandS.ForMost
import HandS.SortKw
import HandS.TupAny
import KE.SortData
import KE.DatumOrd
import HandS.DictComp
import HandS.Conv
import HandS.Walk
import HandS.Star
import HandS.Zip
import HandS.TupSets
import HandS.SetFor
import HandS.ExcIs
import HandS.ExcField
import KE.KExcIs
import KE.GoesEnum
import KE.GoesMore
import KE.KDictZip
import HandS.Wide
import HandS.Style
import KE.KRevSl
import HandS.ClsMeth
import OpenK.KOps
import OpenK.KMeth
import HandS.Codes
import HandS.Words
import HandS.IterNext
import HandS.OwnIter
import PyProof.WalksMore
import PyProof.CollectWalk
import HandS.DictTup
import KE.KDictItemsList
import KE.KDictKeyed
import KE.KeyNested
import KE.KDictPairs
import KE.KDictCopyH
import HandS.Deep
import KE.KEqDict
import PyProof.NeData
import KE.KDictLaw
import HandS.ExcInit
import HandS.Steps
import HandS.IsInst
import HandS.TryOnly
import HandS.Defaults
import HandS.Exc
import HandS.ExcOwn
import HandS.WordsExc
import HandS.Replace
import HandS.AnyAll
import HandS.Small
import HandS.CallSlots
import HandS.Iter
import KE.KDictWalk
import HandS.Finally
import PySem.Challenge.RW_onelooker_k16_replayed_steps
set_option Elab.async false
set_option linter.all false
set_option maxRecDepth 100000
set_option maxHeartbeats 4000000
namespace R0
open PySem PySem.Spec PyProof.Rows L2
/-! ### sorted(xs), the items any data: the one stable order -/
def sortV (xs : List V) (ds : List PyData) : List V := ((xs.zip ds).mergeSort (PySem.W.dataLe false Prod.snd)).map Prod.fst
def DepLe (n : Nat) (ds : List PyData) : Prop := ∀ d ∈ ds, d.depth ≤ n
theorem dpAll_len {K : PySem.W.Frag} {H : Hp} : ∀ {xs : List V} {ds : List PyData}, DpAll K H xs ds → xs.length = ds.length
  | _, _, .nil => rfl
  | _, _, .cons _ t => congrArg Nat.succ (dpAll_len t)
section
variable {X : Cx} {pins : List (Addr × Obj)} {σ : L2.St} {H : Hp} {s : Shared}
theorem each_rel : ∀ {xs : List V} {its : List Value} {ds : List PyData}, Vals xs its → DpAll X.K H xs ds → PySem.W.EachIs (fun (v : Value) (b : V × PyData) => RelV b.1 v) its (xs.zip ds)
  | _, _, _, .nil, .nil => .nil
  | _, _, _, .cons r t, .cons _ d => .cons r (each_rel t d)
theorem each_reads (I : Inv X pins σ H s) : ∀ {xs : List V} {its : List Value} {ds : List PyData}, Vals xs its → DpAll X.K H xs ds → PySem.W.EachIs (fun (v : Value) (b : V × PyData) => ∃ as, Reads s.heap v b.2 as) its (xs.zip ds)
  | _, _, _, .nil, .nil => .nil
  | _, _, _, .cons r t, .cons h d => .cons (Dp.reads I _ _ _ h r) (each_reads I t d)
theorem each_vals : ∀ {out : List Value} {bs : List (V × PyData)}, PySem.W.EachIs (fun (v : Value) (b : V × PyData) => RelV b.1 v) out bs → Vals (bs.map Prod.fst) out
  | _, _, .nil => .nil
  | _, _, .cons r t => .cons r (each_vals t)
theorem zip_snd : ∀ {xs : List V} {ds : List PyData}, xs.length = ds.length → (xs.zip ds).map Prod.snd = ds
  | [], [], _ => rfl
  | x :: xs, d :: ds, h => congrArg (d :: ·) (zip_snd (Nat.succ.inj h))
def rSortD (K : PySem.W.Frag) : List V → Hp → VK → Prop := fun vs H Q => ∃ (a : Addr) (xs : List V) (ds : List PyData), vs = [.ref a] ∧ SqL K H a xs ∧ DpAll K H xs ds ∧ PySem.W.AllAlike ds ∧ PySem.W.Sortable ds ∧ DepLe 60 ds ∧
  ∀ p, H p = none → Q (.ref p) (upd H p (.lst (sortV xs ds)))
theorem cr_sortD (hu : X.A.units + 64 < cLine) : CallR X (.builtin "sorted") (rSortD X.K) := by
  intro pins s σ H vs us Q I r h
  obtain ⟨a, xs, ds, rfl, hs, hd, hal, hk, hdep, q⟩ := h
  obtain ⟨its, rv, pl, hz⟩ := I.list hs
  obtain ⟨u, rfl, ru⟩ := vals1 r
  obtain rfl : u = Value.ref a := ru
  have el := dpAll_len hd
  have em := zip_snd el
  have ln : (xs.zip ds).length = xs.length := by rw [List.length_zip, ← el, Nat.min_self]
  have lt : its.length = xs.length := rv.length.symm
  refine PySem.W.sorted_data (β := V × PyData) (enc := Prod.snd) (bs := xs.zip ds) (vs := its) (R := fun v b => RelV b.1 v) pl.isList (each_rel rv hd) (each_reads I rv hd) (by rw [em]; exact hal) (by rw [em]; exact hk) (by rw [ln]; exact hz) (fun b hb => ?_) fun out ho hE => ?_
  · have : b.2.depth ≤ 60 := hdep _ (by rw [← em]; exact List.mem_map.mpr ⟨b, hb, rfl⟩)
    omega
  · obtain ⟨e, he⟩ := PyProof.Rows.sortedAll_at s.heap its (List.toArray out)
    have hv := each_vals hE
    refine ⟨.ref (s.heap.objs.size + 1), upd H (s.heap.objs.size + 1) (.lst (sortV xs ds)), I.laid (t' := s.toks) (fun b o z => PyProof.Rows.sortedAll_old z) (Nat.le_succ _) ⟨?_, out, e, hv, he⟩, rfl, q _ (I.hok.fresh (Nat.le_succ _))⟩
    unfold sortV
    rw [List.length_map, List.length_mergeSort, ln]
    exact hz
/-! ### max(t, default=d), t a tuple or a list of ints -/
def maxL (d : Int) : List Int → Int
  | [] => d
  | x :: r => r.foldl (fun a y => if a < y then y else a) x
theorem maxOf_int (x : Int) (r : List Int) : PySem.W.maxOf x r = maxL 0 (x :: r) := by
  unfold PySem.W.maxOf maxL
  congr 1
  funext a y
  by_cases h : a < y
  · rw [if_pos h, if_pos (show PySem.W.DatumOrd.lt a y = true from decide_eq_true h)]
  · rw [if_neg h, if_neg (fun z : PySem.W.DatumOrd.lt a y = true => h (of_decide_eq_true z))]
theorem hold_ints {h : Heap} : ∀ {ns : List Int} {us : List Value}, Vals (ns.map V.int) us → PySem.W.HoldAll h us ns
  | [], _, .nil => ⟨_, .nil⟩
  | n :: ns, _, .cons r t => by
    obtain ⟨k, rfl⟩ := r
    obtain ⟨as, q⟩ := hold_ints t
    exact ⟨_, .cons (.int n k) q⟩
def rMaxD (K : PySem.W.Frag) : List V → List V → Hp → VK → Prop := fun vs zs H Q => ∃ (a : Addr) (ns : List Int) (d : Int), vs = [.ref a] ∧ zs = [.int d] ∧ (SqT K H a (ns.map V.int) ∨ SqL K H a (ns.map V.int)) ∧ Q (.int (maxL d ns)) H
theorem ck_maxD (hc : X.calm = true) (hu : X.A.units + 64 < cLine) : CallRK X (.builtin "max") ["default"] (rMaxD X.K) := by
  intro pins s σ H xs zs us ws Q I r rz h
  obtain ⟨a, ns, d, rfl, rfl, hs, q⟩ := h
  obtain ⟨u, rfl, ru⟩ := vals1 r
  obtain rfl : u = Value.ref a := ru
  obtain ⟨w1, rfl, rw1⟩ := vals1 rz
  have fin : ∀ (i : Nat) (v : Value) (h' : Heap) (tk : Nat) (y : Int) (ys : List Int), ns = y :: ys → PySem.W.Holds h' v (PySem.W.maxOf y ys) → (∀ b o, s.heap.get? b = some o → h'.get? b = some o) → EP X pins σ Q v { s with heap := h', toks := tk } := fun i v h' tk y ys e hv k => by
    obtain ⟨as, hv⟩ := hv
    subst e
    have hv' : Reads h' v (.int (PySem.W.maxOf y ys)) as := hv
    cases hv'
    refine ⟨.int (PySem.W.maxOf y ys), H, I.kept k, ⟨_, rfl⟩, ?_⟩
    rw [maxOf_int]
    exact q
  have fin0 : ns = [] → ∀ (h' : Heap) (tk : Nat), (∀ b o, s.heap.get? b = some o → h'.get? b = some o) → EP X pins σ Q w1 { s with heap := h', toks := tk } := fun e h' tk k => by
    subst e
    exact ⟨.int d, H, I.kept k, rw1, q⟩
  rcases hs with hs | hs
  · obtain ⟨its, rv, ht, hz⟩ := I.tuple hs
    refine PySem.W.max_tuple_datum_default (xs := ns) (vs := its.toArray) (I.ok.hd hc) ht ?_ ?_ fin0 fun y ys i v h' tk e _ hv k => fin i v h' tk y ys e hv k
    · simpa using hold_ints (h := s.heap) rv
    · show X.A.units + 1 + 0 < cLine
      omega
  · obtain ⟨its, rv, pl, hz⟩ := I.list hs
    refine PySem.W.max_list_datum_default (xs := ns) (vs := its.toArray) (I.ok.hd hc) pl.isList ?_ ?_ fin0 fun y ys i v h' tk e _ hv k => fin i v h' tk y ys e hv k
    · simpa using hold_ints (h := s.heap) rv
    · show X.A.units + 1 + 0 < cLine
      omega
end
end R0

/-! a dict comprehension whose keys are tuples of ints and texts -/
namespace R1
open PySem PySem.Spec PyProof.Rows L2
/-- one entry more, the key a tracked tuple -/
theorem tput {X : Cx} {pn : List (Addr × Obj)} {τ : L2.St} {G : Hp} {s : Shared} {E : Value → Shared → Prop} {D b : Addr} {es : List (List Key × V)} {k : List Key} {z : V} {r : Value} {Q : Unit → Shared → Prop} (hu : X.A.units + 1 < cLine) (J : Inv X pn τ G s)
    (gD : G D = some (.dT es)) (gb : G b = some (.tup (k.map kV))) (hn : es.length < sizeLine) (rz : RelV z r) (q : ∀ s', Inv X pn τ (upd G D (.dT (putK es k z))) s' → Q () s') : wpAny (model X.prog X.w) X.A (dictSet D (.ref b) r) Q E s := by
  obtain ⟨e1, e2, ks, rk, dd⟩ := dt_of J.hok gD
  have f1 : ks.length ≤ sizeLine := Paired.length rk ▸ e1
  have f2 := length_putK es k z
  refine wpAny_dictSet_heap (hsz := f1) (Nat.lt_of_succ_lt hu) (key_of J.hok gb) dd fun g' dg sb => q _ ?_
  obtain ⟨w0, w1, w2, a0, a1, a2, a3, _, a4⟩ := dg
  have kt := (rk.put k gb rz).keeps (H' := upd G D (.dT (putK es k z))) fun c ys ec => by
    rw [upd_ne (ne_of ec gD (fun y => nomatch y))]
    exact ec
  exact d_write J (by rw [gD]; trivial) sb ⟨w0, a0⟩ ⟨by omega, e2, _, kt, w0, w1, w2, a0, a1, a2, a3, a4⟩
/-- the reading of {k: v for target in iter if ..} with such keys -/
def tDcT (src : TI) (g : TG) (tt : TT) (tk tv : TE) (own : List Nat) : TE := fun σ H Q => src σ H fun J G => ∀ D, G D = none → ∃ W : Nat → Nat → Hp → Prop, (∃ m, W 0 m (upd G D (.dT []))) ∧ ∀ i m F, W i m F →
  (J.stop i F ∧ Q (.ref D) F) ∨ (J.go i F ∧ ∃ Nx : Hp → Prop, (∀ F', Nx F' → ∃ m', m' < m ∧ W (i + 1) m' F') ∧ ∀ x F', J.yld i F x F' → g x (wipe σ own) F' fun τ F2 => wipe τ own = wipe σ own ∧ tt τ F2 fun c F3 =>
    if c = true then tk τ F3 fun y F4 => tv τ F4 fun z F5 => ∃ es k b, y = .ref b ∧ F5 b = some (.tup (k.map kV)) ∧ F5 D = some (.dT es) ∧ es.length < sizeLine ∧ Nx (upd F5 D (.dT (putK es k z))) else Nx F3)
section
variable {X : Cx} {kx vx tg iter : Expr} {ifs : List Expr} {scope : Scope} {own : List (Str × Nat)} {pos : Pos} {src : TI} {g : TG} {tt : TT} {tk tv : TE}
theorem dcT_core {pins : List (Addr × Obj)} {s : Shared} {σ : L2.St} {H : Hp} {Q : VK} {pos' : Pos} {use : Option (Value → Sem Unit)} {Qf : Value → Shared → Prop} (I : Inv X pins σ H s)
    (hu : X.A.units + 64 < cLine) (hc : X.calm = true) (hN : X.N.Nodup) (hi : PI X tg iter src) (ok : BlkOk X.N X.env.scope scope own)
    (hg : ∀ (s : Shared) (G : Hp) (C : Addr) (cl : List (Str × Addr)) (fp : List Addr), PG (X.blk s G scope (compEnvC scope cl C X.env) fp) tg g)
    (ht : ∀ (s : Shared) (G : Hp) (C : Addr) (cl : List (Str × Addr)) (fp : List Addr), PTs (X.blk s G scope (compEnvC scope cl C X.env) fp) ifs tt)
    (hk : ∀ (s : Shared) (G : Hp) (C : Addr) (cl : List (Str × Addr)) (fp : List Addr), PE (X.blk s G scope (compEnvC scope cl C X.env) fp) kx tk)
    (hv : ∀ (s : Shared) (G : Hp) (C : Addr) (cl : List (Str × Addr)) (fp : List Addr), PE (X.blk s G scope (compEnvC scope cl C X.env) fp) vx tv)
    (hs : ∀ x, foldedSetIterable iter X.env x = pure x) (h : tDcT src g tt tk tv (own.map (·.2)) σ H Q)
    (hR : ∀ D C s' m F, Inv X pins σ F s' → Q (.ref D) F → s'.heap.Ns C m → FpOk X pins F C → compPost (model X.prog X.w) X.A X.xe use Qf (.ref D) C (.ok .next) s') :
    wpAny (model X.prog X.w) X.A (comprehension (.DictComp kx vx [⟨tg, iter, ifs, 0⟩] scope pos) scope X.env pos' newDict false (eval iter X.env) use) Qf X.xe s := by
  have fr : ∀ y ∈ scope.names, y.2 = .free → ∃ c, X.env.cells.lookup y.1 = some c := fun y hy e => (ok.free y hy e).elim (fun z => I.ok.has _ (.inl z)) fun z => I.ok.has _ (.inr z)
  refine wpAny_comprehension_free (use := use) rfl hs (closure_ok fr) ok.kind (fun y hy e => by rw [ok.uniq y hy, e]) (thn (hi.run pins s σ H _ I h) fun xv s1 hx => thn hx fun iv s2 a2 => ?_)
  obtain ⟨it, fp, tn, J, G, rfl, K2, T, t2, p2, q⟩ := a2
  refine wpAny_newObj_type (newEnv_comp ?_)
  obtain ⟨W, ⟨m0, w0⟩, turn⟩ := q s2.heap.objs.size (K2.hok.fresh (Nat.le_refl _))
  generalize eD : s2.heap.objs.size = D at w0 turn
  have nD : G D = none := K2.hok.fresh (Nat.le_of_eq eD)
  -- the new dict
  generalize e3 : ({ s2 with heap := s2.heap.push { cls := .type "dict", data := .dict #[] } } : Shared) = s3
  have K3 : Inv X pins σ (upd G D (.dT [])) s3 := by
    subst e3
    refine K2.laid (t' := s2.toks) (fun b o z => Heap.get?_push_of_some _ z) (Nat.le_of_eq eD) ?_
    subst eD
    exact dt_empty s2.heap K2.big
  have z3 : s3.heap = s2.heap.push { cls := .type "dict", data := .dict #[] } := by subst e3; rfl
  have p3 : ∀ b ∈ fp, FpOk X pins (upd G D (.dT [])) b ∧ b < s3.heap.objs.size := fun b hb => by
    obtain ⟨o, y, _⟩ := T.obj _ _ t2 b hb
    have lt : b < s2.heap.objs.size := Heap.lt_size y
    refine ⟨⟨?_, (p2 b hb).2⟩, by rw [z3, Heap.size_push]; exact Nat.lt_succ_of_lt lt⟩
    rw [upd_ne (by rw [← eD]; exact Nat.ne_of_lt lt)]
    exact (p2 b hb).1
  have t3 : tn 0 s3.heap := T.keep _ _ _ t2 fun b _ o y => by rw [z3]; exact Heap.get?_push_of_some _ y
  have K4 := block_start K3 ok hN p3
  have qg := hg s3 (upd G D (.dT [])) s3.heap.objs.size (cellsFrom (s3.heap.objs.size + 1) scope.names (cloFrom X.env.cells scope.names [])) fp
  have qt := ht s3 (upd G D (.dT [])) s3.heap.objs.size (cellsFrom (s3.heap.objs.size + 1) scope.names (cloFrom X.env.cells scope.names [])) fp
  have qk := hk s3 (upd G D (.dT [])) s3.heap.objs.size (cellsFrom (s3.heap.objs.size + 1) scope.names (cloFrom X.env.cells scope.names [])) fp
  have qv := hv s3 (upd G D (.dT [])) s3.heap.objs.size (cellsFrom (s3.heap.objs.size + 1) scope.names (cloFrom X.env.cells scope.names [])) fp
  have np : ∀ b ∈ fp, (upd G D (.dT [])) b = none := fun b hb => (p3 b hb).1.1
  show codeAny _ _ (.compStart (.DictComp kx vx [⟨tg, iter, ifs, 0⟩] scope pos) 0 (.ref it) (.ref D) (compEnvC scope (cellsFrom (s3.heap.objs.size + 1) scope.names (cloFrom X.env.cells scope.names [])) s3.heap.objs.size X.env)) (compPost (model X.prog X.w) X.A X.xe use _ (.ref D) s3.heap.objs.size) { s3 with heap := pushCells (s3.heap.push { cls := .type "dict", data := .dict #[] }) scope.names }
  generalize ec : compEnvC scope (cellsFrom (s3.heap.objs.size + 1) scope.names (cloFrom X.env.cells scope.names [])) s3.heap.objs.size X.env = ce at K4 qg qt qk qv ⊢
  have eL : ce.locals = s3.heap.objs.size := by subst ec; rfl
  generalize eG : upd G D (.dT []) = G3 at K3 K4 qg qt qk qv w0 np p3
  generalize e4 : ({ s3 with heap := pushCells (s3.heap.push { cls := .type "dict", data := .dict #[] }) scope.names } : Shared) = s4 at K4 ⊢
  have t4 : tn 0 s4.heap := T.keep _ _ _ t3 fun b _ o y => by subst e4; exact pushCells_keeps _ _ _ _ (Heap.get?_push_of_some _ y)
  have still : ∀ {τ : L2.St} {F : Hp} {s' : Shared}, Inv (X.blk s3 G3 scope ce fp) [] τ F s' → (∀ b ∈ fp, F b = none) → ∀ b ∈ fp, FpOk (X.blk s3 G3 scope ce fp) [] F b := fun {τ F s'} L n b hb =>
    ⟨n b hb, (L.ok.exf b hb).1, L.ok.exfs b hb, .inl hb, fun x c y => (L.ok.exf b hb).2 x c y, fun p hp => absurd (show p ∈ ([] : List (Addr × Obj)) ++ [] from hp) (by simp)⟩
  have go : codeAny (model X.prog X.w) X.A (.compLoop (.DictComp kx vx [⟨tg, iter, ifs, 0⟩] scope pos) 0 (.ref it) (.ref D) ce) (compPost (model X.prog X.w) X.A X.xe use Qf (.ref D) s3.heap.objs.size) s4 := by
    refine compLoop_anyD (fun n s' => ∃ i F, Inv (X.blk s3 G3 scope ce fp) [] (wipe σ (own.map (·.2))) F s' ∧ tn i s'.heap ∧ (∀ b ∈ fp, F b = none) ∧ W i n F) ?_ m0 ⟨0, G3, K4, t4, np, w0⟩
    rintro n s5 ⟨i, F, L, t5, n5, w5⟩
    rcases turn i n F w5 with ⟨stop, qq⟩ | ⟨hgo, Nx, hNx, step⟩
    · refine thnF (T.done (X.blk s3 G3 scope ce fp) rfl rfl rfl hc i [] s5 _ F (fun _ _ => False) L (still L n5) t5 stop) fun r s6 ⟨hr, L6⟩ => ?_
      subst hr
      have M : Inv X pins σ F s6 := K3.call' (ch := fp) L6.os L6.base L6.hok L6.bare fun b hb => ⟨(p3 b hb).1.2.2.2.1, (p3 b hb).1.2.1, (p3 b hb).1.2.2.2.2.1, (p3 b hb).1.2.2.2.2.2⟩
      have nC : F s3.heap.objs.size = none := eL ▸ L6.free
      obtain ⟨m, hn, _⟩ := L6.loc
      have hn' : s6.heap.Ns ce.locals m := hn
      rw [eL] at hn'
      exact hR D s3.heap.objs.size s6 m F M qq hn' (K3.fpOk (Nat.le_refl _) nC)
    · refine thnF (T.item (X.blk s3 G3 scope ce fp) rfl rfl rfl hc i [] s5 _ F (fun _ _ => False) L (still L n5) t5 hgo) fun r s6 ⟨u, hr, h6⟩ => ?_
      subst hr
      refine thnF h6 fun _ s7 ⟨x, F7, L7, r7, y7, t7, n7⟩ => ?_
      have L7' := L7.pinned (still L7 n7) (T.obj _ _ t7)
      refine thnF (qg.run _ s7 _ F7 x u _ L7' r7 (step x F7 y7)) fun _ s8 ⟨τ, F8, L8, hw, q8⟩ => ?_
      refine thnF (qt.run _ s8 τ F8 _ L8 q8) fun c s9 ⟨F9, L9, q9⟩ => ?_
      have fin : ∀ {s' : Shared} {F' : Hp}, Inv (X.blk s3 G3 scope ce fp) ([] ++ pinsAt fp s7.heap) τ F' s' → Nx F' → ∃ m, m < n ∧ ∃ i F', Inv (X.blk s3 G3 scope ce fp) [] (wipe σ (own.map (·.2))) F' s' ∧ tn i s'.heap ∧ (∀ b ∈ fp, F' b = none) ∧ W i m F' := fun {s' F'} L' nx => by
        obtain ⟨m', hm, w'⟩ := hNx F' nx
        have pin : ∀ b ∈ fp, ∀ o, s7.heap.get? b = some o → s'.heap.get? b = some o ∧ F' b = none := fun b hb o y =>
          have z := L'.pin (b, o) (List.mem_append_right _ (List.mem_append_right _ (mem_pinsAt hb y)))
          ⟨z.1, z.2.1⟩
        refine ⟨m', hm, i + 1, F', (L'.unpinned (pins := [])).weak (by rw [← hw, wipe_length]) (fun j v y => ?_), T.keep _ _ _ t7 fun b hb o y => (pin b hb o y).1, fun b hb => ?_, w'⟩
        · rw [← hw] at y
          exact (wipe_some y).1
        · obtain ⟨o, y, _⟩ := T.obj _ _ t7 b hb
          exact (pin b hb o y).2
      cases c with
      | false =>
        simp only [Bool.false_eq_true, if_false] at q9 ⊢
        exact fin L9 q9
      | true =>
        simp only [if_true] at q9 ⊢
        refine thnF (qk.run _ s9 τ F9 _ L9 q9) fun a1 s10 ⟨yk, F10, L10, r10, q10⟩ => ?_
        refine thnF (qv.run _ s10 τ F10 _ L10 q10) fun a2 s11 ⟨yv, F11, L11, r11, es, k, b, ek, hb, hD, hz, nx⟩ => ?_
        subst ek
        cases (show a1 = Value.ref b from r10)
        exact tput (X := X.blk s3 G3 scope ce fp) (by show X.A.units + 1 < cLine; omega) L11 hD hb hz r11 fun s12 L12 => fin L12 nx
  exact codeAny_compStart_dict go (T.self X.A 0 _ _ _ t4 go)
theorem pe_dcT (hu : X.A.units + 64 < cLine) (hc : X.calm = true) (hN : X.N.Nodup) (hi : PI X tg iter src) (ok : BlkOk X.N X.env.scope scope own)
    (hg : ∀ (s : Shared) (G : Hp) (C : Addr) (cl : List (Str × Addr)) (fp : List Addr), PG (X.blk s G scope (compEnvC scope cl C X.env) fp) tg g)
    (ht : ∀ (s : Shared) (G : Hp) (C : Addr) (cl : List (Str × Addr)) (fp : List Addr), PTs (X.blk s G scope (compEnvC scope cl C X.env) fp) ifs tt)
    (hk : ∀ (s : Shared) (G : Hp) (C : Addr) (cl : List (Str × Addr)) (fp : List Addr), PE (X.blk s G scope (compEnvC scope cl C X.env) fp) kx tk)
    (hv : ∀ (s : Shared) (G : Hp) (C : Addr) (cl : List (Str × Addr)) (fp : List Addr), PE (X.blk s G scope (compEnvC scope cl C X.env) fp) vx tv)
    (hs : ∀ x, foldedSetIterable iter X.env x = pure x := by intro _; rfl) : PE X (.DictComp kx vx [⟨tg, iter, ifs, 0⟩] scope pos) (tDcT src g tt tk tv (own.map (·.2))) := by
  refine ⟨fun pins s σ H Q I h => ?_⟩
  rw [arm_eval_DictComp]
  refine dcT_core I hu hc hN hi ok hg ht hk hv hs h fun D C s' m F J q hn f => ⟨m, hn, fun h'' sb => ?_⟩
  obtain ⟨y0, y1, y2, y3, y4, y5⟩ := f
  exact ⟨.ref D, F, J.turned (t' := s'.toks) (fun b o hb z => (sb.2 b hb).trans z) y0 y1 y3 y4 y5, rfl, q⟩
/-- what is stored behind a comprehension's frame -/
theorem dc_store {pins : List (Addr × Obj)} {σ : L2.St} {F : Hp} {s' : Shared} {i : Nat} {y : Str} {py : Pos} {D C : Addr} {m : Str → Option Value} {Ds : Ends} (hN : X.N.Nodup) (hy : X.N[i]? = some y) (hl : X.env.scope.names.lookup y = some .local) (J : Inv X pins σ F s')
    (q : gName i (.ref D) σ F Ds.nx) (hn : s'.heap.Ns C m) (f : FpOk X pins F C) :
    compPost (model X.prog X.w) X.A X.xe (some (assign (.Name y py) X.env)) (fun _ s'' => SP X pins Ds .next s'') (.ref D) C (.ok .next) s' := by
  show wpAny _ _ (assign (.Name y py) X.env (.ref D)) _ _ _
  refine wpAny_assign_Name (store_ok2 (v := V.ref D) J hN hy (.inl hl) rfl (fun s2 J2 ⟨a, sb, ha⟩ => ?_) (.inr hl))
  obtain ⟨y0, y1, y2, y3, y4, y5⟩ := f
  have ne : C ≠ a := by
    rcases ha with z | z
    · rw [z]; exact y1
    · exact fun e => y4 y a z e.symm
  exact ⟨m, hn.sameBut sb ne, fun h3 sb3 => ⟨_, F, J2.turned (t' := s2.toks) (fun b o hb z => (sb3.2 b hb).trans z) y0 y1 y3 y4 y5, q⟩⟩
theorem ps_setDcT {i : Nat} {y : Str} {py spos : Pos} (hy : X.N[i]? = some y) (hl : X.env.scope.names.lookup y = some .local) (hsw : swapsWith (.DictComp kx vx [⟨tg, iter, ifs, 0⟩] scope pos) (some (.Name y py)) spos.line X.env = pure true)
    (hu : X.A.units + 64 < cLine) (hc : X.calm = true) (hN : X.N.Nodup) (hi : PI X tg iter src) (ok : BlkOk X.N X.env.scope scope own)
    (hg : ∀ (s : Shared) (G : Hp) (C : Addr) (cl : List (Str × Addr)) (fp : List Addr), PG (X.blk s G scope (compEnvC scope cl C X.env) fp) tg g)
    (ht : ∀ (s : Shared) (G : Hp) (C : Addr) (cl : List (Str × Addr)) (fp : List Addr), PTs (X.blk s G scope (compEnvC scope cl C X.env) fp) ifs tt)
    (hk : ∀ (s : Shared) (G : Hp) (C : Addr) (cl : List (Str × Addr)) (fp : List Addr), PE (X.blk s G scope (compEnvC scope cl C X.env) fp) kx tk)
    (hv : ∀ (s : Shared) (G : Hp) (C : Addr) (cl : List (Str × Addr)) (fp : List Addr), PE (X.blk s G scope (compEnvC scope cl C X.env) fp) vx tv)
    (hs : ∀ x, foldedSetIterable iter X.env x = pure x := by intro _; rfl) : PS X (.Assign [.Name y py] (.DictComp kx vx [⟨tg, iter, ifs, 0⟩] scope pos) spos) (tAsg (tDcT src g tt tk tv (own.map (·.2))) (gName i)) := by
  refine ⟨fun pins s σ H Ds I h => ?_⟩
  rw [exec_Assign_Name_used _ _ _ _ hsw]
  refine wpAny_bind (wpAny_standAt (wpAny_bind ?_))
  show wpAny _ X.A (do let _ ← comprehension (.DictComp kx vx [⟨tg, iter, ifs, 0⟩] scope pos) scope X.env (firstIterPos [⟨tg, iter, ifs, 0⟩] pos) newDict false (eval iter X.env) (some (assign (.Name y py) X.env))) _ _ s
  have h' : tDcT src g tt tk tv (own.map (·.2)) σ H (fun x G => gName i x σ G Ds.nx) := h
  exact wpAny_bind (thn (dcT_core (Qf := fun _ s' => SP X pins Ds .next s') I hu hc hN hi ok hg ht hk hv hs h' fun D C s' m F J q hn f => dc_store hN hy hl J q hn f) fun _ s' hq => wpAny_pure (wpAny_pure hq))
theorem ps_setDcK {i : Nat} {y : Str} {py spos : Pos} (hy : X.N[i]? = some y) (hl : X.env.scope.names.lookup y = some .local) (hsw : swapsWith (.DictComp kx vx [⟨tg, iter, ifs, 0⟩] scope pos) (some (.Name y py)) spos.line X.env = pure true)
    (hc : X.calm = true) (hN : X.N.Nodup) (hi : PI X tg iter src) (ok : BlkOk X.N X.env.scope scope own)
    (hg : ∀ (s : Shared) (G : Hp) (C : Addr) (cl : List (Str × Addr)) (fp : List Addr), PG (X.blk s G scope (compEnvC scope cl C X.env) fp) tg g)
    (ht : ∀ (s : Shared) (G : Hp) (C : Addr) (cl : List (Str × Addr)) (fp : List Addr), PTs (X.blk s G scope (compEnvC scope cl C X.env) fp) ifs tt)
    (hk : ∀ (s : Shared) (G : Hp) (C : Addr) (cl : List (Str × Addr)) (fp : List Addr), PE (X.blk s G scope (compEnvC scope cl C X.env) fp) kx tk)
    (hv : ∀ (s : Shared) (G : Hp) (C : Addr) (cl : List (Str × Addr)) (fp : List Addr), PE (X.blk s G scope (compEnvC scope cl C X.env) fp) vx tv)
    (hs : ∀ x, foldedSetIterable iter X.env x = pure x := by intro _; rfl) : PS X (.Assign [.Name y py] (.DictComp kx vx [⟨tg, iter, ifs, 0⟩] scope pos) spos) (tAsg (tDc src g tt tk tv (own.map (·.2))) (gName i)) := by
  refine ⟨fun pins s σ H Ds I h => ?_⟩
  rw [exec_Assign_Name_used _ _ _ _ hsw]
  refine wpAny_bind (wpAny_standAt (wpAny_bind ?_))
  show wpAny _ X.A (do let _ ← comprehension (.DictComp kx vx [⟨tg, iter, ifs, 0⟩] scope pos) scope X.env (firstIterPos [⟨tg, iter, ifs, 0⟩] pos) newDict false (eval iter X.env) (some (assign (.Name y py) X.env))) _ _ s
  have h' : tDc src g tt tk tv (own.map (·.2)) σ H (fun x G => gName i x σ G Ds.nx) := h
  exact wpAny_bind (thn (dc_core (Qf := fun _ s' => SP X pins Ds .next s') hc hN I hi ok hg ht hk hv hs h' fun D C s' m F J q hn f => dc_store hN hy hl J q hn f) fun _ s' hq => wpAny_pure (wpAny_pure hq))
theorem sw_trueD {py : Pos} {y : Str} {l : Nat} {gs : List Comprehension} {env : Env} (hk : env.scope.kind = .function) (hy : env.scope.names.lookup y = some .local) (hl : (py.line == pos.line) = true)
    (ha : (scope.names.any fun (n, k) => n == y && (k == .local || k == .cell)) = false) : swapsWith (.DictComp kx vx gs scope pos) (some (.Name y py)) l env = pure true := by
  have e1 : env.kindOf y = some .local := hy
  have e2 : env.blockKind = .function := by unfold Env.blockKind; rw [hk]; rfl
  unfold swapsWith
  simp only [e2, e1, ha, Expr.pos, hl]
  rfl
theorem PE.or {e : Expr} {t t' : TE} (h : PE X e t) (h' : PE X e t') : PE X e (fun σ H Q => t σ H Q ∨ t' σ H Q) := ⟨fun pins s σ H Q I q => q.elim (h.run pins s σ H Q I) (h'.run pins s σ H Q I)⟩
theorem PS.or {st : Stmt} {t t' : TS} (h : PS X st t) (h' : PS X st t') : PS X st (fun D σ H => t D σ H ∨ t' D σ H) := ⟨fun pins s σ H D I q => q.elim (h.run pins s σ H D I) (h'.run pins s σ H D I)⟩
theorem PI.or {tg it : Expr} {t t' : TI} (h : PI X tg it t) (h' : PI X tg it t') : PI X tg it (fun σ H R => t σ H R ∨ t' σ H R) := ⟨fun pins s σ H R I q => q.elim (h.run pins s σ H R I) (h'.run pins s σ H R I)⟩
theorem pi_listK {K : PySem.W.Frag} {tg it : Expr} {tl : TE} (e : X.K = K) (h : PE X it tl) : PI X tg it (iList K tl) := by subst e; exact pi_list h
theorem pi_tupK {K : PySem.W.Frag} {tg it : Expr} {tl : TE} (e : X.K = K) (h : PE X it tl) : PI X tg it (iTup K tl) := by subst e; exact pi_tup h
theorem pa_starK {K : PySem.W.Frag} {e : Expr} {es : List Expr} {te : TE} {t : TA} {p : Pos} (hK : X.K = K) (he : PE X e te) (hr : PA X es t) (hs : starEach (.Starred e p :: es) X.env = (true, eval e X.env) :: starEach es X.env := by rfl) : PA X (.Starred e p :: es) (StX.tStar K te t) := by subst hK; exact StX.pa_star he hr hs
theorem pg_tupK {K : PySem.W.Frag} {es : List Expr} {k n : Nat} {p : Pos} {t : TGs} (hK : X.K = K) (hc : X.calm = true) (h : PGs X es t) (hn : (assignEach es X.env).length = n := by rfl) (hst : (assignEach es X.env).findIdx? (·.1) = none := by rfl) : PG X (.Tuple es k p) (gTup K n t) := by subst hK; exact pg_tup hc h hn hst
end
section
variable {J : It} {n : Nat} {G : Hp → Prop} {Y : Nat → Hp → V → Hp → Prop} {g : TG} {tt : TT} {tk tv : TE} {vs : List Nat} {σ : L2.St} {H1 : Hp} {D : Addr} {Qd : Hp → Prop}
theorem dT_it (w : Walk J n G Y) (Pv : Nat → Hp → Prop) (h0 : Pv 0 (upd H1 D (.dT []))) (hG : ∀ i H, i ≤ n → Pv i H → G H)
    (hs : ∀ i x H H', i < n → Pv i H → Y i H x H' → g x (wipe σ vs) H' fun τ F2 => wipe τ vs = wipe σ vs ∧ tt τ F2 fun c F3 =>
      if c = true then tk τ F3 fun y F4 => tv τ F4 fun z F5 => ∃ es k b, y = .ref b ∧ F5 b = some (.tup (k.map kV)) ∧ F5 D = some (.dT es) ∧ es.length < sizeLine ∧ Pv (i + 1) (upd F5 D (.dT (putK es k z))) else Pv (i + 1) F3) (hd : ∀ H, Pv n H → Qd H) :
    ∃ W : Nat → Nat → Hp → Prop, (∃ m, W 0 m (upd H1 D (.dT []))) ∧ ∀ i m F, W i m F → (J.stop i F ∧ Qd F) ∨ (J.go i F ∧ ∃ Nx : Hp → Prop, (∀ F', Nx F' → ∃ m', m' < m ∧ W (i + 1) m' F') ∧ ∀ x F', J.yld i F x F' → g x (wipe σ vs) F' fun τ F2 => wipe τ vs = wipe σ vs ∧ tt τ F2 fun c F3 =>
      if c = true then tk τ F3 fun y F4 => tv τ F4 fun z F5 => ∃ es k b, y = .ref b ∧ F5 b = some (.tup (k.map kV)) ∧ F5 D = some (.dT es) ∧ es.length < sizeLine ∧ Nx (upd F5 D (.dT (putK es k z))) else Nx F3) := by
  refine ⟨fun i m F => i + m = n ∧ Pv i F, ⟨n, by omega, h0⟩, fun i m F hW => ?_⟩
  obtain ⟨hm, p⟩ := hW
  have q := hG i F (by omega) p
  by_cases lt : i < n
  · exact .inr ⟨w.goes i F lt q, Pv (i + 1), fun F' p' => ⟨m - 1, by omega, by omega, p'⟩, fun x F' y => hs i x F F' lt p (w.yields i F x F' lt q y)⟩
  · obtain rfl : i = n := by omega
    exact .inl ⟨w.stops F q, hd F p⟩
theorem dK_it (w : Walk J n G Y) (Pv : Nat → Hp → Prop) (h0 : Pv 0 (upd H1 D (.dK []))) (hG : ∀ i H, i ≤ n → Pv i H → G H)
    (hs : ∀ i x H H', i < n → Pv i H → Y i H x H' → g x (wipe σ vs) H' fun τ F2 => wipe τ vs = wipe σ vs ∧ tt τ F2 fun c F3 =>
      if c = true then tk τ F3 fun y F4 => tv τ F4 fun z F5 => ∃ es k, y = kV k ∧ F5 D = some (.dK es) ∧ es.length < sizeLine ∧ Pv (i + 1) (upd F5 D (.dK (putK es k z))) else Pv (i + 1) F3) (hd : ∀ H, Pv n H → Qd H) :
    ∃ W : Nat → Nat → Hp → Prop, (∃ m, W 0 m (upd H1 D (.dK []))) ∧ ∀ i m F, W i m F → (J.stop i F ∧ Qd F) ∨ (J.go i F ∧ ∃ Nx : Hp → Prop, (∀ F', Nx F' → ∃ m', m' < m ∧ W (i + 1) m' F') ∧ ∀ x F', J.yld i F x F' → g x (wipe σ vs) F' fun τ F2 => wipe τ vs = wipe σ vs ∧ tt τ F2 fun c F3 =>
      if c = true then tk τ F3 fun y F4 => tv τ F4 fun z F5 => ∃ es k, y = kV k ∧ F5 D = some (.dK es) ∧ es.length < sizeLine ∧ Nx (upd F5 D (.dK (putK es k z))) else Nx F3) := by
  refine ⟨fun i m F => i + m = n ∧ Pv i F, ⟨n, by omega, h0⟩, fun i m F hW => ?_⟩
  obtain ⟨hm, p⟩ := hW
  have q := hG i F (by omega) p
  by_cases lt : i < n
  · exact .inr ⟨w.goes i F lt q, Pv (i + 1), fun F' p' => ⟨m - 1, by omega, by omega, p'⟩, fun x F' y => hs i x F F' lt p (w.yields i F x F' lt q y)⟩
  · obtain rfl : i = n := by omega
    exact .inl ⟨w.stops F q, hd F p⟩
end
end R1

namespace R1
open PySem PySem.Spec PyProof.Rows L2
/-! ### one lemma for every loop and comprehension -/
section
variable {J : It} {n : Nat} {G : Hp → Prop} {Y : Nat → Hp → V → Hp → Prop} {H0 : Hp} {Qd : Hp → Prop} {Body : V → Hp → (Hp → Prop) → Prop}
theorem walk_it (w : Walk J n G Y) (Pv : Nat → Hp → Prop) (h0 : Pv 0 H0) (hG : ∀ i H, i ≤ n → Pv i H → G H)
    (hs : ∀ i x H H', i < n → Pv i H → Y i H x H' → Body x H' (Pv (i + 1))) (hd : ∀ H, Pv n H → Qd H) :
    ∃ W : Nat → Nat → Hp → Prop, (∃ m, W 0 m H0) ∧ ∀ i m F, W i m F → (J.stop i F ∧ Qd F) ∨ (J.go i F ∧ ∃ Nx : Hp → Prop, (∀ F', Nx F' → ∃ m', m' < m ∧ W (i + 1) m' F') ∧ ∀ x F', J.yld i F x F' → Body x F' Nx) := by
  refine ⟨fun i m F => i + m = n ∧ Pv i F, ⟨n, by omega, h0⟩, fun i m F hW => ?_⟩
  obtain ⟨hm, p⟩ := hW
  have q := hG i F (by omega) p
  by_cases lt : i < n
  · exact .inr ⟨w.goes i F lt q, Pv (i + 1), fun F' p' => ⟨m - 1, by omega, by omega, p'⟩, fun x F' y => hs i x F F' lt p (w.yields i F x F' lt q y)⟩
  · obtain rfl : i = n := by omega
    exact .inl ⟨w.stops F q, hd F p⟩
end
/-! ### two lists alike, item by item -/
section
variable {α : Type} {R S : V → α → Prop}
def Al (R : V → α → Prop) (xs : List V) (rs : List α) : Prop := xs.length = rs.length ∧ ∀ (i : Nat) (x : V) (r : α), xs[i]? = some x → rs[i]? = some r → R x r
theorem Al.nil : Al R [] [] := ⟨rfl, fun i x r h => by simp at h⟩
theorem Al.mono {xs : List V} {rs : List α} (h : Al R xs rs) (f : ∀ x r, R x r → S x r) : Al S xs rs := ⟨h.1, fun i x r a b => f x r (h.2 i x r a b)⟩
theorem Al.snoc {xs : List V} {rs : List α} {x : V} {r : α} (h : Al R xs rs) (q : R x r) : Al R (xs ++ [x]) (rs ++ [r]) := by
  refine ⟨by simp [h.1], fun i y t hy ht => ?_⟩
  by_cases lt : i < xs.length
  · rw [List.getElem?_append_left lt] at hy
    rw [List.getElem?_append_left (by rw [← h.1]; exact lt)] at ht
    exact h.2 i y t hy ht
  · rw [List.getElem?_append_right (by omega)] at hy
    rw [List.getElem?_append_right (by rw [← h.1]; omega)] at ht
    rw [h.1] at hy
    have e : i - rs.length = 0 := by
      cases z : i - rs.length with
      | zero => rfl
      | succ k => rw [z] at hy; simp at hy
    rw [e] at hy ht
    cases hy; cases ht
    exact q
theorem Al.at {xs : List V} {rs : List α} (h : Al R xs rs) {i : Nat} {x : V} (hx : xs[i]? = some x) : ∃ r, rs[i]? = some r ∧ R x r := by
  have lt : i < xs.length := by
    by_cases z : i < xs.length
    · exact z
    · rw [List.getElem?_eq_none (by omega)] at hx; cases hx
  have e : rs[i]? = some (rs[i]'(by rw [← h.1]; exact lt)) := List.getElem?_eq_getElem _
  exact ⟨_, e, h.2 i x _ hx e⟩
theorem Al.one {x : V} {r : α} (q : R x r) : Al R [x] [r] := (Al.nil (R := R)).snoc q
end
end R1

namespace R1
open PySem PySem.Spec PyProof.Rows L2
/-! ### len(set(x)), x a list or a tuple of ints, any of them twice -/
def dist (ns : List Int) : List Int := ns.foldl step_dedup []
theorem firstMet_dist (ns : List Int) : firstMet (fun i => ns.getD i 0) ns.length = dist ns := by
  unfold firstMet dist
  congr 1
  apply List.ext_getElem?
  intro i
  rw [List.getElem?_map]
  by_cases h : i < ns.length
  · rw [List.getElem?_range h, List.getElem?_eq_getElem h]
    simp [List.getD, List.getElem?_eq_getElem h]
  · rw [List.getElem?_eq_none (by simpa using h), List.getElem?_eq_none (by omega)]
    rfl
theorem dist_go : ∀ (ns acc : List Int), acc.Nodup → ((ns.foldl step_dedup acc).Nodup ∧ ∀ k, k ∈ ns.foldl step_dedup acc ↔ k ∈ acc ∨ k ∈ ns)
  | [], acc, h => ⟨h, fun k => by simp⟩
  | n :: r, acc, h => by
    show ((r.foldl step_dedup (step_dedup acc n)).Nodup ∧ _)
    by_cases z : acc.any (· == n) = true
    · have e : step_dedup acc n = acc := by unfold step_dedup; rw [if_pos z]
      have m : n ∈ acc := by
        obtain ⟨u, hu, q⟩ := List.any_eq_true.mp z
        rw [← eq_of_beq q]; exact hu
      obtain ⟨a, b⟩ := dist_go r acc h
      refine ⟨by rw [e]; exact a, fun k => ?_⟩
      show k ∈ r.foldl step_dedup (step_dedup acc n) ↔ _
      rw [e, b k, List.mem_cons]
      constructor
      · rintro (q | q)
        · exact .inl q
        · exact .inr (.inr q)
      · rintro (q | q | q)
        · exact .inl q
        · exact .inl (q ▸ m)
        · exact .inr q
    · have e : step_dedup acc n = acc ++ [n] := by unfold step_dedup; rw [if_neg z]
      have m : n ∉ acc := fun hm => z (List.any_eq_true.mpr ⟨n, hm, beq_self_eq_true n⟩)
      have h2 : (acc ++ [n]).Nodup := by
        rw [List.nodup_append]
        refine ⟨h, by simp, fun u hu v hv q => m ?_⟩
        rw [← (by simpa using hv : v = n), ← q]; exact hu
      obtain ⟨a, b⟩ := dist_go r (acc ++ [n]) h2
      refine ⟨by rw [e]; exact a, fun k => ?_⟩
      show k ∈ r.foldl step_dedup (step_dedup acc n) ↔ _
      rw [e, b k, List.mem_append, List.mem_cons]
      simp [or_assoc]
theorem dist_nodup (ns : List Int) : (dist ns).Nodup := (dist_go ns [] List.nodup_nil).1
theorem dist_mem (ns : List Int) (k : Int) : k ∈ dist ns ↔ k ∈ ns := by
  have := (dist_go ns [] List.nodup_nil).2 k
  unfold dist
  simpa using this
section
variable {X : Cx}
def tLenSetX (K : PySem.W.Frag) (ta : TE) : TE := fun σ H Q => ta σ H fun x H1 => ∃ (l : Addr) (ns : List Int), x = V.ref l ∧ (SqL K H1 l (ns.map V.int) ∨ SqT K H1 l (ns.map V.int)) ∧ ns.length ≤ 1000 ∧ Q (.int (dist ns).length) H1
theorem pe_lenSetX {a : Expr} {ta : TE} {p p2 q pos : Pos} (hc : X.calm = true) (hg : Gl X "len") (hm : X.mg "len" = none) (hg2 : Gl X "set") (hm2 : X.mg "set" = none) (ha : PE X a ta)
    (na : starEach [a] X.env = (false, eval a X.env) :: starEach [] X.env := by rfl) : PE X (.Call (.Name "len" p) [.Call (.Name "set" p2) [a] [] q] [] pos) (tLenSetX X.K ta) := by
  refine ⟨fun pins s σ H Q I h => ?_⟩
  refine Call_ (ld_blt I hg hm PySem.boot_len ?_)
  refine PyProof.Rows.callWith_builtin1 (PyProof.Rows.args_cons ?_ rfl) rfl rfl
  refine Call_ (ld_blt I hg2 hm2 PyProof.Rows.boot_set ?_)
  refine PyProof.Rows.callWith_type1 (PyProof.Rows.args_cons (thn (ha.run pins s σ H _ I h) fun v s1 ⟨x, H1, I1, r1, q1⟩ => PyProof.Rows.args_nil ?_) na) na rfl
  obtain ⟨l, ns, rfl, hq, h1, q1⟩ := q1
  cases r1
  rcases hq with hq | hq
  · obtain ⟨its, r, pl, hz⟩ := I1.list hq
    have hl : its.toArray.size = ns.length := by rw [List.size_toArray, ← r.length, List.length_map]
    refine call_set_list (I1.ok.hd hc) pl.isList (ns := ns) (by simpa using r.ints) (by unfold scanBound; omega) fun h' tk hS hk => ?_
    rw [hl, firstMet_dist] at hS
    refine PyProof.Rows.args_nil ?_
    obtain ⟨o, es, ep, t, ho, hex, hd, _, _, hb, hf, hn⟩ := hS
    have hle : (dist ns).length ≤ ns.length := by rw [← firstMet_dist]; exact firstMet_length_le _ _
    have I2 : Inv X pins σ H1 { s1 with heap := h', toks := tk } := I1.kept fun b o e => hk b o (Heap.lt_size e) e
    exact call_len_set ho hex hd hf (by rw [hn] <;> omega) ⟨.int (dist ns).length, H1, I2.tok _, ⟨_, by rw [hn]⟩, q1⟩
  · obtain ⟨its, r, pl, hz⟩ := I1.tuple hq
    refine call_set_tupI ns (I1.ok.hd hc) pl (by simpa using r.ints) (by unfold scanBound; omega) fun h' tk c hS hc' hk => ?_
    refine PyProof.Rows.args_nil ?_
    obtain ⟨o, es, ep, t, ho, hex, hd, _, nd, me, _, hf, hn, _⟩ := hS
    have I2 : Inv X pins σ H1 { s1 with heap := h', toks := tk } := I1.kept fun b o e => hk b o e
    have e1 : (es.toList.map keyOf).length = (dist ns).length := by
      refine ((List.perm_ext_iff_of_nodup nd (dist_nodup ns)).mpr fun k => ?_).length_eq
      rw [← me k, dist_mem, decide_eq_true_eq]
    have hn' : es.size = (dist ns).length := by rw [← e1]; simp
    exact call_len_set ho hex hd hf (by omega) ⟨.int (dist ns).length, H1, I2.tok _, ⟨_, by rw [hn']⟩, q1⟩
/-! ### rules that name X.K, for a comprehension's block -/
theorem tuple_ofK {K : PySem.W.Frag} (hK : X.K = K) : CallR X (.type "tuple") (fun xs H Q => ∃ p ys, xs = [V.ref p] ∧ ((SqL K H p ys ∧ ∀ (l : Addr), H l = none → Q (V.ref l) (upd H l (HO.tup ys))) ∨ SqT K H p ys ∧ Q (V.ref p) H)) := by subst hK; exact call_tuple_of
theorem list_ofK {K : PySem.W.Frag} (hK : X.K = K) : CallR X (.type "list") (fun xs H Q => ∃ p ys, xs = [V.ref p] ∧ (SqL K H p ys ∨ SqT K H p ys) ∧ ∀ l, H l = none → Q (V.ref l) (upd H l (HO.lst ys))) := by subst hK; exact call_list_of
theorem op_catTK {K : PySem.W.Frag} (hK : X.K = K) : OpR X (binaryOp .Add) (rCatT K) := by subst hK; exact op_catT
end
end R1

/-! isinstance(e, C), e a caught error with fields: the answer may be False -/
namespace R1
open PySem PySem.Spec PyProof.Rows L2
def rIsX (K : PySem.W.Frag) (D a : Addr) (cls : Value) (d : Option Addr) : List V → Hp → VK → Prop := fun xs H Q => ∃ (c : Addr) (b : Bool) (dd : Addr) (fs : List (Str × V)), cls = .ref D ∧ d = some dd ∧ H dd = some (.xd fs) ∧ xs = [.ref a, .ref c] ∧ PySem.W.kitOne K (.ref D) (.ref c) = some b ∧ Q (.bl b) H
theorem call_isX {X : Cx} {K : PySem.W.Frag} {a D : Addr} {oe : Obj} {cls : Value} {d : Option Addr} {pn : List (Addr × Obj)} (hK : X.K = K) (C : ExcC K D) (hz : Zc cls d oe) (hf : ∃ vs, oe.data = .fields vs) : CallR (X.suite a ((a, oe) :: pn)) (.builtin "isinstance") (rIsX K D a cls d) := by
  subst hK
  intro pins s σ H xs us Q I r h
  obtain ⟨c, b, dd, fs, rfl, rfl, ea, rfl, e, q⟩ := h
  obtain ⟨u1, u2, rfl, r1, r2⟩ := vals2 r
  cases (show u1 = Value.ref a from r1)
  cases (show u2 = Value.ref c from r2)
  obtain ⟨hget, _⟩ := I.pin (a, oe) (List.mem_append.mpr (.inl List.mem_cons_self))
  obtain ⟨vs, hd⟩ := hf
  have hx : ObjOk X.prog X.w H s.heap dd (.xd fs) := I.hok dd _ ea
  obtain ⟨mA, hns, hr⟩ := hx
  obtain ⟨od, ho, hl⟩ := lookIn_ns hns
  have J : PySem.W.InstAt s.heap a oe D (some od) := ⟨hget, hz.1, by unfold PySem.W.notCls; rw [hd] <;> rfl, by rw [hz.2]; exact ho⟩
  obtain ⟨cd, hc, _⟩ := PySem.W.any_some C.hd
  exact PySem.W.kia_one (PySem.W.kitx_exc (by rw [hc]; rfl) C.hg C.hk C.hs C.ha C.hn C.ht C.hm) I.kIn J e (fun z => nomatch z) fun tk => ⟨.bl b, H, I.tok tk, rfl, q⟩
end R1

namespace R1
open PySem PySem.Spec PyProof.Rows L2
section
variable {K : PySem.W.Frag} {a b : Addr} {xs ys : List V}
theorem walk_zipT {n : Nat} (hn : n = min xs.length ys.length) : Walk (RZ.ItzT K a b) n (fun H => SqT K H a xs ∧ SqT K H b ys) (YPair (fun i => xs[i]?) (fun i => ys[i]?)) := by
  subst hn
  refine ⟨fun i _ hi q => ?_, fun _ q => ⟨xs, ys, q.1, q.2, by omega⟩, fun i H v H' _ q y => ?_⟩
  · have h1 : i < xs.length := by omega
    have h2 : i < ys.length := by omega
    exact ⟨xs, ys, xs[i], ys[i], q.1, q.2, by simp [h1], by simp [h2]⟩
  · obtain ⟨T, x, z, h1, h2, h3, h4, h5⟩ := y
    exact ⟨T, x, z, h1, h2, h3, h4 xs q.1, h5 ys q.2⟩
end
end R1

/-! enumerate(t), t a tuple -/
namespace PySem
open PySem.Spec PyProof.Rows PySem.W
theorem meets_enum1 {v : Value} {o : Obj} {H : Heap → Prop} (B : Begins v o H) :
    Meets (Builtin.«enumerate.__new__» ⟨[.type "enumerate", v], []⟩) (fun _ R s => H s.heap ∧
      R (.ok (.ret (.ref (s.heap.push o).objs.size))) { s with heap := (s.heap.push o).push { cls := .type "enumerate", data := .fields #[.none, .bool false, .ref s.heap.objs.size, rawInt 0, .none, .none] } }) :=
  .of_wp fun prog w A R s h => by
    obtain ⟨hp, g, d, tk, os⟩ := s; obtain ⟨h1, h⟩ := h
    have hsub := sub_enumerate
    have q1 : ∀ {A' : Around} {E : Value → Shared → Prop} {Q : Value → Shared → Prop}, Q (.ref hp.objs.size) ⟨hp.push o, g, d, tk, os⟩ → wpAny (model prog w) A' (pyIter v) Q E ⟨hp, g, d, tk, os⟩ :=
      fun q => B.iter prog w _ _ ⟨hp, g, d, tk, os⟩ _ h1 q
    wp_walk using q1
    refine wpAny_stack_any fun st => wpAny_pure ?_
    split
    · rename_i c _ _ _ _ _
      cases (c == Value.type "enumerate")
      · wp_walk using q1
        exact ⟨_, rfl, h⟩
      · wp_walk using q1
        exact ⟨_, rfl, h⟩
    · wp_walk using q1
      exact ⟨_, rfl, h⟩
section
variable {prog : Program} {w : World} {A : Around} {E : Value → Shared → Prop} {s : Shared}
theorem enum1 {v : Value} {o : Obj} {H : Heap → Prop} {Q : Value → Shared → Prop} (B : Begins v o H) (h1 : H s.heap)
    (h : ∀ h', IsEnum h' (s.heap.objs.size + 1) s.heap.objs.size 0 .none → h'.get? s.heap.objs.size = some o → h'.objs.size = s.heap.objs.size + 2 →
      (∀ b o, s.heap.get? b = some o → h'.get? b = some o) → Q (.ref (s.heap.objs.size + 1)) { s with heap := h' }) :
    wpAny (model prog w) A (call (.type "enumerate") [v]) Q E s := by
  refine callType_new F.called_enumerate (by decide) (F.typeCall_enumerate_1 _) (F.newCall_enumerate_1 _) (fun obj => F.args_object_init_2 obj _) F.entry_enumerate_new
    (meets_enum1 B) ⟨h1, ?_⟩
  have hz : (s.heap.push o).objs.size = s.heap.objs.size + 1 := Heap.size_push ..
  show _ ∧ _
  rw [hz]
  have he : IsEnum ((s.heap.push o).push { cls := .type "enumerate", data := .fields #[.none, .bool false, .ref s.heap.objs.size, rawInt 0, .none, .none] }) (s.heap.objs.size + 1) s.heap.objs.size 0 .none := by
    have := Heap.get?_push_size (s.heap.push o) (o := { cls := .type "enumerate", data := .fields #[.none, .bool false, .ref s.heap.objs.size, rawInt 0, .none, .none] }) rfl
    rw [hz] at this; exact this
  exact ⟨⟨_, he, rfl⟩, h _ he (Heap.get?_push_of_some _ (Heap.get?_push_size _ B.free)) (by rw [Heap.size_push, hz]) fun b o x => Heap.get?_push_of_some _ (Heap.get?_push_of_some _ x)⟩
end
end PySem

namespace PySem
section
variable {prog : Program} {w : World} {A : Around} {E : Value → Shared → Prop} {s : Shared}
theorem enum_endT {e it l : Addr} {i : Nat} {items : Array Value} {old : Value} {Q : Option Value → Shared → Prop} (hh : A.handled = none)
    (he : IsEnum s.heap e it i old) (hit : s.heap.IsTupleIter it l i) (hl : s.heap.IsTuple l items) (hx : items[i]? = none)
    (hQ : ∀ h', Heap.ExtBut it s.heap h' → Q none { s with heap := h' }) : wpAny (model prog w) A (pyNext (.ref e)) Q E s := by
  have hT : s.TypeIs (.ref e) "enumerate" := ⟨_, he, rfl⟩
  unfold pyNext
  refine wpAny_bind (wpAny_attempt (wpAny_callSpecial?_slot (name := Str.ofString "__next__") hT F.slot_enumerate_next
    (wpAny_call_entry F.slot_enumerate_next hT F.entry_enumerate_next ?_ (F.args_enumerate_next_1 _))))
  show wpAny _ _ (field (.ref e) 2 >>= _) _ _ _
  refine wpAny_bind (wpAny_field he rfl (x := .ref it) rfl ?_)
  refine wpAny_bind (wpAny_nextOf_tuple_end hh hit hl hx fun h' x he' hx' => ?_)
  obtain ⟨o, ho, hc⟩ := hx'
  refine wpAny_bind (wpAny_isInstance (T := "StopIteration") (b := true) ⟨o, ho, hc⟩ isSubtype_stop ?_)
  exact wpAny_pure (hQ _ he')
end
end PySem
namespace R1
open PySem PySem.Spec PyProof.Rows L2
def IteT (K : PySem.W.Frag) (a : Addr) : It :=
  ⟨fun i H => ∃ (xs : List V) (x : V), SqT K H a xs ∧ xs[i]? = some x, fun i H v H' => ∃ T x, v = .ref T ∧ H T = none ∧ H' = upd H T (.tup [.int (i : Nat), x]) ∧ ∀ xs, SqT K H a xs → xs[i]? = some x, fun i H => ∃ xs : List V, SqT K H a xs ∧ xs.length ≤ i⟩
theorem turn_enumT {P : Program} {w : World} {K : PySem.W.Frag} {elts : List Expr} {kk : Nat} {tpos : Pos} (a e it : Addr) :
    Turn P w K (.Tuple elts kk tpos) (IteT K a) [e, it] e (fun i h => (∃ old, IsEnum h e it ((i : Nat) : Int) old) ∧ h.IsTupleIter it a i ∧ e ≠ it ∧ a ≠ it ∧ a ≠ e) where
  mem := by simp
  obj := fun i h st b hb => by
    obtain ⟨⟨old, he⟩, ⟨o, ho, hc, hd⟩, _⟩ := st
    have e' : b = e ∨ b = it := by simpa using hb
    rcases e' with z | z
    · rw [z]; exact ⟨_, he, fun v q => nomatch q⟩
    · rw [z]; exact ⟨o, ho, fun v q => by rw [hd] at q; cases q⟩
  keep := fun i h h' st k => let ⟨⟨old, he⟩, hi, hne⟩ := st; ⟨⟨old, k e (by simp) _ he⟩, hi.at fun o q => k it (by simp) o q, hne⟩
  item := by
    intro X hP hw hK hc i pins s σ H E I hf st hg
    subst hP hw hK
    obtain ⟨⟨old, he⟩, hit, hne, hai, hae⟩ := st
    obtain ⟨xs, x, hq, hx⟩ := hg
    obtain ⟨its, rv, p, hz⟩ := I.tuple hq
    obtain ⟨u, hu, ru⟩ := rv.get hx
    have hel : e < s.heap.objs.size := Heap.lt_size he
    have hil : it < s.heap.objs.size := by obtain ⟨_, q, _⟩ := hit; exact Heap.lt_size q
    have hli : i < its.toArray.size := by
      have := rv.length
      have h2 : i < xs.length := by
        by_cases z : i < xs.length
        · exact z
        · rw [List.getElem?_eq_none (by omega)] at hx; cases hx
      simp; omega
    refine wpAny_pyNext_enum_itemD (PySem.Draws.tuple (show X.A.in1.handled = none from I.ok.hd hc) it a hai its.toArray) he ⟨hit, p⟩ hli hne (by simp [hne, Ne.symm hae]) fun x' h' tk hP' ho hst' hT hsz hk => ?_
    have ex : x' = u := by
      rw [List.getElem?_toArray, hu] at hP'
      exact (Option.some.inj hP').symm
    subst ex
    refine ⟨_, rfl, wpAny_letOwnedTupleGo_enum (s := { s with heap := h', toks := tk + 1 }) ho fun h'' he' sb => ?_⟩
    have hT2 : h''.get? s.heap.objs.size = some { cls := .type "tuple", data := .seq #[.int i tk, x'] } := (sb.2 _ (Nat.ne_of_gt hel)).trans hT
    have new : ObjOk X.prog X.w (upd H s.heap.objs.size (.tup [.int (i : Nat), x])) h'' s.heap.objs.size (.tup [.int (i : Nat), x]) :=
      ⟨by show 2 ≤ sizeLine; decide, [.int i tk, x'], .cons ⟨_, rfl⟩ (.cons ru .nil), ⟨_, hT2, rfl, _, rfl⟩⟩
    have I1 : Inv X pins σ (upd H s.heap.objs.size (.tup [.int (i : Nat), x])) { s with heap := h'', toks := tk + 1 } :=
      I.turnedNew (ch := [e, it]) (fun b ob hb q => (sb.2 b (fun z => hb (by simp [z]))).trans (hk b ob (fun z => hb (by simp [z])) (fun z => hb (by simp [z])) q)) hf (Nat.le_refl _) new
    refine ⟨.ref s.heap.objs.size, _, I1, rfl, ⟨_, x, rfl, I.hok.fresh (Nat.le_refl _), rfl, fun ys hy => by rw [I.tuple_inj hy hq]; exact hx⟩, ⟨⟨x', ?_⟩, hst'.1.at fun o q => (sb.2 it (Ne.symm hne)).trans q, hne, hai, hae⟩, fun b hb => ?_⟩
    · have e1 : ((i + 1 : Nat) : Int) = (i : Int) + 1 := by omega
      rw [e1]; exact he'
    · have hb' : b < s.heap.objs.size := by
        have e' : b = e ∨ b = it := by simpa using hb
        rcases e' with z | z
        · rw [z]; exact hel
        · rw [z]; exact hil
      rw [upd_ne (Nat.ne_of_lt hb')]
      exact (hf b hb).1
  done := by
    intro X hP hw hK hc i pins s σ H E I hf st hg
    subst hP hw hK
    obtain ⟨⟨old, he⟩, hit, hne, hai, hae⟩ := st
    obtain ⟨xs, hq, hx⟩ := hg
    obtain ⟨its, rv, p, hz⟩ := I.tuple hq
    obtain ⟨f0, f1, f2, f3, f4, f5⟩ := hf it (by simp)
    have hl := rv.length
    exact enum_endT (I.ok.hd hc) he hit p (by simp; omega) fun h' eb => ⟨rfl, I.turned (t' := s.toks) (fun b o hb q => eb b o hb q) f0 f1 f3 f4 f5⟩
  self := fun A i s Q E st h => let ⟨⟨_, he⟩, _⟩ := st; wpAny_pyIter_enum he h
end R1

namespace R1
open PySem PySem.Spec PyProof.Rows L2
def iEnumT (K : PySem.W.Frag) (ta : TA) : TI := fun σ H R => ta σ H fun vs H1 => ∃ a xs, vs = [.ref a] ∧ SqT K H1 a xs ∧ R (IteT K a) H1
theorem pi_enumT {X : Cx} {e : Expr} {ta : TA} {p pos tpos : Pos} {elts : List Expr} {kk : Nat} (hg : Gl X "enumerate") (hm : X.mg "enumerate" = none) (ha : PA X [e] ta) (hs : starEach [e] X.env = [(false, eval e X.env)] := by rfl) :
    PI X (.Tuple elts kk tpos) (.Call (.Name "enumerate" p) [e] [] pos) (iEnumT X.K ta) := by
  refine ⟨fun pins s σ H R I h => ?_⟩
  refine Call_ (ld_blt I hg hm boot_enumerate (PyProof.Rows.callWith_type1 (thn (ha.run pos pins s σ H _ I h) fun us s1 ⟨vs, H1, I1, r1, q1⟩ => ?_) hs rfl))
  obtain ⟨a, xs, ex, hq, q⟩ := q1
  subst ex
  cases r1 with
  | cons r rr =>
    cases rr
    cases r
    obtain ⟨its, rv, p', hz⟩ := I1.tuple hq
    have hla : a < s1.heap.objs.size := by
      obtain ⟨o, ho, _⟩ := id p'
      exact Heap.lt_size ho
    refine enum1 (begins_tuple a its.toArray) p' fun h' he hit hsz hk => wpAny_pyIter_enum he ?_
    have I2 : Inv X pins σ H1 { s1 with heap := h' } := I1.kept (t' := s1.toks) hk
    refine ⟨s1.heap.objs.size + 1, [s1.heap.objs.size + 1, s1.heap.objs.size], _, _, H1, rfl, I2, turn_enumT a (s1.heap.objs.size + 1) s1.heap.objs.size, ⟨⟨.none, he⟩, ⟨_, hit, rfl, rfl⟩, Nat.succ_ne_self _, Nat.ne_of_lt hla, Nat.ne_of_lt (Nat.lt_succ_of_lt hla)⟩, fun b hb => ?_, q⟩
    have e' : b = s1.heap.objs.size + 1 ∨ b = s1.heap.objs.size := by simpa using hb
    have hle : s1.heap.objs.size ≤ b := by
      rcases e' with z | z
      · rw [z]; exact Nat.le_add_right _ _
      · rw [z]; exact Nat.le_refl _
    exact I1.fpOk hle (I1.hok.fresh hle)
section
variable {K : PySem.W.Frag} {a : Addr} {xs : List V}
theorem walk_enumT : Walk (IteT K a) xs.length (fun H => SqT K H a xs) (YPair (fun i => some (.int (i : Nat))) (fun i => xs[i]?)) := by
  refine ⟨fun i _ hi q => ⟨xs, xs[i], q, by simp [hi]⟩, fun _ q => ⟨xs, q, Nat.le_refl _⟩, fun i H v H' _ q y => ?_⟩
  obtain ⟨T, x, h1, h2, h3, h4⟩ := y
  exact ⟨T, .int (i : Nat), x, h1, h2, h3, rfl, h4 xs q⟩
end
end R1

namespace R1
open PySem PySem.Spec PyProof.Rows L2
section
variable {P : Program} {w : World} {K : PySem.W.Frag} {mg : Str → Option Value} {base : Heap} {CX : CXT} {k : Nat} {f : Addr} {fd : FuncData} {ps : List Str}
/-- one def, two contracts -/
theorem fn_or {sp sp' : Sp} (F : FnOk P w K mg base CX k f fd ps sp) (G : FnOk P w K mg base CX k f fd ps sp') : FnOk P w K mg base CX k f fd ps (fun vs H Q E => sp vs H Q E ∨ sp' vs H Q E) :=
  ⟨fun vs H Q E q => q.elim (F.len vs H Q E) (G.len vs H Q E), fun A outer s H args us vs Q E hr he hb hv hs => hs.elim (F.run A outer s H args us vs Q E hr he hb hv) (G.run A outer s H args us vs Q E hr he hb hv)⟩
end
end R1

namespace R1
open PySem PySem.Spec PyProof.Rows L2
/-! ### what sorted leaves, by the items' own rows -/
section
variable {κ : Type} {R : V → κ → Prop} (enc : κ → PyData)
def sortK (rs : List κ) : List κ := rs.mergeSort (PySem.W.dataLe false enc)
theorem zip_al : ∀ {xs : List V} {rs : List κ}, xs.length = rs.length → (xs.zip rs).map Prod.fst = xs ∧ (xs.zip rs).map Prod.snd = rs
  | [], [], _ => ⟨rfl, rfl⟩
  | x :: xs, r :: rs, h => by
    obtain ⟨a, b⟩ := zip_al (Nat.succ.inj h)
    exact ⟨by rw [List.zip_cons_cons, List.map_cons, a], by rw [List.zip_cons_cons, List.map_cons, b]⟩
theorem sort_al {xs : List V} {rs : List κ} (h : Al R xs rs) : Al R (R0.sortV xs (rs.map enc)) (sortK enc rs) := by
  obtain ⟨e1, e2⟩ := zip_al h.1
  obtain ⟨zs, hzs⟩ : ∃ zs, zs = (xs.zip rs).mergeSort (PySem.W.dataLe false fun z : V × κ => enc z.2) := ⟨_, rfl⟩
  have hz : xs.zip (rs.map enc) = (xs.zip rs).map fun z => (z.1, enc z.2) := by
    rw [List.zip_map_right]
    exact List.map_congr_left fun z _ => rfl
  have hs1 : R0.sortV xs (rs.map enc) = zs.map Prod.fst := by
    unfold R0.sortV
    rw [hz, ← List.map_mergeSort (f := fun z : V × κ => (z.1, enc z.2)) (r := PySem.W.dataLe false fun z : V × κ => enc z.2) (s := PySem.W.dataLe false Prod.snd) (fun a _ b _ => rfl), List.map_map, hzs]
    rfl
  have hs2 : sortK enc rs = zs.map Prod.snd := by
    unfold sortK
    rw [hzs, List.map_mergeSort (r := PySem.W.dataLe false fun z : V × κ => enc z.2) (s := PySem.W.dataLe false enc) (fun a _ b _ => rfl), e2]
  rw [hs1, hs2]
  refine ⟨by simp, fun i x r hx hr => ?_⟩
  rw [List.getElem?_map] at hx hr
  cases e : zs[i]? with
  | none => rw [e] at hx; cases hx
  | some z =>
    rw [e] at hx hr
    obtain rfl : z.1 = x := Option.some.inj hx
    obtain rfl : z.2 = r := Option.some.inj hr
    have hm : z ∈ xs.zip rs := by
      have := List.mem_of_getElem? e
      rw [hzs, List.mem_mergeSort] at this
      exact this
    obtain ⟨j, hj⟩ := List.mem_iff_getElem?.mp hm
    have hj' := List.getElem?_zip_eq_some.mp hj
    exact h.2 j z.1 z.2 hj'.1 hj'.2
end
end R1

/-! list(zip(a, b)), a and b tuples of one length -/
namespace R1
open PySem PySem.Spec PyProof.Rows L2
theorem lt1000 {k : Nat} (h : k ≤ 1000) : k < sizeLine := by
  have : (1000 : Nat) < sizeLine := by decide
  omega
theorem zip_has_no_len : typeLookup (.type "zip") "__len__" = pure none := am_miss_of_fast (by decide +kernel)
theorem zip_has_no_hint : typeLookup (.type "zip") "__length_hint__" = pure none := am_miss_of_fast (by decide +kernel)
section
variable {prog : Program} {w : World} {A : Around} {E : Value → Shared → Prop} {s : Shared} {z TI TO T i1 i2 a b S : Addr} {f : Bool} {oT : Obj} {i n : Nat} {xs ys : Array Value} {x y : Value}
theorem zheld_item {Q : Value → Shared → Prop} (D : ZipApart z TI TO i1 i2 a b) (hz : IsZipHeld s.heap z TI TO T f) (hT : s.heap.get? T = some oT) (ti : IsPair s.heap TI (.ref i1) (.ref i2))
    (t1 : s.heap.IsTupleIter i1 a i) (t2 : s.heap.IsTupleIter i2 b i) (ha : s.heap.IsTuple a xs) (hb : s.heap.IsTuple b ys) (hx : xs[i]? = some x) (hy : ys[i]? = some y)
    (q : ∀ h', IsZipHeld h' z TI TO T true → h'.IsTupleIter i1 a (i + 1) → h'.IsTupleIter i2 b (i + 1) → IsPair h' s.heap.objs.size x y →
      (∀ c o, c ≠ z → c ≠ i1 → c ≠ i2 → s.heap.get? c = some o → h'.get? c = some o) → Q (.ref s.heap.objs.size) { s with heap := h' }) :
    wpAny (model prog w) A (Builtin.«zip.__next__» ⟨[.ref z], []⟩) (fun r s2 => ∃ u, r = .done (.ret u) ∧ Q u s2) E s := by
  show wpAny _ _ (field (.ref z) 2 >>= _) _ _ s
  refine wpAny_bind (wpAny_field hz rfl (x := .bool false) rfl ?_); show wpAny _ _ (field (.ref z) 3 >>= _) _ _ s
  refine wpAny_bind (wpAny_field hz rfl (x := .ref TI) rfl ?_); refine wpAny_bind (wpAny_seqItems ti rfl ?_)
  show wpAny _ _ (Builtin.SmallTypes.ownedTupleIsFree (.ref z) >>= _) _ _ s
  refine wpAny_bind (wpAny_tupleHeld_zip hz hT fun g1 z1 k1 => ?_); simp only [Bool.false_eq_true, if_false]
  refine wpAny_bind ?_; rw [← Array.forIn_toList]; simp only [List.forIn_cons, List.forIn_nil]
  refine wpAny_bind (wpAny_bind (wpAny_holding ?_)); show wpAny _ _ (Builtin.SmallTypes.nextOf (.ref i1) >>= _) _ _ _
  refine wpAny_bind (RZ.nextOf_tuple_item (s := { s with heap := g1 }) (t1.extBut k1.extBut D.i1z) (ha.extBut k1.extBut D.l1z) hx fun g2 t1' k2 => wpAny_pure (wpAny_pure ?_))
  refine wpAny_bind (wpAny_bind (wpAny_holding ?_)); show wpAny _ _ (Builtin.SmallTypes.nextOf (.ref i2) >>= _) _ _ _
  refine wpAny_bind (RZ.nextOf_tuple_item (s := { s with heap := g2 }) ((t2.extBut k1.extBut D.i2z).extBut k2.extBut D.i12.symm) ((hb.extBut k1.extBut D.l2z).extBut k2.extBut D.l2i1) hy fun g3 t2' k3 => wpAny_pure (wpAny_pure (wpAny_pure ?_)))
  show wpAny _ _ (newTuple [x, y] >>= _) _ _ _
  refine wpAny_bind (wpAny_newTuple (wpAny_pure ⟨_, rfl, ?_⟩))
  have e0 : g3.objs.size = s.heap.objs.size := by rw [k3.1, k2.1, k1.1]
  have z3 : IsZipHeld g3 z TI TO T true := k3.extBut _ _ D.i2z.symm (k2.extBut _ _ D.i1z.symm z1)
  have up : ∀ c o, c ≠ z → c ≠ i1 → c ≠ i2 → s.heap.get? c = some o → g3.get? c = some o := fun c o n1 n2 n3 e => k3.extBut _ _ n3 (k2.extBut _ _ n2 (k1.extBut _ _ n1 e))
  have t13 : g3.IsTupleIter i1 a (i + 1) := t1'.extBut k3.extBut D.i12
  have new : IsPair (g3.push { cls := .type "tuple", data := .seq #[x, y] }) g3.objs.size x y := Heap.get?_push_size _ rfl
  show Q (.ref g3.objs.size) _
  rw [e0] at new ⊢
  exact q _ (Heap.get?_push_of_some _ z3) (t13.at fun o e => Heap.get?_push_of_some _ e) (t2'.at fun o e => Heap.get?_push_of_some _ e) new fun c o n1 n2 n3 e => Heap.get?_push_of_some _ (up c o n1 n2 n3 e)
theorem zheld_end {Q : Fin → Shared → Prop} (hh : A.handled = none) (D : ZipApart z TI TO i1 i2 a b) (hz : IsZipHeld s.heap z TI TO T f) (hT : s.heap.get? T = some oT) (ti : IsPair s.heap TI (.ref i1) (.ref i2))
    (t1 : s.heap.IsTupleIter i1 a i) (ha : s.heap.IsTuple a xs) (hx : xs[i]? = none)
    (q : ∀ h' e, (∀ c o, c ≠ z → c ≠ i1 → c ≠ i2 → s.heap.get? c = some o → h'.get? c = some o) → (∃ o, h'.get? e = some o ∧ o.cls = .type "StopIteration") → E (.ref e) { s with heap := h' }) :
    wpAny (model prog w) A (Builtin.«zip.__next__» ⟨[.ref z], []⟩) Q E s := by
  show wpAny _ _ (field (.ref z) 2 >>= _) _ _ s
  refine wpAny_bind (wpAny_field hz rfl (x := .bool false) rfl ?_); show wpAny _ _ (field (.ref z) 3 >>= _) _ _ s
  refine wpAny_bind (wpAny_field hz rfl (x := .ref TI) rfl ?_); refine wpAny_bind (wpAny_seqItems ti rfl ?_)
  show wpAny _ _ (Builtin.SmallTypes.ownedTupleIsFree (.ref z) >>= _) _ _ s
  refine wpAny_bind (wpAny_tupleHeld_zip hz hT fun g1 z1 k1 => ?_); simp only [Bool.false_eq_true, if_false]
  refine wpAny_bind ?_; rw [← Array.forIn_toList]; simp only [List.forIn_cons, List.forIn_nil]
  refine wpAny_bind (wpAny_bind (wpAny_holding ?_)); show wpAny _ _ (Builtin.SmallTypes.nextOf (.ref i1) >>= _) _ _ _
  exact wpAny_bind (RZ.nextOf_tuple_end (s := { s with heap := g1 }) hh (t1.extBut k1.extBut D.i1z) (ha.extBut k1.extBut D.l1z) hx fun g2 e k2 he => q g2 e (fun c o n1 n2 _ v => k2 _ _ n2 (k1.extBut _ _ n1 v)) he)
theorem znext_item {Q : Option Value → Shared → Prop} (D : ZipApart z TI TO i1 i2 a b) (hz : IsZipHeld s.heap z TI TO T f) (hT : s.heap.get? T = some oT) (ti : IsPair s.heap TI (.ref i1) (.ref i2))
    (t1 : s.heap.IsTupleIter i1 a i) (t2 : s.heap.IsTupleIter i2 b i) (ha : s.heap.IsTuple a xs) (hb : s.heap.IsTuple b ys) (hx : xs[i]? = some x) (hy : ys[i]? = some y)
    (q : ∀ h', IsZipHeld h' z TI TO T true → h'.IsTupleIter i1 a (i + 1) → h'.IsTupleIter i2 b (i + 1) → IsPair h' s.heap.objs.size x y →
      (∀ c o, c ≠ z → c ≠ i1 → c ≠ i2 → s.heap.get? c = some o → h'.get? c = some o) → Q (some (.ref s.heap.objs.size)) { s with heap := h' }) :
    wpAny (model prog w) A (pyNext (.ref z)) Q E s := by
  have ty : s.TypeIs (.ref z) "zip" := ⟨_, hz, rfl⟩
  unfold pyNext
  exact wpAny_bind (wpAny_attempt (wpAny_callSpecial?_slot (name := Str.ofString "__next__") ty F.slot_zip_next (wpAny_call_entry F.slot_zip_next ty F.entry_zip_next (zheld_item D hz hT ti t1 t2 ha hb hx hy fun h' c1 c2 c3 c4 c5 => wpAny_pure (q h' c1 c2 c3 c4 c5)) (F.args_zip_next_1 _))))
theorem znext_end {Q : Option Value → Shared → Prop} (hh : A.handled = none) (D : ZipApart z TI TO i1 i2 a b) (hz : IsZipHeld s.heap z TI TO T f) (hT : s.heap.get? T = some oT) (ti : IsPair s.heap TI (.ref i1) (.ref i2))
    (t1 : s.heap.IsTupleIter i1 a i) (ha : s.heap.IsTuple a xs) (hx : xs[i]? = none)
    (q : ∀ h', (∀ c o, c ≠ z → c ≠ i1 → c ≠ i2 → s.heap.get? c = some o → h'.get? c = some o) → Q none { s with heap := h' }) : wpAny (model prog w) A (pyNext (.ref z)) Q E s := by
  have ty : s.TypeIs (.ref z) "zip" := ⟨_, hz, rfl⟩
  unfold pyNext
  refine wpAny_bind (wpAny_attempt (wpAny_callSpecial?_slot (name := Str.ofString "__next__") ty F.slot_zip_next (wpAny_call_entry F.slot_zip_next ty F.entry_zip_next (zheld_end hh D hz hT ti t1 ha hx fun h' e k ⟨o, ho, hc⟩ => ?_) (F.args_zip_next_1 _))))
  exact wpAny_bind (wpAny_isInstance (T := "StopIteration") (b := true) ⟨o, ho, hc⟩ isSubtype_stop (wpAny_pure (q _ k)))
/-- where the iterator stands, i pairs given out -/
structure ZAt (h : Heap) (z TI TO i1 i2 a b : Addr) (i : Nat) : Prop where
  ti : IsPair h TI (.ref i1) (.ref i2)
  t1 : h.IsTupleIter i1 a i
  t2 : h.IsTupleIter i2 b i
  out : (IsZip h z TI TO .none ∧ ∃ u v, IsPair h TO u v) ∨ ∃ T f oT, IsZipHeld h z TI TO T f ∧ h.get? T = some oT ∧ T ≠ z ∧ T ≠ i1 ∧ T ≠ i2 ∧ T ≠ S
/-- the pairs given out -/
structure Prs (h : Heap) (lo : Addr) (xs ys : Array Value) (as : List Addr) : Prop where
  rise : as.Pairwise (· < ·)
  above : ∀ c ∈ as, lo ≤ c
  pair : ∀ (j : Nat) (c : Addr), as[j]? = some c → ∃ x y, xs[j]? = some x ∧ ys[j]? = some y ∧ IsPair h c x y
theorem Prs.there {h : Heap} {lo : Addr} {as : List Addr} (g : Prs h lo xs ys as) {c : Addr} (hc : c ∈ as) : c < h.objs.size := by
  obtain ⟨j, hj⟩ := List.mem_iff_getElem?.mp hc
  obtain ⟨_, _, _, _, e⟩ := g.pair j c hj
  exact Heap.lt_size e
theorem zat_item {Q : Option Value → Shared → Prop} (D : ZipApart z TI TO i1 i2 a b) (Z : ZAt (S := S) s.heap z TI TO i1 i2 a b i) (hS : S < s.heap.objs.size) (ha : s.heap.IsTuple a xs) (hb : s.heap.IsTuple b ys) (hx : xs[i]? = some x) (hy : ys[i]? = some y)
    (q : ∀ h', ZAt (S := S) h' z TI TO i1 i2 a b (i + 1) → IsPair h' s.heap.objs.size x y → (∀ c o, c ≠ z → c ≠ TO → c ≠ i1 → c ≠ i2 → s.heap.get? c = some o → h'.get? c = some o) → Q (some (.ref s.heap.objs.size)) { s with heap := h' }) :
    wpAny (model prog w) A (pyNext (.ref z)) Q E s := by
  have l1 : i1 < s.heap.objs.size := by obtain ⟨_, e, _⟩ := Z.t1; exact Heap.lt_size e
  have l2 : i2 < s.heap.objs.size := by obtain ⟨_, e, _⟩ := Z.t2; exact Heap.lt_size e
  rcases Z.out with ⟨hz, u, v, hO⟩ | ⟨T, f, oT, hz, hT, n1, n2, n3, n4⟩
  · have lz : z < s.heap.objs.size := Heap.lt_size hz
    refine RZ.pyNext_zipT_item D hz Z.ti hO Z.t1 Z.t2 ha hb hx hy fun h' z' o' t1' t2' hN _ k => q h' ⟨k _ _ D.TIz D.TITO D.TIi1 D.TIi2 Z.ti, t1', t2', .inr ⟨s.heap.objs.size, false, _, z', hN, Nat.ne_of_gt lz, Nat.ne_of_gt l1, Nat.ne_of_gt l2, Nat.ne_of_gt hS⟩⟩ hN k
  · refine znext_item D hz hT Z.ti Z.t1 Z.t2 ha hb hx hy fun h' z' t1' t2' hN k => q h' ⟨k _ _ D.TIz D.TIi1 D.TIi2 Z.ti, t1', t2', .inr ⟨T, true, oT, z', k _ _ n1 n2 n3 hT, n1, n2, n3, n4⟩⟩ hN fun c o m1 _ m3 m4 e => k c o m1 m3 m4 e
theorem zat_end {Q : Option Value → Shared → Prop} (hh : A.handled = none) (D : ZipApart z TI TO i1 i2 a b) (Z : ZAt (S := S) s.heap z TI TO i1 i2 a b i) (ha : s.heap.IsTuple a xs) (hb : s.heap.IsTuple b ys) (hx : xs[i]? = none)
    (q : ∀ h', (∀ c o, c ≠ z → c ≠ TO → c ≠ i1 → c ≠ i2 → s.heap.get? c = some o → h'.get? c = some o) → Q none { s with heap := h' }) : wpAny (model prog w) A (pyNext (.ref z)) Q E s := by
  rcases Z.out with ⟨hz, u, v, hO⟩ | ⟨T, f, oT, hz, hT, n1, n2, n3, n4⟩
  · exact RZ.pyNext_zipT_end hh D hz Z.ti hO Z.t1 Z.t2 ha hb (.inl hx) fun h' k => q h' k
  · exact znext_end hh D hz hT Z.ti Z.t1 ha hx fun h' k => q h' fun c o m1 _ m3 m4 e => k c o m1 m3 m4 e
theorem ZAt.keep {h h' : Heap} (Z : ZAt (S := S) h z TI TO i1 i2 a b i) (k : ∀ c o, c ≠ S → h.get? c = some o → h'.get? c = some o) (m1 : z ≠ S) (m2 : TI ≠ S) (m3 : TO ≠ S) (m4 : i1 ≠ S) (m5 : i2 ≠ S) : ZAt (S := S) h' z TI TO i1 i2 a b i :=
  ⟨k _ _ m2 Z.ti, Z.t1.at fun o e => k _ o m4 e, Z.t2.at fun o e => k _ o m5 e, Z.out.elim (fun ⟨hz, u, v, hO⟩ => .inl ⟨k _ _ m1 hz, u, v, k _ _ m3 hO⟩) fun ⟨T, f, oT, hz, hT, n1, n2, n3, n4⟩ => .inr ⟨T, f, oT, k _ _ m1 hz, k _ _ n4 hT, n1, n2, n3, n4⟩⟩
/-- all five cells and the list lie below lo -/
structure ZLow (lo S z TI TO i1 i2 a b : Addr) : Prop where
  fs : S < lo
  fz : z < lo
  fo : TO < lo
  f1 : i1 < lo
  f2 : i2 < lo
  nz : z ≠ S
  nI : TI ≠ S
  nO : TO ≠ S
  n1 : i1 ≠ S
  n2 : i2 ≠ S
  na : a ≠ S
  nb : b ≠ S
theorem zloop {R : Result → Shared → Prop} {lo : Addr} {h1 : Heap} (hh : A.handled = none) (D : ZipApart z TI TO i1 i2 a b) (L : ZLow lo S z TI TO i1 i2 a b) (ex : xs.size = n) (ey : ys.size = n) (hn : n ≤ 1000) (res : Value)
    (hR : ∀ h' acc c as, (∀ d o, d ≠ S → d ≠ z → d ≠ TO → d ≠ i1 → d ≠ i2 → h1.get? d = some o → h'.get? d = some o) → h'.get? S = some { cls := .type "list", dict := none, data := .seq acc c, slots := #[] } → as.length = n → Prs h' lo xs ys as →
      acc.toList = as.map Value.ref → R (.ok (.ret res)) { s with heap := h' }) :
    ∀ (k i : Nat) (h : Heap) (c : Nat) (acc : Array Value) (as : List Addr), n - i = k → i ≤ n → ZAt (S := S) h z TI TO i1 i2 a b i → h.IsTuple a xs → h.IsTuple b ys → (∀ d o, d ≠ S → d ≠ z → d ≠ TO → d ≠ i1 → d ≠ i2 → h1.get? d = some o → h.get? d = some o) →
      h.get? S = some { cls := .type "list", dict := none, data := .seq acc c, slots := #[] } → acc.toList = as.map Value.ref → as.length = i → Prs h lo xs ys as → lo ≤ h.objs.size →
      codeAny (model prog w) A (.builtin "list.extend.loop" ⟨[.ref S, .ref z, res], []⟩) R { s with heap := h } := by
  intro k
  induction k with
  | zero =>
    intro i h c acc as hk hi Z ha hb kp hS hacc hal G hlo
    refine codeAny_builtin PySem.F.entry_extend_loop ?_; rw [Around.under_plainId PySem.F.plain_extend_loop _]
    show wpAny _ A.in1 (pyNext (.ref z) >>= _) _ _ _
    refine wpAny_bind (zat_end (s := { s with heap := h }) (A := A.in1) hh D Z ha hb (Array.getElem?_eq_none (by omega)) fun h' k' => wpAny_pure ?_)
    refine hR h' acc c as (fun d o d0 d1 d2 d3 d4 e => k' d o d1 d2 d3 d4 (kp d o d0 d1 d2 d3 d4 e)) (k' _ _ L.nz.symm L.nO.symm L.n1.symm L.n2.symm hS) (by omega) ⟨G.rise, G.above, fun j d hj => ?_⟩ hacc
    obtain ⟨u, v, e1, e2, e3⟩ := G.pair j d hj
    have ge := G.above d (List.mem_of_getElem? hj)
    exact ⟨u, v, e1, e2, k' d _ (Nat.ne_of_gt (Nat.lt_of_lt_of_le L.fz ge)) (Nat.ne_of_gt (Nat.lt_of_lt_of_le L.fo ge)) (Nat.ne_of_gt (Nat.lt_of_lt_of_le L.f1 ge)) (Nat.ne_of_gt (Nat.lt_of_lt_of_le L.f2 ge)) e3⟩
  | succ k ih =>
    intro i h c acc as hk hi Z ha hb kp hS hacc hal G hlo
    have lt : i < n := by omega
    have hx : xs[i]? = some (xs[i]'(by omega)) := Array.getElem?_eq_getElem _
    have hy : ys[i]? = some (ys[i]'(by omega)) := Array.getElem?_eq_getElem _
    have hsz : acc.size = i := by rw [← Array.length_toList, hacc, List.length_map, hal]
    refine codeAny_builtin PySem.F.entry_extend_loop ?_; rw [Around.under_plainId PySem.F.plain_extend_loop _]
    show wpAny _ A.in1 (pyNext (.ref z) >>= _) _ _ _
    refine wpAny_bind (zat_item (s := { s with heap := h }) (S := S) D Z (Heap.lt_size hS) ha hb hx hy fun h' Z' hN k' => ?_)
    dsimp only at hN k' ⊢
    have hS' := k' S _ L.nz.symm L.nO.symm L.n1.symm L.n2.symm hS
    have up : ∀ d o, d ≠ S → h'.get? d = some o → (h'.update S (Obj.mapSeq (·.push (Value.ref h.objs.size)))).get? d = some o := fun d o hd e => (Heap.get?_update_other _ _ (Ne.symm hd)).trans e
    have lS : S < h.objs.size := Heap.lt_size hS
    show wpAny _ A.in1 (updateSeq S (·.push (Value.ref h.objs.size)) >>= _) _ _ _
    refine wpAny_bind (wpAny_updateSeq hS' rfl (wpAny_pure ⟨plainId_quiet PySem.F.plain_extend_loop _, ih (i + 1) _ _ (acc.push (Value.ref h.objs.size)) (as ++ [h.objs.size]) (by omega) lt (Z'.keep up L.nz L.nI L.nO L.n1 L.n2)
      (ha.at fun o e => up a o L.na (k' a o D.l1z D.l1TO D.l1i1 D.l1i2 e)) (hb.at fun o e => up b o L.nb (k' b o D.l2z D.l2TO D.l2i1 D.l2i2 e)) (fun d o d0 d1 d2 d3 d4 e => up d o d0 (k' d o d1 d2 d3 d4 (kp d o d0 d1 d2 d3 d4 e)))
      (Heap.get?_update_self _ hS' rfl) (by rw [Array.toList_push, hacc, List.map_append]; rfl) (by rw [List.length_append, hal]; rfl) ⟨?_, ?_, ?_⟩ ?_⟩) ?_ ?_)
    · exact List.pairwise_append.mpr ⟨G.rise, List.pairwise_singleton _ _, fun u hu v hv => by rw [List.mem_singleton.mp hv]; exact G.there hu⟩
    · intro u hu
      rcases List.mem_append.mp hu with hu | hu
      · exact G.above u hu
      · rw [List.mem_singleton.mp hu]; exact hlo
    · intro j d hj
      by_cases h1 : j < as.length
      · rw [List.getElem?_append_left h1] at hj
        obtain ⟨u, v, e1, e2, e3⟩ := G.pair j d hj
        have ge := G.above d (List.mem_of_getElem? hj)
        exact ⟨u, v, e1, e2, up d _ (Nat.ne_of_gt (Nat.lt_of_lt_of_le L.fs ge)) (k' d _ (Nat.ne_of_gt (Nat.lt_of_lt_of_le L.fz ge)) (Nat.ne_of_gt (Nat.lt_of_lt_of_le L.fo ge)) (Nat.ne_of_gt (Nat.lt_of_lt_of_le L.f1 ge)) (Nat.ne_of_gt (Nat.lt_of_lt_of_le L.f2 ge)) e3)⟩
      · rw [List.getElem?_append_right (by omega)] at hj
        have e0 : j - as.length = 0 := by
          cases e : j - as.length with
          | zero => rfl
          | succ m => rw [e] at hj; simp at hj
        rw [e0] at hj
        have hd : h.objs.size = d := by simpa using hj
        have hji : j = i := by omega
        subst hd
        subst hji
        exact ⟨_, _, hx, hy, up _ _ (Nat.ne_of_gt lS) hN⟩
    · have e : (h'.update S (Obj.mapSeq (·.push (Value.ref h.objs.size)))).get? h.objs.size = _ := up _ _ (Nat.ne_of_gt lS) hN
      exact Nat.le_trans hlo (Nat.le_of_lt (Heap.lt_size e))
    · rw [hsz]; exact Nat.le_of_lt (lt1000 (by omega))
    · show (acc.push (Value.ref h.objs.size)).size ≤ sizeLine + 1
      rw [Array.size_push, hsz]
      have := lt1000 (show i ≤ 1000 by omega)
      omega
end
end R1

namespace R1
open PySem PySem.Spec PyProof.Rows L2
section
variable {prog : Program} {w : World} {A : Around} {E : Value → Shared → Prop} {s : Shared} {z TI TO i1 i2 a b S : Addr} {n : Nat} {xs ys : Array Value} {u v : Value}
theorem zip_hint (hz : s.TypeIs (.ref z) "zip") {Q : Bool → Shared → Prop} (q : Q true s) : wpAny (model prog w) A (Builtin.List.listLengthHint (.ref z)) Q E s := by
  unfold Builtin.List.listLengthHint
  refine wpAny_bind (wpAny_specialOf hz zip_has_no_len ?_)
  show wpAny _ A (specialOf (Value.ref z) (Str.ofString "__length_hint__") >>= _) _ _ _
  exact wpAny_bind (wpAny_specialOf hz zip_has_no_hint (wpAny_pure q))
def ZKept (S z TO i1 i2 : Addr) (h h' : Heap) : Prop := ∀ d o, d ≠ S → d ≠ z → d ≠ TO → d ≠ i1 → d ≠ i2 → h.get? d = some o → h'.get? d = some o
theorem zextend {R : Result → Shared → Prop} {c0 : Nat} (hh : A.handled = none) (D : ZipApart z TI TO i1 i2 a b) (L : ZLow s.heap.objs.size S z TI TO i1 i2 a b) (hz : IsZip s.heap z TI TO .none) (ti : IsPair s.heap TI (.ref i1) (.ref i2)) (hO : IsPair s.heap TO u v)
    (t1 : s.heap.IsTupleIter i1 a 0) (t2 : s.heap.IsTupleIter i2 b 0) (ha : s.heap.IsTuple a xs) (hb : s.heap.IsTuple b ys) (ex : xs.size = n) (ey : ys.size = n) (hn : n ≤ 1000) (res : Value) (hS : s.heap.get? S = some { cls := .type "list", data := .seq #[] c0 })
    (hR : ∀ h' acc c as, ZKept S z TO i1 i2 s.heap h' → h'.get? S = some { cls := .type "list", dict := none, data := .seq acc c, slots := #[] } → as.length = n → Prs h' s.heap.objs.size xs ys as → acc.toList = as.map Value.ref → R (.ok (.ret res)) { s with heap := h' }) :
    wpAny (model prog w) A.in1 (Builtin.List.listExtendWith (.ref S) (.ref z) res)
      (fun r s' => match r with | .done f => R (.ok f) s' | .again c' => c'.quiet = true ∧ codeAny (model prog w) A c' R s') (fun e s' => R (.error e) s') s := by
  have ty : s.TypeIs (.ref z) "zip" := ⟨_, hz, rfl⟩
  have n1 : Builtin.List.listSameRef (.ref S) (.ref z) = false := by simp [Builtin.List.listSameRef, L.nz.symm]
  have n2 : (Value.type "zip" == Value.type "list") = false := by decide
  have n3 : (Value.type "zip" == Value.type "tuple") = false := by decide
  unfold Builtin.List.listExtendWith
  refine wpAny_bind (wpAny_typeOf ty ?_); simp only [n1, n2, n3, Bool.or_false, Bool.false_eq_true, if_false]
  refine wpAny_bind (wpAny_pyIter_zip hz ?_); refine wpAny_bind (wpAny_holding (zip_hint ty ?_)); simp only [Bool.true_or, if_true]
  refine wpAny_bind (wpAny_rule ?_)
  refine wpAny_bind ?_; show wpAny _ A.in1 (updateSeq S (·.push .none) >>= fun _ => updateSeq S (·.pop)) _ _ s
  refine wpAny_bind (wpAny_updateSeq hS rfl ?_)
  have g2 := Heap.get?_update_self (Obj.mapSeq (·.push Value.none)) hS rfl
  refine wpAny_updateSeq (hz := by seq_fits) g2 rfl ?_
  have g3 := Heap.get?_update_self (Obj.mapSeq (·.pop)) g2 rfl
  have ot : ∀ d o, d ≠ S → s.heap.get? d = some o → ((s.heap.update S (Obj.mapSeq (·.push Value.none))).update S (Obj.mapSeq (·.pop))).get? d = some o := fun d o hd e =>
    (Heap.get?_update_other _ _ (Ne.symm hd)).trans ((Heap.get?_update_other _ _ (Ne.symm hd)).trans e)
  generalize eh : (s.heap.update S (Obj.mapSeq (·.push Value.none))).update S (Obj.mapSeq (·.pop)) = hf at g3 ot ⊢
  have sz : s.heap.objs.size ≤ hf.objs.size := by rw [← eh]; simp [Heap.update]
  have Z0 : ZAt (S := S) s.heap z TI TO i1 i2 a b 0 := ⟨ti, t1, t2, .inl ⟨hz, u, v, hO⟩⟩
  exact wpAny_pure ⟨plainId_quiet PySem.F.plain_extend_loop _, zloop (s := s) (h1 := s.heap) hh D L ex ey hn res (fun h' acc c as kp hS' hl G hacc => hR h' acc c as kp hS' hl G hacc) n 0 hf _ _ [] (Nat.sub_zero _) (Nat.zero_le _) (Z0.keep ot L.nz L.nI L.nO L.n1 L.n2)
    (ha.at fun o e => ot a o L.na e) (hb.at fun o e => ot b o L.nb e) (fun d o d0 _ _ _ _ e => ot d o d0 e) g3 rfl rfl ⟨List.Pairwise.nil, (fun _ h => nomatch h), fun j c hj => by simp at hj⟩ sz⟩
theorem zcall {Q : Value → Shared → Prop} (hh : A.handled = none) (D : ZipApart z TI TO i1 i2 a b) (hz : IsZip s.heap z TI TO .none) (ti : IsPair s.heap TI (.ref i1) (.ref i2)) (hO : IsPair s.heap TO u v)
    (t1 : s.heap.IsTupleIter i1 a 0) (t2 : s.heap.IsTupleIter i2 b 0) (ha : s.heap.IsTuple a xs) (hb : s.heap.IsTuple b ys) (ex : xs.size = n) (ey : ys.size = n) (hn : n ≤ 1000)
    (q : ∀ h' acc c as, (∀ d o, d ≠ z → d ≠ TO → d ≠ i1 → d ≠ i2 → s.heap.get? d = some o → h'.get? d = some o) → h'.get? s.heap.objs.size = some { cls := .type "list", dict := none, data := .seq acc c, slots := #[] } → as.length = n → Prs h' (s.heap.objs.size + 1) xs ys as →
      acc.toList = as.map Value.ref → Q (.ref s.heap.objs.size) { s with heap := h' }) : wpAny (model prog w) A (call (.type "list") [.ref z]) Q E s := by
  have lz : z < s.heap.objs.size := Heap.lt_size hz
  have lI : TI < s.heap.objs.size := Heap.lt_size ti
  have lO : TO < s.heap.objs.size := Heap.lt_size hO
  have l1 : i1 < s.heap.objs.size := by obtain ⟨_, e, _⟩ := t1; exact Heap.lt_size e
  have l2 : i2 < s.heap.objs.size := by obtain ⟨_, e, _⟩ := t2; exact Heap.lt_size e
  have la : a < s.heap.objs.size := by obtain ⟨_, e, _⟩ := id ha; exact Heap.lt_size e
  have lb : b < s.heap.objs.size := by obtain ⟨_, e, _⟩ := id hb; exact Heap.lt_size e
  refine callType_codes (Q₁ := fun obj s2 => obj = .ref s.heap.objs.size ∧ s2 = { s with heap := s.heap.push { cls := .type "list", data := .seq #[] } }) PySem.F.called_list (PySem.F.typeCall_list_1 _) PySem.F.entry_list_init (code_list_new _ ⟨rfl, rfl⟩) fun obj s2 h2 => ?_
  obtain ⟨rfl, rfl⟩ := h2
  have hS : (s.heap.push { cls := .type "list", data := .seq #[] }).get? s.heap.objs.size = some { cls := .type "list", data := .seq #[] } := Heap.get?_push_size _ rfl
  have pz : (s.heap.push { cls := .type "list", data := .seq #[] }).objs.size = s.heap.objs.size + 1 := Heap.size_push ..
  have up : ∀ d o, s.heap.get? d = some o → (s.heap.push { cls := .type "list", data := .seq #[] }).get? d = some o := fun d o e => Heap.get?_push_of_some _ e
  generalize eg : s.heap.push { cls := .type "list", data := .seq #[] } = g at hS pz up ⊢
  refine ⟨⟨_, hS, rfl⟩, PySem.F.args_list_init_2 _ _, ?_⟩
  show wpAny _ _ (do let old ← Builtin.List.listItems (.ref s.heap.objs.size); Builtin.List.listUpdate (.ref s.heap.objs.size) (fun _ => #[]); letGo old.toList.reverse; Builtin.List.listExtendWith (.ref s.heap.objs.size) (.ref z) .none) _ _ _
  refine wpAny_bind ?_; unfold Builtin.List.listItems
  refine wpAny_bind (wpAny_seqItems hS rfl (wpAny_pure ?_))
  show wpAny _ _ (updateSeq s.heap.objs.size (fun _ => #[]) >>= fun _ => letGo (#[] : Array Value).toList.reverse >>= fun _ => Builtin.List.listExtendWith (.ref s.heap.objs.size) (.ref z) .none) _ _ _
  refine wpAny_bind (wpAny_updateSeq hS rfl ?_)
  have hS2 := Heap.get?_update_self (Obj.mapSeq (fun _ => (#[] : Array Value))) hS rfl
  have ot : ∀ d o, d ≠ s.heap.objs.size → g.get? d = some o → (g.update s.heap.objs.size (Obj.mapSeq (fun _ => (#[] : Array Value)))).get? d = some o := fun d o hd e => (Heap.get?_update_other _ _ (Ne.symm hd)).trans e
  have sz2 : (g.update s.heap.objs.size (Obj.mapSeq (fun _ => (#[] : Array Value)))).objs.size = s.heap.objs.size + 1 := by rw [← pz]; simp [Heap.update]
  refine wpAny_bind (wpAny_letGo ?_)
  generalize g.update s.heap.objs.size (Obj.mapSeq (fun _ => (#[] : Array Value))) = g2 at hS2 ot sz2 ⊢
  have k2 : ∀ d o, s.heap.get? d = some o → g2.get? d = some o := fun d o e => ot d o (Nat.ne_of_lt (Heap.lt_size e)) (up d o e)
  refine zextend (A := A.in1) (R := wants (fun r s₂ => r = Value.none ∧ Q (Value.ref s.heap.objs.size) s₂) E) (s := { s with heap := g2 }) (n := n) hh D ⟨?_, ?_, ?_, ?_, ?_, Nat.ne_of_lt lz, Nat.ne_of_lt lI, Nat.ne_of_lt lO, Nat.ne_of_lt l1, Nat.ne_of_lt l2, Nat.ne_of_lt la, Nat.ne_of_lt lb⟩ (k2 _ _ hz) (k2 _ _ ti) (k2 _ _ hO)
    (t1.at fun o e => k2 _ o e) (t2.at fun o e => k2 _ o e) (ha.at fun o e => k2 _ o e) (hb.at fun o e => k2 _ o e) ex ey hn .none hS2 fun h' acc c as kp hS' hl G hacc => ⟨rfl, q h' acc c as (fun d o d1 d2 d3 d4 e => kp d o (Nat.ne_of_lt (Heap.lt_size e)) d1 d2 d3 d4 (k2 d o e)) hS' hl (by rw [← sz2]; exact G) hacc⟩
  all_goals (show _ < g2.objs.size; rw [sz2])
  · exact Nat.lt_succ_self _
  · exact Nat.lt_succ_of_lt lz
  · exact Nat.lt_succ_of_lt lO
  · exact Nat.lt_succ_of_lt l1
  · exact Nat.lt_succ_of_lt l2
end
/-! ### tracked -/
def putP : Hp → List Addr → List (V × V) → Hp
  | H, c :: cs, p :: ps => putP (upd H c (.tup [p.1, p.2])) cs ps
  | H, _, _ => H
theorem putP_off {d : Addr} : ∀ (cs : List Addr) (ps : List (V × V)) (H : Hp), d ∉ cs → putP H cs ps d = H d
  | [], _, _, _ => rfl
  | _ :: _, [], _, _ => rfl
  | c :: cs, p :: ps, H, h => by
    have h2 : d ≠ c ∧ d ∉ cs := ⟨fun e => h (e ▸ List.mem_cons_self), fun e => h (List.mem_cons_of_mem _ e)⟩
    show putP (upd H c (.tup [p.1, p.2])) cs ps d = H d
    rw [putP_off cs ps _ h2.2, upd_ne h2.1]
theorem putP_at : ∀ (cs : List Addr) (ps : List (V × V)) (H : Hp), cs.Nodup → ∀ (j : Nat) (c : Addr) (p : V × V), cs[j]? = some c → ps[j]? = some p → putP H cs ps c = some (.tup [p.1, p.2])
  | [], _, _, _, _, _, _, h, _ => by simp at h
  | _ :: _, [], _, _, _, _, _, _, h => by simp at h
  | c :: cs, p :: ps, H, nd, 0, d, r, h1, h2 => by
    cases h1; cases h2
    show putP (upd H c (.tup [p.1, p.2])) cs ps c = _
    rw [putP_off cs ps _ (List.nodup_cons.mp nd).1, upd_same]
  | c :: cs, p :: ps, H, nd, j + 1, d, r, h1, h2 => putP_at cs ps _ (List.nodup_cons.mp nd).2 j d r (by simpa using h1) (by simpa using h2)
theorem refs_vals : ∀ as : List Addr, Vals (as.map V.ref) (as.map Value.ref)
  | [] => .nil
  | _ :: as => .cons rfl (refs_vals as)
theorem LiI_get : ∀ {vs : List V} {us : List Value}, Vals vs us → ∀ {j : Nat} {u : Value}, us[j]? = some u → ∃ v, vs[j]? = some v ∧ RelV v u
  | _, _, .nil, j, u, h => by simp at h
  | _, _, .cons r t, 0, u, h => by cases h; exact ⟨_, rfl, r⟩
  | _, _, .cons r t, j + 1, u, h => by simpa using LiI_get t (by simpa using h)
section
variable {X : Cx}
theorem zip_laid {pins : List (Addr × Obj)} {σ : L2.St} {H : Hp} {s : Shared} {h' : Heap} {l : Addr} {acc : Array Value} {c tk : Nat} {as : List Addr} {vs ws : List V} {us rs : List Value} (I : Inv X pins σ H s) (rv : Vals vs us) (rw' : Vals ws rs) (hl : as.length ≤ 1000) (hk : ∀ d o, s.heap.get? d = some o → h'.get? d = some o)
    (ll : s.heap.objs.size ≤ l) {lw : Addr} (hlw : l < lw) (hS : h'.get? l = some { cls := .type "list", dict := none, data := .seq acc c, slots := #[] }) (G : Prs h' lw us.toArray rs.toArray as) (hacc : acc.toList = as.map Value.ref) :
    ∃ H' : Hp, Same H H' ∧ H l = none ∧ H' l = some (.lst (as.map V.ref)) ∧ (∀ (j : Nat) (d : Addr) (x y : V), as[j]? = some d → vs[j]? = some x → ws[j]? = some y → H' d = some (.tup [x, y])) ∧ Inv X pins σ H' { s with heap := h', toks := tk } := by
  have nd : as.Nodup := List.Pairwise.imp (fun {d e} (h : d < e) => Nat.ne_of_lt h) G.rise
  have lo : ∀ d ∈ as, s.heap.objs.size ≤ d ∧ d ≠ l := fun d hd => by
    have q : l < d := Nat.lt_of_lt_of_le hlw (G.above d hd)
    exact ⟨Nat.le_of_lt (Nat.lt_of_le_of_lt ll q), Nat.ne_of_gt q⟩
  have nl : H l = none := I.hok.fresh ll
  have nw : ∀ d ∈ as, H d = none := fun d hd => I.hok.fresh (lo d hd).1
  have zl : (vs.zip ws).length = min vs.length ws.length := List.length_zip
  have gz : ∀ (j : Nat) (x y : V), vs[j]? = some x → ws[j]? = some y → (vs.zip ws)[j]? = some (x, y) := fun j x y h1 h2 => List.getElem?_zip_eq_some.mpr ⟨h1, h2⟩
  generalize eH : putP (upd H l (.lst (as.map V.ref))) as (vs.zip ws) = H'
  have off : ∀ d, d ∉ as → d ≠ l → H' d = H d := fun d h1 h2 => by rw [← eH, putP_off as _ _ h1, upd_ne h2]
  have atl : H' l = some (.lst (as.map V.ref)) := by rw [← eH, putP_off as _ _ (fun z => (lo l z).2 rfl), upd_same]
  have att : ∀ (j : Nat) (d : Addr) (x y : V), as[j]? = some d → vs[j]? = some x → ws[j]? = some y → H' d = some (.tup [x, y]) := fun j d x y h1 h2 h3 => by
    rw [← eH]; exact putP_at as _ _ nd j d (x, y) h1 (gz j x y h2 h3)
  have kp : Same H H' := fun d o e => by
    rw [off d (fun z => by rw [nw d z] at e; cases e) (fun z => by rw [z, nl] at e; cases e)]; exact e
  refine ⟨H', kp, nl, atl, att, I.call' (ch := []) rfl ⟨fun d o e _ _ _ => hk d o e, fun d o e _ _ _ => ⟨o.slots, hk d o e⟩, fun d o e n _ => ?_, fun d o e _ => ⟨o, hk d o e⟩, fun d r e => kp d _ e, fun d o r e => kp d _ e, fun d r e => ⟨#[], by rw [kp d _ e]; simp⟩⟩ (fun d o e => ?_) I.bare fun d z => by simp at z⟩
  · have q := Heap.lt_size e
    rw [off d (fun z => absurd q (Nat.not_lt.mpr (lo d z).1)) (fun z => absurd q (Nat.not_lt.mpr (z ▸ ll)))]; exact n
  · by_cases hd : d ∈ as
    · obtain ⟨j, hj⟩ := List.mem_iff_getElem?.mp hd
      obtain ⟨x, y, e1, e2, e3⟩ := G.pair j d hj
      obtain ⟨p, hp, rp⟩ := LiI_get rv (by simpa using e1)
      obtain ⟨r, hr, rr⟩ := LiI_get rw' (by simpa using e2)
      rw [att j d p r hj hp hr] at e
      cases e
      exact ⟨by show 2 ≤ sizeLine; decide, [x, y], .cons rp (.cons rr .nil), ⟨_, e3, rfl, _, rfl⟩⟩
    · by_cases h2 : d = l
      · subst h2
        rw [atl] at e
        cases e
        refine ⟨by rw [List.length_map]; exact Nat.le_of_lt (lt1000 hl), acc.toList, c, by rw [hacc]; exact refs_vals as, ?_⟩
        rw [Array.toArray_toList]; exact hS
      · rw [off d hd h2] at e
        exact (I.hok d o e).stay (fun g v _ y => hk g v y) (fun g y => kp g _ y) fun g r y => kp g _ y
def tListZip (K : PySem.W.Frag) (ta : TA) : TE := fun σ H Q => ta σ H fun vs H1 => ∃ a b xs ys, vs = [.ref a, .ref b] ∧ SqT K H1 a xs ∧ SqT K H1 b ys ∧ xs.length = ys.length ∧ xs.length ≤ 1000 ∧
  ∀ (H2 : Hp) (l : Addr) (as : List Addr), Same H1 H2 → H1 l = none → as.length = xs.length → H2 l = some (.lst (as.map V.ref)) → (∀ (j : Nat) (d : Addr) (x y : V), as[j]? = some d → xs[j]? = some x → ys[j]? = some y → H2 d = some (.tup [x, y])) → Q (.ref l) H2
theorem pe_listZip {e e2 : Expr} {ta : TA} {p p2 pos pos2 : Pos} (hc : X.calm = true) (hg : Gl X "list") (hm : X.mg "list" = none) (hg2 : Gl X "zip") (hm2 : X.mg "zip" = none) (ha : PA X [e, e2] ta)
    (na : starEach [.Call (.Name "zip" p2) [e, e2] [] pos2] X.env = (false, eval (.Call (.Name "zip" p2) [e, e2] [] pos2) X.env) :: starEach [] X.env := by rfl)
    (hs : starEach [e, e2] X.env = (false, eval e X.env) :: starEach [e2] X.env := by rfl) (hpl : (backTo pos2 (starEach [e2] X.env)).any (·.1) = false := by rfl) :
    PE X (.Call (.Name "list" p) [.Call (.Name "zip" p2) [e, e2] [] pos2] [] pos) (tListZip X.K ta) := by
  refine ⟨fun pins s σ H Q I h => ?_⟩
  refine Call_ (ld_blt I hg hm PyProof.Rows.boot_list ?_)
  refine PyProof.Rows.callWith_type1 (PyProof.Rows.args_cons ?_ na) na rfl
  refine Call_ (ld_blt I hg2 hm2 PyProof.Rows.boot_zip (PyProof.Rows.callWith_type1 (thn (ha.run pos2 pins s σ H _ I h) fun us s1 ⟨vs, H1, I1, r1, q1⟩ => ?_) hs hpl))
  obtain ⟨a, b, xs, ys, rfl, hqx, hqy, hl, hl2, q⟩ := q1
  obtain ⟨u1, u2, rfl, e1, e2⟩ := vals2 r1
  obtain rfl : u1 = Value.ref a := e1
  obtain rfl : u2 = Value.ref b := e2
  obtain ⟨its, rv, p1, _⟩ := I1.tuple hqx
  obtain ⟨its2, rv2, p2', _⟩ := I1.tuple hqy
  obtain ⟨o1, ho1, _⟩ := id p1
  obtain ⟨o2, ho2, _⟩ := id p2'
  have y1 := rv.length
  have y2 := rv2.length
  refine RZ.call_zipT (show s1.heap.IsTuple a its.toArray from p1) (show s1.heap.IsTuple b its2.toArray from p2') fun h' hz hTI hTO h1 h2 hsz hk => ?_
  refine PyProof.Rows.args_nil ?_
  refine zcall (s := { s1 with heap := h' }) (n := xs.length) (xs := its.toArray) (ys := its2.toArray) (I1.ok.hd hc) (PySem.W.ktu_apart s1.heap.objs.size a b (Heap.lt_size ho1) (Heap.lt_size ho2)) hz hTI hTO h1 h2 (let ⟨o, ho, r⟩ := p1; ⟨o, hk a o ho, r⟩) (let ⟨o, ho, r⟩ := p2'; ⟨o, hk b o ho, r⟩) (by rw [List.size_toArray]; omega) (by rw [List.size_toArray]; omega) hl2 fun h3 acc c as k3 hS hal G hacc => ?_
  have I2 : Inv X pins σ H1 { s1 with heap := h' } := I1.kept (t' := s1.toks) hk
  have ne : ∀ d o, s1.heap.get? d = some o → h3.get? d = some o := fun d o e => by
    have q := Heap.lt_size e
    have nq : ∀ m : Nat, d ≠ s1.heap.objs.size + m := fun m z => absurd q (Nat.not_lt.mpr (z ▸ Nat.le_add_right _ _))
    exact k3 d o (nq 4) (nq 3) (nq 0) (nq 1) (hk d o e)
  obtain ⟨H2, sm, n0, at0, att, J⟩ := zip_laid (tk := s1.toks) I1 rv rv2 (by omega) ne (by rw [hsz]; omega) (Nat.lt_succ_self _) hS G hacc
  exact ⟨.ref h'.objs.size, H2, J, rfl, q H2 _ as sm n0 hal at0 att⟩
end
end R1

/-! text * int, the int any count -/
namespace R1
open PySem PySem.Spec PyProof.Rows L2
def repT (n : Nat) (z : List Nat) : List Nat := (List.replicate n z).flatten
theorem rep_fold (z : Array Nat) : ∀ (n : Nat) (b : Array Nat), ((List.replicate n z).foldl (· ++ ·) b).toList = b.toList ++ (List.replicate n z.toList).flatten
  | 0, b => by simp
  | n + 1, b => by
    rw [List.replicate_succ, List.foldl_cons, rep_fold z n, Array.toList_append, List.replicate_succ, List.flatten_cons, List.append_assoc]
theorem rep_len (z : List Nat) : ∀ n : Nat, (repT n z).length = n * z.length
  | 0 => by simp [repT]
  | n + 1 => by
    have := rep_len z n
    unfold repT at *
    rw [List.replicate_succ, List.flatten_cons, List.length_append, this, Nat.add_mul]
    omega
theorem op_rep {X : Cx} : OpR X (binaryOp .Mult) (fun x y H Q => ∃ (z : List Nat) (n : Nat), x = .str ⟨z.toArray⟩ ∧ y = .int n ∧ n ≤ 1000 ∧ 1 ≤ z.length ∧ z.length ≤ 1000 ∧ Q (.str ⟨(repT n z).toArray⟩) H) := by
  intro pins s σ H x y v u Q I rx ry h
  obtain ⟨z, n, rfl, rfl, h2, h3, h4, q⟩ := h
  obtain ⟨t, rfl⟩ := rx
  obtain ⟨t', rfl⟩ := ry
  have ez : (⟨z.toArray⟩ : Str).length = z.length := by show z.toArray.size = _; simp
  have e24 : sizeLine = 16777216 := by decide
  have hm : z.length * n ≤ 1000 * 1000 := Nat.mul_le_mul h4 h2
  refine PySem.P.mul_str ?_ (fun h1 _ => ?_) (fun _ _ => ?_) ?_
  · rw [decide_eq_false (by omega), decide_eq_false (by omega)]
    rfl
  · have : (1000 : Int) ≤ (2 ^ 63 - 1) / (n : Int) := by
      rw [Int.le_ediv_iff_mul_le (by omega)]
      omega
    rw [ez]
    omega
  · refine decide_eq_false ?_
    rw [e24, ez, Int.toNat_natCast]
    omega
  · have fin : ∀ s' : Shared, s' = { s with toks := s.toks + 1 } → EP X pins σ Q (.str ⟨(repT n z).toArray⟩ s.toks) s' := fun s' e => by
      subst e
      exact ⟨.str ⟨(repT n z).toArray⟩, H, I.tok _, ⟨_, rfl⟩, q⟩
    by_cases h0 : n = 0
    · subst h0
      rw [if_pos (by decide)]
      exact ⟨by decide, fin _ rfl⟩
    · rw [if_neg (by omega)]
      by_cases h1 : n = 1
      · subst h1
        rw [if_pos (by rfl)]
        have e1 : repT 1 z = z := by simp [repT]
        rw [e1] at q
        exact ⟨.str ⟨z.toArray⟩, H, I, ⟨_, rfl⟩, q⟩
      · have c1 : ((n : Int) == 1 || (⟨z.toArray⟩ : Str).length == 0) = false := by
          rw [Bool.or_eq_false_iff, ez]
          exact ⟨by rw [beq_eq_false_iff_ne]; omega, by rw [beq_eq_false_iff_ne]; omega⟩
        rw [c1, if_neg Bool.false_ne_true]
        have eq : (⟨(List.replicate (n : Int).toNat (⟨z.toArray⟩ : Str).cps).foldl (· ++ ·) #[]⟩ : Str) = ⟨(repT n z).toArray⟩ := by
          congr 1
          apply Array.toList_inj.mp
          rw [rep_fold, Int.toNat_natCast]
          simp [repT]
        rw [eq]
        refine ⟨?_, fin _ rfl⟩
        show (repT n z).toArray.size ≤ sizeLine
        rw [e24, List.size_toArray, rep_len, Nat.mul_comm]
        omega
end R1

/-! t[::-1], t a tuple -/
namespace R1
open PySem PySem.Spec PyProof.Rows L2 HT
section
variable {prog : Program} {w : World} {A : Around} {E : Value → Shared → Prop} {s : Shared}
theorem adjust_rev (n : Nat) : Builtin.Slice.sliceAdjust none none (-1) (n : Int) = ((n : Int) - 1, -1) := by
  unfold Builtin.Slice.sliceAdjust
  simp
theorem places_rev (n : Nat) : Builtin.Slice.slicePlaces ((n : Int) - 1) (-1) (-1) = n := by
  unfold Builtin.Slice.slicePlaces
  have h1 : ¬ ((-1 : Int) > 0) := by decide
  simp only [h1, if_false]
  split
  · rw [show (-(-1 : Int)) = 1 by decide, Int.ediv_one]
    omega
  · omega
theorem applied_rev {sl : Addr} {v : Value} {n : Nat} {Q : Int × Int × Nat → Shared → Prop} (hs : s.heap.IsSliceOf sl .none .none v) (p : IsPart v (some (-1))) (q : Q ((n : Int) - 1, -1, n) s) : wpAny (model prog w) A (Builtin.Slice.sliceApplied (.ref sl) (pure (n : Int))) Q E s := by
  obtain ⟨os, hos, hcs, hds⟩ := id hs
  unfold Builtin.Slice.sliceApplied Builtin.Slice.sliceFields
  refine wpAny_bind (wpAny_bind (wpAny_field hos hds (x := .none) rfl (wpAny_bind (wpAny_field hos hds (x := .none) rfl (wpAny_bind (wpAny_field hos hds (x := v) rfl (wpAny_pure ?_)))))))
  refine wpAny_bind (slicePart_ p ?_)
  show wpAny _ _ (if ((-1 : Int) == 0) = true then _ else _) _ _ s
  rw [if_neg (by decide)]
  refine wpAny_bind (slicePart_none (wpAny_bind (slicePart_none (wpAny_bind (wpAny_pure ?_)))))
  show wpAny _ _ (match Builtin.Slice.sliceAdjust none none (-1) (n : Int) with | (l, u) => pure (l, (-1 : Int), Builtin.Slice.slicePlaces l u (-1))) _ _ s
  rw [adjust_rev n]
  show wpAny _ _ (pure ((n : Int) - 1, (-1 : Int), Builtin.Slice.slicePlaces ((n : Int) - 1) (-1) (-1))) _ _ s
  rw [places_rev]
  exact wpAny_pure q
theorem pick_rev (xs : Array Value) : ((List.range xs.size).filterMap fun (m : Nat) => xs[(((xs.size : Int) - 1) + (m : Int) * (-1)).toNat]?).toArray = xs.toList.reverse.toArray := by
  congr 1
  have e : (fun (m : Nat) => xs[(((xs.size : Int) - 1) + (m : Int) * (-1)).toNat]?) = fun m => xs[xs.size - 1 - m]? := by
    funext m
    have : (((xs.size : Int) - 1) + (m : Int) * (-1)).toNat = xs.size - 1 - m := by omega
    rw [this]
  rw [e]
  have f : (List.range xs.size).filterMap (fun m => xs[xs.size - 1 - m]?) = ((List.range xs.size).map fun k => xs.size - 1 - k).filterMap (xs[·]?) := by
    rw [List.filterMap_map]; rfl
  rw [f, PySem.W.krv_range, List.filterMap_reverse, PySem.W.krv_all]
theorem getItem_rev {t sl : Addr} {items : Array Value} {v : Value} {Q : Value → Shared → Prop} (ht : IsTup s.heap t items) (hs : s.heap.IsSliceOf sl .none .none v) (p : IsPart v (some (-1)))
    (h : Q (.ref s.heap.objs.size) { s with heap := s.heap.push { cls := .type "tuple", data := .seq items.toList.reverse.toArray } }) (hz : items.size ≤ sizeLine) : wpAny (model prog w) A (getItem (.ref t) (.ref sl)) Q E s := by
  have hz2 : sizeOk (.seq items.toList.reverse.toArray) := by
    show items.toList.reverse.toArray.size ≤ sizeLine
    rw [List.size_toArray, List.length_reverse, Array.length_toList]; exact hz
  obtain ⟨os, hos, hcs, hds⟩ := id hs
  have ty : s.TypeIs (.ref sl) "slice" := ⟨os, hos, hcs⟩
  unfold getItem
  try with_reducible refine wpAny_holding ?_
  first | refine wpAny_bind (wpAny_pure ?_) | skip
  refine wpAny_bind (wpAny_sequenceKey ht.typeIs (by decide) ?_)
  refine wpAny_bind (wpAny_callSpecial?_slot (name := Str.ofString "__getitem__") ht.typeIs PyProof.Rows.slot_tuple_getitem (wpAny_call_entry PyProof.Rows.slot_tuple_getitem ht.typeIs entry_tuple_getitem ?_ (args_tuple_getitem _ _)))
  show wpAny _ _ (Builtin.Tuple.tupleItemsOf (.ref t) >>= _) _ _ s
  refine wpAny_bind (tupleItemsOf_ ht ?_)
  refine wpAny_bind (wpAny_typeOf ty ?_)
  rw [if_pos (by decide)]
  refine wpAny_bind (applied_rev hs p ?_)
  have hno : ¬ ((((items.size : Int) - 1) == 0 && (-1 : Int) == 1 && items.size == items.size) = true) := by
    rw [show ((-1 : Int) == 1) = false from by decide]
    simp
  show wpAny _ _ (if (((items.size : Int) - 1) == 0 && (-1 : Int) == 1 && items.size == items.size) = true then _ else _) _ _ s
  rw [if_neg hno, pick_rev]
  first
    | exact wpAny_bind (m := Builtin.Tuple.tupleExact _) (wpAny_newObj_type (wpAny_pure ⟨_, rfl, wpAny_pure h⟩) hz2)
    | exact wpAny_bind (m := Builtin.Tuple.tupleExact _) (wpAny_newObj_type (wpAny_bind (wpAny_pure (wpAny_pure ⟨_, rfl, wpAny_pure h⟩))) hz2)
    | exact wpAny_bind (wpAny_bind (m := Builtin.Tuple.tupleExact _) (wpAny_newObj_type (wpAny_pure (wpAny_pure ⟨_, rfl, wpAny_pure h⟩)) hz2))
    | exact wpAny_bind (wpAny_bind (m := Builtin.Tuple.tupleExact _) (wpAny_newObj_type (wpAny_pure ⟨_, rfl, wpAny_pure h⟩) hz2))
end
def tRevT (K : PySem.W.Frag) (te : TE) : TE := fun σ H Q => te σ H fun x H1 => ∃ a xs, x = .ref a ∧ SqT K H1 a xs ∧ ∀ p, H1 p = none → Q (.ref p) (upd H1 p (.tup xs.reverse))
theorem pe_revT {X : Cx} {e : Expr} {te : TE} {k : Nat} {p1 p2 p3 pos : Pos} (he : PE X e te) : PE X (.Subscript e (.Slice none none (some (.UnaryOp .USub (.Constant (.int 1) k p1) p2)) p3) pos) (tRevT X.K te) := by
  refine ⟨fun pins s σ H Q I h => Subscript_ (thn (he.run pins s σ H _ I h) fun v s1 ⟨x, H1, I1, r1, a, xs, ex, hx, q⟩ => ?_)⟩
  subst ex
  cases r1
  have ps : PO X (some (.UnaryOp .USub (.Constant (.int 1) k p1) p2)) (tPart (tUn (rU fun i => .int (-i)) (tC (.int 1)))) := po_some (pe_un un_neg pe_int)
  refine wpAny_Slice (thn (po_none.run pins s1 σ H1 (fun o F => o = none ∧ F = H1) I1 ⟨rfl, rfl⟩) fun vl s2 ⟨l, H2, I2, pl, el, e2⟩ => ?_)
  subst el e2
  refine thn (po_none.run pins s2 σ H2 (fun o F => o = none ∧ F = H2) I2 ⟨rfl, rfl⟩) fun vu s3 ⟨u, H3, I3, pu, eu, e3⟩ => ?_
  subst eu e3
  refine thn (ps.run pins s3 σ H3 (fun o F => o = some (-1) ∧ F = H3) I3 ⟨1, rfl, -1, rfl, rfl, rfl⟩) fun vs s4 ⟨o, H4, I4, pp, eo, e4⟩ => ?_
  subst eo e4
  cases pl
  cases pu
  have J : Inv X pins σ H4 { s4 with heap := s4.heap.push { cls := .type "slice", data := .fields #[.none, .none, vs] } } := I4.kept (t' := s4.toks) fun b ob q => Heap.get?_push_of_some _ q
  obtain ⟨its, r, ht, hz⟩ := J.tuple hx
  have hl := r.length
  show wpAny (model X.prog X.w) X.A (subscriptTail e (.Slice none none (some (.UnaryOp .USub (.Constant (.int 1) k p1) p2)) p3) (.ref a) (.ref s4.heap.objs.size)) (EP X pins σ Q) X.xe { s4 with heap := s4.heap.push { cls := .type "slice", data := .fields #[.none, .none, vs] } }
  refine tail_any (ops := [.ref a, .ref s4.heap.objs.size]) ht.typeIs (PyProof.Rows.slot_tuple_getitem.lookup) ?_ (by with_unfolding_all rfl)
  refine getItem_rev ht (Heap.IsSliceOf.new _ .none .none vs) pp ?_ (by rw [List.size_toArray]; omega)
  refine ⟨.ref _, _, J.laid (t' := s4.toks) (o := .tup xs.reverse) (fun b ob q => Heap.get?_push_of_some _ q) (Nat.le_refl _) ?_, rfl, q _ (J.hok.fresh (Nat.le_refl _))⟩
  exact ⟨by rw [List.length_reverse]; exact hz, _, r.reverse, IsTup.new _ _⟩
end R1

/-! dict(d), a copy -/
namespace R1
open PySem PySem.Spec PyProof.Rows L2
theorem call_dict_of {X : Cx} : CallR X (.type "dict") (fun xs H Q => ∃ (a : Addr) (kvs : List (Key × V)), xs = [.ref a] ∧ H a = some (.dK kvs) ∧ ∀ p, H p = none → Q (.ref p) (upd H p (.dK kvs))) := by
  intro pins s σ H xs us Q I r h
  obtain ⟨a, kvs, rfl, ha, q⟩ := h
  obtain ⟨u, rfl, rx⟩ := vals1 r
  cases rx
  exact d_copyOf I (.inl ha) fun p s' np J => ⟨.ref p, _, J, rfl, q p np⟩
end R1

/-! C.m(..), m a staticmethod of the class at C -/
namespace R1
open PySem PySem.Spec PyProof.Rows L2 ClX
structure SMet (K : PySem.W.Frag) (C : Addr) (mc : Value) (m : Str) (p g : Addr) : Prop where
  at_ : PySem.W.findCls K (.ref C) mc m = some (.get (.builtin "staticmethod.__get__") (.ref p) .none (.ref C))
  rc : ∃ rest, PySem.W.recIn K p "staticmethod" = some (.ref g :: rest)
  kp : PySem.W.keepIn K (.ref g) = true
section
variable {X : Cx} {pins : List (Addr × Obj)} {σ : L2.St} {H : Hp} {s : Shared} {C p g : Addr} {mc : Value} {m : Str} {A : Around} {E : Value → Shared → Prop}
theorem getmethsm_ok {pl : Sem Bool} {Q : Value × List Value → Shared → Prop} (I : Inv X pins σ H s) (r : CRead X.K C mc) (k : SMet X.K C mc m p g) (h : ∀ s', Inv X pins σ H s' → Q (.ref g, []) s') : wpAny (model X.prog X.w) A (getMethod (.ref C) m pl) Q E s := by
  obtain ⟨rest, hp⟩ := k.rc
  refine PySem.W.method_cls I.kIn r.ga (PySem.W.cls_bind I.kIn r.rd k.at_ (wpAny_call (PySem.W.sm_get (s := { s with toks := s.toks + 1 }) I.kIn hp (PySem.W.handed_on rfl ?_))))
  exact h _ (I.tok _)
end
def tSMeth (C : Addr) (sp : Sp) (E : XK) (ta : TE) (t : TA) : TE := fun σ H Q => ta σ H fun x H1 => x = .ref C ∧ t σ H1 fun vs H2 => sp vs H2 Q E
section
variable {X : Cx} {CX : CXT} {k : Nat} {C p g : Addr} {mc : Value} {sp : Sp} {E : XK} {o e : Expr} {es : List Expr} {f m : Str} {pos apos : Pos} {ta : TE} {t : TA} {pl : Sem Bool}
theorem pe_smeth (he : PE X o ta) (r : CRead X.K C mc) (c : SMet X.K C mc m p g) (F : FnR X.prog X.w X.K X.mg X.base CX k g sp) (hr : Room k X.A) (hx : Passes CX X E) (ha : PA X (e :: es) t)
    (hst : starEach (e :: es) X.env = (false, eval e X.env) :: starEach es X.env := by rfl) (hpl : (backTo pos (starEach es X.env)).any (·.1) = false := by rfl)
    (ht : eval (.Call (.Attribute o m apos) (e :: es) [] pos) X.env = (do
      let ov ← eval o X.env
      standAt apos.atName
      let (f, first) ← holding [ov] (getMethod ov m pl)
      callWith pos f first (backTo pos (starEach (e :: es) X.env)) (backToKw pos (keywordEach [] X.env))) := by rfl) :
    PE X (.Call (.Attribute o m apos) (e :: es) [] pos) (tSMeth C sp E ta t) := by
  refine ⟨fun pins s σ H Q I h => ?_⟩
  refine PySem.W.methodCall_KW (pl := pl) (thn (he.run pins s σ H _ I h) fun u s1 ⟨x, H1, I1, rx, ex, q⟩ => ?_) ht
  subst ex
  obtain rfl : u = Value.ref C := rx
  refine getmethsm_ok I1 r c fun s2 I2 => ?_
  refine PySem.W.callWith_K (first := []) (h₀ := X.base) I.ok.mod.kin c.kp (thn (ha.run pos pins s2 σ H1 _ I2 q) fun us s3 ⟨vs, H2, I3, rv, q2⟩ => ⟨I3.kIn, ?_⟩) hst hpl
  exact wpAny_call (run_fnR F hr hx I3 rv q2)
theorem pe_smeth0 (he : PE X o ta) (r : CRead X.K C mc) (c : SMet X.K C mc m p g) (F : FnR X.prog X.w X.K X.mg X.base CX k g sp) (hr : Room k X.A) (hx : Passes CX X E)
    (ht : eval (.Call (.Attribute o m apos) [] [] pos) X.env = (do
      let ov ← eval o X.env
      standAt apos.atName
      let (f, first) ← holding [ov] (getMethod ov m pl)
      callWith pos f first (backTo pos (starEach [] X.env)) (backToKw pos (keywordEach [] X.env))) := by rfl) :
    PE X (.Call (.Attribute o m apos) [] [] pos) (tSMeth C sp E ta tNil) := by
  refine ⟨fun pins s σ H Q I h => ?_⟩
  refine PySem.W.methodCall_KW (pl := pl) (thn (he.run pins s σ H _ I h) fun u s1 ⟨x, H1, I1, rx, ex, q⟩ => ?_) ht
  subst ex
  obtain rfl : u = Value.ref C := rx
  refine getmethsm_ok I1 r c fun s2 I2 => ?_
  exact PySem.W.callWith_K0 (first := []) I2.kIn c.kp (wpAny_call (run_fnR (us := []) (vs := []) F hr hx I2 .nil q))
end
end R1

/-! len(x), k in x, x[k] by the own defs of x's class -/
namespace R1
open PySem PySem.Spec PyProof.Rows L2
section
variable {X : Cx} {CX : CXT} {n : Nat} {C g : Addr} {sp : Sp} {E : XK}
theorem run_fnR1 {pins : List (Addr × Obj)} {σ : L2.St} {H : Hp} {s : Shared} {Q : VK} {us : List Value} {vs : List V} (F : FnR X.prog X.w X.K X.mg X.base CX n g sp) (hr : Room (n + 1) X.A) (hx : Passes CX X E) (I : Inv X pins σ H s) (r : Vals vs us) (h : sp vs H Q E) :
    codeAny (model X.prog X.w) X.A.in1 (.call (.ref g) ⟨us, []⟩) (fun r s' => match r with | .ok (.ret v) => EP X pins σ Q v s' | .ok _ => False | .error e => X.xe e s') s := by
  refine codeAny_mono (F X.A.in1 X.stack s H us vs Q E hr.in1 I.env0.in1 r h) fun r s' hq => ?_
  cases r with
  | error e => exact hx pins σ H s e s' I hq
  | ok fl =>
    cases fl with
    | ret u => exact I.after hq
    | next => exact False.elim hq
    | brk => exact False.elim hq
    | cont => exact False.elim hq
def rLenO (C : Addr) (sp : Sp) (E : XK) : List V → Hp → VK → Prop := fun xs H Q => ∃ a dx fs, xs = [.ref a] ∧ H a = some (.ins C dx fs) ∧ sp [.ref a] H (fun v H' => ∃ k : Nat, v = .int k ∧ k < 1000000 ∧ Q (.int k) H') E
theorem call_lenO (hs : PySem.W.findIn X.K (.ref C) "__len__" = some (some (.ref g))) (hf : PySem.W.isFn X.K (.ref g) = true) (F : FnR X.prog X.w X.K X.mg X.base CX n g sp) (hr : Room (n + 1) X.A) (hx : Passes CX X E) : CallR X (.builtin "len") (rLenO C sp E) := by
  intro pins s σ H xs us Q I r h
  obtain ⟨a, dx, fs, rfl, ha, q⟩ := h
  obtain rfl := Vals.ref1 r
  obtain ⟨mA, O, _, _, _, _⟩ := ins_get I.hok ha
  obtain ⟨od, J, _⟩ := O.look
  obtain ⟨m, hF⟩ := I.fr
  refine PySem.W.len_K hF I.ok.mod.kin J hs hf (wpAny_mono (wpAny_call (run_fnR1 (us := [.ref a]) (vs := [.ref a]) F hr hx I (.cons rfl .nil) q)) (fun v s' z => ?_) fun _ _ x => x)
  obtain ⟨x, H', I', rx, k, rfl, hk, q'⟩ := z
  obtain ⟨t, rfl⟩ := rx
  exact ⟨⟨by omega, by omega⟩, .int k, H', I'.tok _, ⟨_, rfl⟩, q'⟩
def rInO (C : Addr) (sp : Sp) (E : XK) (neg : Bool) : R2 := fun x y H Q => ∃ a dx fs, y = .ref a ∧ H a = some (.ins C dx fs) ∧ sp [.ref a, x] H (fun v H' => ∃ b, v = .bl b ∧ Q (.bl (if neg then !b else b)) H') E
theorem op_inO (hs : PySem.W.findIn X.K (.ref C) "__contains__" = some (some (.ref g))) (hf : PySem.W.isFn X.K (.ref g) = true) (F : FnR X.prog X.w X.K X.mg X.base CX n g sp) (hr : Room n X.A) (hx : Passes CX X E) : OpR X (compareOp .In) (rInO C sp E false) := by
  intro pins s σ H x y v u Q I rx ry h
  obtain ⟨a, dx, fs, rfl, ha, q⟩ := h
  cases (show u = Value.ref a from ry)
  obtain ⟨mA, O, _, _, _, _⟩ := ins_get I.hok ha
  obtain ⟨od, J, _⟩ := O.look
  obtain ⟨m, hF⟩ := I.fr
  refine PySem.W.in_K hF I.ok.mod.kin J hs hf (wpAny_mono (wpAny_call (run_fnR (us := [.ref a, v]) (vs := [.ref a, x]) F hr hx I (.cons rfl (.cons rx .nil)) q)) (fun w s' z => ?_) fun _ _ x => x)
  obtain ⟨z', H', I', rz, b, rfl, q'⟩ := z
  cases (show w = Value.bool b from rz)
  exact wpAny_pure ⟨.bl b, H', I', rfl, q'⟩
theorem op_notInO (hs : PySem.W.findIn X.K (.ref C) "__contains__" = some (some (.ref g))) (hf : PySem.W.isFn X.K (.ref g) = true) (F : FnR X.prog X.w X.K X.mg X.base CX n g sp) (hr : Room n X.A) (hx : Passes CX X E) : OpR X (compareOp .NotIn) (rInO C sp E true) := by
  intro pins s σ H x y v u Q I rx ry h
  obtain ⟨a, dx, fs, rfl, ha, q⟩ := h
  cases (show u = Value.ref a from ry)
  obtain ⟨mA, O, _, _, _, _⟩ := ins_get I.hok ha
  obtain ⟨od, J, _⟩ := O.look
  obtain ⟨m, hF⟩ := I.fr
  refine PySem.W.notIn_K hF I.ok.mod.kin J hs hf (wpAny_mono (wpAny_call (run_fnR (us := [.ref a, v]) (vs := [.ref a, x]) F hr hx I (.cons rfl (.cons rx .nil)) q)) (fun w s' z => ?_) fun _ _ x => x)
  obtain ⟨z', H', I', rz, b, rfl, q'⟩ := z
  cases (show w = Value.bool b from rz)
  exact wpAny_pure ⟨.bl (!b), H', I', rfl, q'⟩
/-- x[k] -/
def rIxO (C : Addr) (sp : Sp) (E : XK) : R2 := fun x y H Q => ∃ a dx fs, x = .ref a ∧ H a = some (.ins C dx fs) ∧ sp [.ref a, y] H Q E
theorem op_ixO (hq : PySem.W.noSeq X.K C = true) (hs : PySem.W.findIn X.K (.ref C) "__getitem__" = some (some (.ref g))) (hf : PySem.W.isFn X.K (.ref g) = true) (F : FnR X.prog X.w X.K X.mg X.base CX n g sp) (hr : Room n X.A) (hx : Passes CX X E) : OpR X getItem (rIxO C sp E) := by
  intro pins s σ H x y v u Q I rx ry h
  obtain ⟨a, dx, fs, rfl, ha, q⟩ := h
  cases (show v = Value.ref a from rx)
  obtain ⟨mA, O, _, _, _, _⟩ := ins_get I.hok ha
  obtain ⟨od, J, _⟩ := O.look
  obtain ⟨m, hF⟩ := I.fr
  exact PySem.W.getItem_K hF I.ok.mod.kin J hq hs hf (wpAny_call (run_fnR (us := [.ref a, u]) (vs := [.ref a, y]) F hr hx I (.cons rfl (.cons ry .nil)) q))
end
end R1

/-! iter(t) of a tuple; list(o), o of a class whose __iter__ gives such an iterator and whose __len__ gives a number -/
namespace RI
open PySem PySem.Spec PyProof.Rows L2
/-- an iterator over the tuple at t, at its first place -/
def ItTO (t it : Addr) : HO := .ext fun h => h.IsTupleIter it t 0
theorem itTO_ok {P : Program} {w : World} {H : Hp} {h : Heap} {t it : Addr} (e : h.IsTupleIter it t 0) (e2 : ∃ o, h.get? it = some o) : ObjOk P w H h it (ItTO t it) := ⟨e, e2, fun h1 h2 q k => q.at k⟩
/-- whatever stands there -/
def AnyO (it : Addr) : HO := .ext fun h => ∃ o, h.get? it = some o
theorem anyO_ok {P : Program} {w : World} {H : Hp} {h : Heap} {it : Addr} (e : ∃ o, h.get? it = some o) : ObjOk P w H h it (AnyO it) := ⟨e, e, fun h1 h2 q k => let ⟨o, z⟩ := q; ⟨o, k o z⟩⟩
section
variable {X : Cx}
theorem call_iterT : CallR X (.builtin "iter") (fun xs H Q => ∃ (t : Addr) (zs : List V), xs = [.ref t] ∧ SqT X.K H t zs ∧ ∀ it, H it = none → Q (.ref it) (upd H it (ItTO t it))) := by
  intro pins s σ H xs us Q I r h
  obtain ⟨t, zs, rfl, hq, q⟩ := h
  obtain ⟨u, rfl, rx⟩ := vals1 r
  cases rx
  obtain ⟨its, rv, pl, hz⟩ := I.tuple hq
  refine Calls.call_function_entry (by decide +kernel) (by decide +kernel) PySem.W.kdk_entry_iter (PySem.W.kdk_args_iter _) ?_
  unfold Builtin.«iter»
  refine wpAny_bind (m := someArgs "iter" 1 2 _) (wpAny_of_eq (a := [Value.ref t]) (by first | rfl | kernel_rfl!) ?_)
  show wpAny _ _ (pyIter (.ref t) >>= _) _ _ _
  refine wpAny_bind (wpAny_pyIter_tuple pl ?_)
  have hI : (s.heap.push { cls := .type "tuple_iterator", data := .fields #[.ref t, .int 0 0] }).IsTupleIter s.heap.objs.size t 0 := ⟨_, Heap.get?_push_size _ rfl, rfl, rfl⟩
  exact wpAny_pure ⟨_, rfl, .ref s.heap.objs.size, _, I.laid (t' := s.toks) (fun b u e => Heap.get?_push_of_some _ e) (Nat.le_refl _) (itTO_ok hI ⟨_, Heap.get?_push_size _ rfl⟩), rfl, q _ (I.hok.fresh (Nat.le_refl _))⟩
end
/-- what the class must have -/
structure ItL (K : PySem.W.Frag) (C fi fl : Addr) : Prop where
  it : PySem.W.findIn K (.ref C) "__iter__" = some (some (.ref fi))
  itF : PySem.W.isFn K (.ref fi) = true
  ln : PySem.W.findIn K (.ref C) "__len__" = some (some (.ref fl))
  lnF : PySem.W.isFn K (.ref fl) = true
/-- the heap behind the walk: the list is filled, the iterator is done -/
def behind (H : Hp) (q it : Addr) (xs : List V) : Hp := upd (upd H q (.lst xs)) it (AnyO it)
def rListO (K : PySem.W.Frag) (C : Addr) (spI spL : Sp) : List V → Hp → VK → Prop := fun vs H Q => ∃ (a dx : Addr) (fs : List (Str × V)), vs = [.ref a] ∧ H a = some (.ins C dx fs) ∧
  ∀ q, H q = none → spI [.ref a] (upd H q (.lst [])) (fun v H1 => ∃ (it t : Addr) (xs : List V), v = .ref it ∧ H1 it = some (ItTO t it) ∧ it ≠ t ∧ H1 q = some (.lst []) ∧ H1 a = some (.ins C dx fs) ∧
    spL [.ref a] H1 (fun v H2 => ∃ k : Nat, v = .int k ∧ k < 1000000 ∧ H2 it = some (ItTO t it) ∧ SqT K H2 t xs ∧ xs.length ≤ 1000 ∧ H2 q = some (.lst []) ∧ Q (.ref q) (behind H2 q it xs)) (fun _ _ _ => False)) (fun _ _ _ => False)
section
variable {X : Cx} {C fi fl : Addr} {spI spL : Sp} {n : Nat} {pins : List (Addr × Obj)} {σ : L2.St} {H : Hp} {s : Shared} {a q dx : Addr} {fs : List (Str × V)}
/-- the heap in which one object is given -/
theorem put_mid {h h' : Heap} {q it : Addr} {o : Obj} {o1 : Obj} (hq : h.get? q = some o1) (hne : q ≠ it) (hq' : h'.get? q = some o) (hk : ∀ b u, b ≠ q → b ≠ it → h.get? b = some u → h'.get? b = some u) :
    ∃ m : Heap, m.get? q = some o ∧ Heap.SameBut q h m ∧ ∀ b u, b ≠ it → m.get? b = some u → h'.get? b = some u := by
  have hf : o.isFreed = false := (Heap.get?_some_iff.mp hq').2
  refine ⟨h.update q (fun _ => o), Heap.get?_update_self (fun _ => o) hq hf, Heap.SameBut.update .., fun b u hb e => ?_⟩
  by_cases c : b = q
  · subst c
    have e2 : (h.update b (fun _ => o)).get? b = some o := Heap.get?_update_self (fun _ => o) hq hf
    rw [e2] at e
    cases e
    exact hq'
  · exact hk b u c hb ((Heap.get?_update_other _ _ (Ne.symm c)).symm.trans e)
theorem tup_done {it t : Addr} {i : Nat} {its : Array Value} {A : Around} {prog : Program} {w : World} {E : Value → Shared → Prop} {Qn : Option Value → Shared → Prop} (hA : A.handled = none)
    (hI : s.heap.IsTupleIter it t i) (hT : s.heap.IsTuple t its) (hn : its[i]? = none)
    (hq : ∀ h', (∀ b o, b ≠ it → s.heap.get? b = some o → h'.get? b = some o) → (∃ o, h'.get? it = some o) → Qn none { s with heap := h' }) : wpAny (model prog w) A (pyNext (.ref it)) Qn E s := by
  have hI2 := hI
  obtain ⟨⟨oc, od, odat, osl⟩, a1, a2, a3⟩ := hI2
  have a2' : oc = .type "tuple_iterator" := a2
  have a3' : odat = .fields #[.ref t, .int i 0] := a3
  subst a2' a3'
  obtain ⟨ot, b1, b2, nt, b3⟩ := hT
  have up := Heap.get?_update_self (Obj.mapFields (·.setIfInBounds 0 Value.none)) a1 (by first | rfl | simp [Obj.isFreed, Obj.mapFields])
  unfold pyNext; refine wpAny_bind (wpAny_attempt (wpAny_callSpecial?_slot (name := Str.ofString "__next__") hI.typeIs PySem.F.slot_tuple_iterator_next (wpAny_call_entry PySem.F.slot_tuple_iterator_next hI.typeIs PySem.F.entry_tuple_iterator_next ?_ (PySem.F.args_tuple_iterator_next_1 _))))
  show wpAny _ _ (field (.ref it) 0 >>= _) _ _ _; refine wpAny_bind (wpAny_field a1 a3 (x := .ref t) rfl ?_)
  show wpAny _ _ (if (Value.ref t == Value.none) = true then _ else _) _ _ _; refine PySem.W.KFB.if_not rfl ?_
  show wpAny _ _ (field (.ref it) 1 >>= _) _ _ _; refine wpAny_bind (wpAny_field a1 a3 (x := .int i 0) rfl ?_)
  show wpAny _ _ (seqItems? (.ref t) >>= _) _ _ _; refine wpAny_bind (wpAny_seqItems b1 b3 ?_); simp only [Int.toNat_natCast, hn]
  refine wpAny_bind (wpAny_rule (wpAny_bind (wpAny_setField a1 a3 (by simp) ?_)))
  show wpAny _ _ (newExc (.type "StopIteration") [] >>= _) _ _ _; refine wpAny_bind ?_; simp only [newExc, newTuple]
  refine wpAny_bind (wpAny_newObj_type ?_ (by size_fits)); refine wpAny_bind (m := firstArgMember _ _) (wpAny_of_eq (a := Value.none) (by first | rfl | (simp only [firstArgMember]; rfl)) ?_)
  refine wpAny_newObj_type ?_ (by size_fits); simp only [raiseNew]; refine wpAny_bind (wpAny_handled ?_); rw [show A.in1.handled = none from hA]
  refine wpAny_bind (wpAny_pure (wpAny_throw ?_)); refine wpAny_bind (wpAny_isInstance (T := "StopIteration") (b := true) ⟨_, Heap.get?_push_size _ rfl, rfl⟩ isSubtype_stop ?_)
  exact wpAny_pure (hq _ (fun b o hb e => Heap.get?_push_of_some _ (Heap.get?_push_of_some _ ((Heap.get?_update_other _ _ (Ne.symm hb)).trans e))) ⟨_, Heap.get?_push_of_some _ (Heap.get?_push_of_some _ up)⟩)
/-- the rest of the tuple is put behind the list at q -/
theorem tup_rest {it t q : Addr} {its : List Value} {A : Around} {prog : Program} {w : World} {Rs : Result → Shared → Prop} {h0 : Heap} (hA : A.handled = none) (hqi : q ≠ it) (hti : t ≠ it) (htq : t ≠ q) (hz : its.length ≤ 1000) (res : Value)
    (hq : ∀ h' c, (∀ b o, b ≠ q → b ≠ it → h0.get? b = some o → h'.get? b = some o) → (∃ o, h'.get? it = some o) → h'.get? q = some { cls := .type "list", dict := none, data := .seq its.toArray c, slots := #[] } → ∀ tk, Rs (.ok (.ret res)) { s with heap := h', toks := tk }) :
    ∀ (k i : Nat) (h : Heap) (tk c : Nat), its.length - i = k → i ≤ its.length → h.IsTupleIter it t i → h.IsTuple t its.toArray → (∀ b o, b ≠ q → b ≠ it → h0.get? b = some o → h.get? b = some o) →
      h.get? q = some { cls := .type "list", dict := none, data := .seq (its.take i).toArray c, slots := #[] } → codeAny (model prog w) A (.builtin "list.extend.loop" ⟨[.ref q, .ref it, res], []⟩) Rs { s with heap := h, toks := tk } := by
  intro k
  induction k with
  | zero =>
    intro i h tk c hk hi hI hT kp hS
    obtain rfl : i = its.length := by omega
    refine codeAny_builtin PySem.F.entry_extend_loop ?_; rw [Around.under_plainId PySem.F.plain_extend_loop _]; show wpAny _ A.in1 (pyNext (.ref it) >>= _) _ _ _
    refine wpAny_bind (tup_done (s := { s with heap := h, toks := tk }) (A := A.in1) hA hI hT (by simp) fun h' kp2 ex => ?_)
    rw [List.take_length] at hS
    exact wpAny_pure (hq h' c (fun b o h1 h2 e => kp2 b o h2 (kp b o h1 h2 e)) ex (kp2 q _ hqi hS) tk)
  | succ k ih =>
    intro i h tk c hk hi hI hT kp hS
    have lt : i < its.length := by omega
    have gx : its[i]? = some its[i] := List.getElem?_eq_getElem lt
    refine codeAny_builtin PySem.F.entry_extend_loop ?_; rw [Around.under_plainId PySem.F.plain_extend_loop _]; show wpAny _ A.in1 (pyNext (.ref it) >>= _) _ _ _
    refine wpAny_bind (wpAny_pyNext_tuple_item (s := { s with heap := h, toks := tk }) hI hT (x := its[i]) (by simpa using gx) fun h' hI' sb => ?_)
    have hS' : h'.get? q = _ := (sb.2 q hqi).trans hS
    show wpAny _ A.in1 (updateSeq q (·.push its[i]) >>= _) _ _ _
    have et : ((its.take i).toArray.push its[i]) = (its.take (i + 1)).toArray := by
      rw [List.take_add_one, gx]
      simp
    obtain ⟨c', z⟩ : ∃ c', (h'.update q (Obj.mapSeq (·.push its[i]))).get? q = some { cls := .type "list", dict := none, data := .seq (its.take (i + 1)).toArray c', slots := #[] } := ⟨_, by rw [← et]; exact Heap.get?_update_self (Obj.mapSeq (·.push its[i])) hS' rfl⟩
    refine wpAny_bind (wpAny_updateSeq hS' rfl (wpAny_pure ⟨plainId_quiet PySem.F.plain_extend_loop _, ih (i + 1) _ tk c' (by omega) lt ?_ ?_ (fun b o h1 h2 e => ?_) z⟩) (by rw [List.size_toArray, List.length_take, sizeLine_eq]; omega) (by show ((its.take i).toArray.push its[i]).size ≤ sizeLine + 1; rw [et, List.size_toArray, List.length_take, sizeLine_eq]; omega))
    · exact hI'.at fun o e => (Heap.get?_update_other _ _ hqi).trans e
    · obtain ⟨o, e, r⟩ := hT
      exact ⟨o, (Heap.get?_update_other _ _ (Ne.symm htq)).trans ((sb.2 t hti).trans e), r⟩
    · exact (Heap.get?_update_other _ _ (Ne.symm h1)).trans ((sb.2 b h2).trans (kp b o h1 h2 e))
theorem ext_listO {Qh : Hp → Prop} {Rs : Result → Shared → Prop} (hc : X.calm = true) (c : ItL X.K C fi fl) (FI : FnR X.prog X.w X.K X.mg X.base CX0 n fi spI) (FL : FnR X.prog X.w X.K X.mg X.base CX0 n fl spL) (hr : Room (n + 4) X.A)
    (I : Inv X pins σ H s) (ha : H a = some (.ins C dx fs)) (hq : H q = some (.lst []))
    (hsp : spI [.ref a] H (fun v H1 => ∃ (it t : Addr) (xs : List V), v = .ref it ∧ H1 it = some (ItTO t it) ∧ it ≠ t ∧ H1 q = some (.lst []) ∧ H1 a = some (.ins C dx fs) ∧
      spL [.ref a] H1 (fun v H2 => ∃ k : Nat, v = .int k ∧ k < 1000000 ∧ H2 it = some (ItTO t it) ∧ SqT X.K H2 t xs ∧ xs.length ≤ 1000 ∧ H2 q = some (.lst []) ∧ Qh (behind H2 q it xs)) (fun _ _ _ => False)) (fun _ _ _ => False))
    (hR : ∀ s' H', Inv X pins σ H' s' → Qh H' → Rs (.ok (.ret .none)) s') :
    wpAny (model X.prog X.w) X.A.in1.in1 (Builtin.List.listExtendWith (.ref q) (.ref a) .none)
      (fun fin s' => match fin with | .done f => Rs (.ok f) s' | .again c' => c'.quiet = true ∧ codeAny (model X.prog X.w) X.A.in1 c' Rs s') (fun e s' => Rs (.error e) s') s := by
  have hne : q ≠ a := ne_of hq ha (fun z => nomatch z)
  obtain ⟨mA, J, _⟩ := ins_get I.hok ha
  obtain ⟨od, J, _⟩ := J.look
  obtain ⟨m0, hF⟩ := I.fr
  unfold Builtin.List.listExtendWith
  refine wpAny_bind (J.type.here ?_)
  have h1 : Builtin.List.listSameRef (.ref q) (.ref a) = false := by simp [Builtin.List.listSameRef, hne]
  have h2 : (Value.ref C == Value.type "list") = false := rfl
  have h3 : (Value.ref C == Value.type "tuple") = false := rfl
  simp only [h1, h2, h3, Bool.or_false, Bool.false_eq_true, if_false]
  refine wpAny_bind (PySem.W.owit_iter hF I.ok.mod.kin J c.it c.itF ?_)
  have r4 : Room n X.A.in1.in1 := ((hr.mono (Nat.le_refl _)).in1.in1).mono (by omega)
  refine wpAny_call (codeAny_mono (FI X.A.in1.in1 X.stack s H [.ref a] [.ref a] _ _ r4 I.env0.in1.in1 (.cons rfl .nil) hsp) fun r s' hq' => ?_)
  cases r with
  | error e => exact False.elim hq'
  | ok f =>
    cases f with
    | next => exact False.elim hq'
    | brk => exact False.elim hq'
    | cont => exact False.elim hq'
    | ret u =>
      obtain ⟨v, H1, I1, rv, it, t, xs, ev, hit, hnt, hq1, ha1, hl⟩ := I.after hq'
      subst ev
      cases rv
      have hI : s'.heap.IsTupleIter it t 0 := (I1.hok it _ hit).1
      show PySem.W.OwitIt _ _ _ _ _ _
      unfold PySem.W.OwitIt
      refine wpAny_specialOf hI.typeIs PySem.F.slot_tuple_iterator_next.lookup ?_
      obtain ⟨mA1, J1, _⟩ := ins_get I1.hok ha1
      obtain ⟨od1, J1, _⟩ := J1.look
      obtain ⟨m1, hF1⟩ := I1.fr
      refine wpAny_bind (wpAny_holding ?_)
      unfold Builtin.List.listLengthHint
      refine wpAny_bind (wpAny_bind (J1.type.here ((PySem.W.looks_findIn I1.kIn c.ln).here ?_)))
      refine PySem.W.KFB.if_not rfl ?_
      refine PySem.W.KFB.if_so rfl ?_
      refine wpAny_bind (wpAny_rule ?_)
      have r5 : Room n X.A.in1.in1.in1 := ((hr.mono (Nat.le_refl _)).in1.in1.in1).mono (by omega)
      refine wpAny_bind (wpAny_attempt (PySem.W.len_K hF1 I1.ok.mod.kin J1 c.ln c.lnF ?_))
      refine wpAny_call (codeAny_mono (FL X.A.in1.in1.in1 X.stack s' H1 [.ref a] [.ref a] _ _ r5 I1.env0.in1.in1.in1 (.cons rfl .nil) hl) fun r s2 hq2 => ?_)
      cases r with
      | error e => exact False.elim hq2
      | ok f =>
        cases f with
        | next => exact False.elim hq2
        | brk => exact False.elim hq2
        | cont => exact False.elim hq2
        | ret u2 =>
          obtain ⟨v2, H2, I2, rv2, k, ev2, hk, hit2, ht2, hl2, hq2', hQ⟩ := I1.after hq2
          subst ev2
          obtain ⟨tk, rfl⟩ := rv2
          refine ⟨⟨by omega, by omega⟩, ?_⟩
          refine wpAny_bind (wpAny_pure ?_)
          refine PySem.W.KFB.if_not (decide_eq_false (by rw [sizeLine_eq]; omega)) (wpAny_pure ?_)
          have I3 := I2.tok (s2.toks + 1)
          have hqi : q ≠ it := ne_of hq2' hit2 (fun z => nomatch z)
          have key : ∀ (s4 : Shared), Inv X pins σ H2 s4 → codeAny (model X.prog X.w) X.A.in1 (.builtin "list.extend.loop" ⟨[.ref q, .ref it, .none], []⟩) Rs s4 := by
            intro s4 I4
            obtain ⟨z, its0, c0, r3, hl3, e3⟩ := I4.lstM hq2'
            cases r3
            have hI4 : s4.heap.IsTupleIter it t 0 := (I4.hok it _ hit2).1
            obtain ⟨its, rvt, plt, hzt⟩ := I4.tuple ht2
            have lz := rvt.length
            have htq : t ≠ q := by
              rintro rfl
              obtain ⟨o, e, f, _⟩ := plt
              rw [e3] at e
              cases e
              exact nomatch (show Value.type "list" = Value.type "tuple" from f)
            refine tup_rest (A := X.A.in1) (s := s4) (h0 := s4.heap) (its := its) (I4.ok.hd hc) hqi (Ne.symm hnt) htq (by omega) .none (fun h' c kp ex hS tk => ?_) its.length 0 s4.heap s4.toks c0 (by omega) (Nat.zero_le _) hI4 plt (fun b o _ _ e => e) (by simpa using e3)
            obtain ⟨m, e1, sb, kp2⟩ := put_mid e3 hqi hS kp
            have I5 : Inv X pins σ (upd H2 q (.lst xs)) { s4 with heap := m, toks := s4.toks } := I4.write (x := q) (e := q) (by rw [hq2']; exact True.intro) (.inl rfl) (fun b u hb e => (sb.2 b hb).trans e) ⟨_, e1⟩ ⟨hzt, its, c, rvt, e1⟩
            have g : upd H2 q (.lst xs) it = some (ItTO t it) := by rw [upd_ne (Ne.symm hqi)]; exact hit2
            have I6 : Inv X pins σ (behind H2 q it xs) { s4 with heap := h', toks := tk } := I5.write (x := it) (e := it) (by rw [g]; exact True.intro) (.inl rfl) kp2 ex (anyO_ok ex)
            exact hR _ _ I6 hQ
          refine wpAny_ite_split (fun _ => ?_) (fun _ => wpAny_pure ⟨plainId_quiet PySem.F.plain_extend_loop _, key _ I3⟩)
          obtain ⟨z, its0, c0, r3, hl3, e3⟩ := I3.lstM hq2'
          cases r3
          refine wpAny_bind (wpAny_rule (wpAny_bind ?_)); show wpAny _ _ (updateSeq q (·.push .none) >>= fun _ => updateSeq q (·.pop)) _ _ _
          have J2 := I3.lset (f := (·.push Value.none)) (its' := [Value.none]) (ys := [.non]) (t' := s2.toks + 1) hq2' e3 (by simp) (.cons rfl .nil) (by show 1 ≤ sizeLine; rw [sizeLine_eq]; decide)
          obtain ⟨z4, its4, k4, r4', hl4, e4⟩ := J2.lstM upd_same
          obtain ⟨u4, rfl, ru4⟩ := r4'.one
          refine wpAny_bind (wpAny_updateSeq e3 rfl (wpAny_updateSeq e4 rfl (wpAny_pure ⟨plainId_quiet PySem.F.plain_extend_loop _, key _ ?_⟩) (by show 1 ≤ sizeLine; rw [sizeLine_eq]; decide) (by show 0 ≤ sizeLine + 1; exact Nat.zero_le _)))
          have J3 := J2.lset (f := (·.pop)) (its := [u4]) (its' := []) (ys := []) (t' := s2.toks + 1) upd_same e4 (by rfl) .nil (Nat.zero_le _)
          have eH : upd (upd H2 q (.lst [.non])) q (.lst []) = H2 := by
            funext b
            by_cases hb : b = q
            · rw [hb, upd_same, hq2']
            · rw [upd_ne hb, upd_ne hb]
          rw [eH] at J3
          exact J3
/-- list(o) -/
theorem call_listO (hc : X.calm = true) (c : ItL X.K C fi fl) (FI : FnR X.prog X.w X.K X.mg X.base CX0 n fi spI) (FL : FnR X.prog X.w X.K X.mg X.base CX0 n fl spL) (hr : Room (n + 4) X.A) : CallR X (.type "list") (rListO X.K C spI spL) := by
  intro pins s σ H vs us Q I r h
  obtain ⟨a, dx, fs, rfl, ha, hq⟩ := h
  obtain ⟨u, rfl, ru⟩ := vals1 r
  cases ru
  have fr : H s.heap.objs.size = none := I.hok.fresh (Nat.le_refl _)
  have hp := hq _ fr
  have I1 : Inv X pins σ (upd H s.heap.objs.size (.lst [])) { s with heap := s.heap.push { cls := .type "list", data := .seq #[] } } := I.lnew (its := []) (t' := s.toks) .nil (Nat.zero_le _)
  have ha1 : upd H s.heap.objs.size (.lst []) a = some (.ins C dx fs) := by rw [upd_ne (ne_of_none ha fr)]; exact ha
  have hS : (s.heap.push { cls := .type "list", data := .seq #[] }).get? s.heap.objs.size = some { cls := .type "list", data := .seq #[] } := Heap.get?_push_size _ rfl
  refine callType_codes (Q₁ := fun obj s₁ => obj = .ref s.heap.objs.size ∧ s₁ = { s with heap := s.heap.push { cls := .type "list", data := .seq #[] } }) PySem.F.called_list (PySem.F.typeCall_list_1 _) PySem.F.entry_list_init (code_list_new _ ⟨rfl, rfl⟩) fun obj s₁ h₁ => ?_
  obtain ⟨rfl, rfl⟩ := h₁
  refine ⟨⟨_, hS, rfl⟩, PySem.F.args_list_init_2 _ _, ?_⟩
  show wpAny _ _ (do let old ← Builtin.List.listItems (.ref s.heap.objs.size); Builtin.List.listUpdate (.ref s.heap.objs.size) (fun _ => #[]); letGo old.toList.reverse; Builtin.List.listExtendWith (.ref s.heap.objs.size) (.ref a) .none) _ _ _
  refine wpAny_bind ?_; unfold Builtin.List.listItems; refine wpAny_bind (wpAny_seqItems hS rfl (wpAny_pure ?_))
  show wpAny _ _ (updateSeq s.heap.objs.size (fun _ => #[]) >>= fun _ => letGo (#[] : Array Value).toList.reverse >>= fun _ => Builtin.List.listExtendWith (.ref s.heap.objs.size) (.ref a) .none) _ _ _
  have J1 := I1.lset (f := fun _ => #[]) (its := []) (its' := []) (ys := []) (t' := s.toks) upd_same hS rfl .nil (Nat.zero_le _)
  rw [upd_upd] at J1
  refine wpAny_bind (wpAny_updateSeq hS rfl (wpAny_bind (wpAny_letGo ?_)))
  exact ext_listO (Qh := fun H' => Q (.ref s.heap.objs.size) H') (Rs := wants (fun r s₂ => r = .none ∧ EP X pins σ Q (.ref s.heap.objs.size) s₂) X.xe) hc c FI FL hr J1 ha1 upd_same hp fun s' H' I' hR => ⟨rfl, .ref s.heap.objs.size, H', I', rfl, hR⟩
end
end RI

/-! dicts whose keys are nested tuples: what stands in the heap -/
namespace RN
open PySem PySem.Spec PyProof.Rows L2
/-! ### data as keys -/
mutual
def nk : PyData → NestedKey
  | .none => .none
  | .bool b => .num (if b = true then 1 else 0)
  | .int i => .num i
  | .str x => .text x
  | .tuple ds => .tup (nks ds)
  | .list _ => .none
  | .dict _ => .none
def nks : List PyData → List NestedKey
  | [] => []
  | d :: ds => nk d :: nks ds
end
mutual
def kb : PyData → Bool
  | .tuple ds => kbs ds
  | .list _ => false
  | .dict _ => false
  | _ => true
def kbs : List PyData → Bool
  | [] => true
  | d :: ds => kb d && kbs ds
end
section
variable {X : Cx} {pins : List (Addr × Obj)} {σ : L2.St} {H : Hp} {s : Shared}
mutual
theorem nested_of (I : Inv X pins σ H s) : ∀ (d : PyData) (v : V) (u : Value), Dp X.K H v d → RelV v u → kb d = true → NestedIs s.heap (nk d) u
  | .none, _, _, h, r, _ => by cases h; cases r; exact .none
  | .bool b, _, _, h, r, _ => by cases h; cases r; exact .bool rfl
  | .int i, _, _, h, r, _ => by cases h; obtain ⟨t, rfl⟩ := r; exact .int i t
  | .str x, _, _, h, r, _ => by cases h; obtain ⟨t, rfl⟩ := r; exact .text x t
  | .tuple ds, _, _, h, r, k => by
    cases h with
    | tup hs ha =>
      cases r
      obtain ⟨its, rv, ⟨o, ho, hc, n, hd⟩, _⟩ := I.tuple hs
      exact .tup ho hc hd (by simpa using nesteds_of I ds _ its ha rv k)
  | .list _, _, _, _, _, k => by cases k
  | .dict _, _, _, _, _, k => by cases k
theorem nesteds_of (I : Inv X pins σ H s) : ∀ (ds : List PyData) (vs : List V) (us : List Value), DpAll X.K H vs ds → Vals vs us → kbs ds = true → NestedAll s.heap (nks ds) us
  | [], _, _, h, r, _ => by cases h; cases r; exact .nil
  | d :: ds, _, _, h, r, k => by
    cases h with
    | cons h1 h2 =>
      cases r with
      | cons r1 r2 =>
        have k' : (kb d && kbs ds) = true := k
        rw [Bool.and_eq_true] at k'
        exact .cons (nested_of I d _ _ h1 r1 k'.1) (nesteds_of I ds _ _ h2 r2 k'.2)
end
end
/-- the key k is at b -/
def KeyAt (K : PySem.W.Frag) (H : Hp) (k : NestedKey) (b : Addr) : Prop := ∃ d, Dp K H (.ref b) d ∧ kb d = true ∧ nk d = k ∧ k.depth ≤ 8
theorem key_is {X : Cx} {pins : List (Addr × Obj)} {σ : L2.St} {H : Hp} {s : Shared} {k : NestedKey} {b : Addr} (I : Inv X pins σ H s) (h : KeyAt X.K H k b) : (nestedKind X.prog X.w).is s.heap k b := by
  obtain ⟨d, h1, h2, rfl, h4⟩ := h
  exact ⟨nested_of I d _ _ h1 rfl h2, h4⟩
/-! ### entries: key, where it stands, value -/
abbrev Ent := NestedKey × Addr × V
def getN (es : List Ent) (k : NestedKey) : Option V := (es.find? fun p => decide (p.1 = k)).map fun p => p.2.2
def putN (es : List Ent) (k : NestedKey) (b : Addr) (v : V) : List Ent :=
  if (getN es k).isSome = true then es.map fun p => if p.1 = k then (p.1, p.2.1, v) else p else es ++ [(k, b, v)]
theorem putN_len (es : List Ent) (k : NestedKey) (b : Addr) (v : V) : (putN es k b v).length ≤ es.length + 1 := by
  unfold putN
  split
  · rw [List.length_map]; omega
  · rw [List.length_append]; exact Nat.le_refl _
abbrev RE : List Ent → List (NestedKey × Addr × Value) → Prop := Paired fun p q => p.1 = q.1 ∧ p.2.1 = q.2.1 ∧ RelV p.2.2 q.2.2
theorem re_get {es : List Ent} {xs : List (NestedKey × Addr × Value)} (r : RE es xs) (k : NestedKey) : RelO (getN es k) ((atKey xs k).map (·.2)) := by
  induction r with
  | nil => exact True.intro
  | @cons p q ps qs h t ih =>
    by_cases e : p.1 = k
    · have e2 : q.1 = k := h.1.symm.trans e
      have a1 : getN (p :: ps) k = some p.2.2 := by simp [getN, List.find?_cons, e]
      have a2 : atKey (q :: qs) k = some q.2 := by simp [atKey, List.find?_cons, e2]
      rw [a1, a2]
      exact h.2.2
    · have e2 : ¬ q.1 = k := fun z => e (h.1.trans z)
      have a1 : getN (p :: ps) k = getN ps k := by simp [getN, List.find?_cons, e]
      have a2 : atKey (q :: qs) k = atKey qs k := by simp [atKey, List.find?_cons, e2]
      rw [a1, a2]
      exact ih
theorem re_some {es : List Ent} {xs : List (NestedKey × Addr × Value)} (r : RE es xs) (k : NestedKey) : (getN es k).isSome = (atKey xs k).isSome := by
  rw [(re_get r k).isSome_eq, Option.isSome_map]
theorem re_map {es : List Ent} {xs : List (NestedKey × Addr × Value)} (r : RE es xs) (k : NestedKey) {v : V} {u : Value} (rv : RelV v u) :
    RE (es.map fun p => if p.1 = k then (p.1, p.2.1, v) else p) (xs.map (putAt k u)) := by
  induction r with
  | nil => exact .nil
  | @cons p q ps qs h t ih =>
    refine .cons ?_ ih
    unfold putAt
    dsimp only
    by_cases e : p.1 = k
    · rw [if_pos e, if_pos (h.1.symm.trans e)]
      exact ⟨h.1, h.2.1, rv⟩
    · rw [if_neg e, if_neg fun z => e (h.1.trans z)]
      exact h
theorem re_put {es : List Ent} {xs : List (NestedKey × Addr × Value)} (r : RE es xs) (k : NestedKey) (b : Addr) {v : V} {u : Value} (rv : RelV v u) : RE (putN es k b v) (storedH xs k b u) := by
  unfold putN storedH
  rw [re_some r k]
  by_cases q : (atKey xs k).isSome = true
  · rw [if_pos q, if_pos q]
    exact re_map r k rv
  · rw [if_neg q, if_neg q]
    exact Paired.snoc r ⟨rfl, rfl, rv⟩
theorem re_keys {es : List Ent} {xs : List (NestedKey × Addr × Value)} (r : RE es xs) {P : NestedKey → Addr → Prop} (h : ∀ p ∈ es, P p.1 p.2.1) : ∀ x ∈ xs, P x.1 x.2.1 := by
  induction r with
  | nil => intro x hx; cases hx
  | @cons p q ps qs e t ih =>
    intro x hx
    rcases List.mem_cons.mp hx with rfl | hx
    · have := h p List.mem_cons_self
      rw [e.1, e.2.1] at this
      exact this
    · exact ih (fun p hp => h p (List.mem_cons_of_mem _ hp)) x hx
theorem putN_keys {P : NestedKey → Addr → Prop} {es : List Ent} {k : NestedKey} {b : Addr} {v : V} (h : ∀ p ∈ es, P p.1 p.2.1) (hb : P k b) : ∀ p ∈ putN es k b v, P p.1 p.2.1 := by
  intro p hp
  unfold putN at hp
  split at hp
  · obtain ⟨q, hq, rfl⟩ := List.mem_map.mp hp
    split
    · exact h q hq
    · exact h q hq
  · rcases List.mem_append.mp hp with hp | hp
    · exact h p hp
    · rw [List.mem_singleton.mp hp]
      exact hb
/-! ### the object -/
def phiN (w : World) (d : Addr) (es : List Ent) (h : Heap) : Prop := es.length ≤ sizeLine ∧ (d == sysModules) = false ∧ ∃ xs : List (NestedKey × Addr × Value), RE es xs ∧ (xs.map (·.1)).Nodup ∧
  ∃ (o : Obj) (arr : Array DictEntry) (ep : Nat), h.get? d = some o ∧ o.ExactDict ∧ o.data = .dict arr ep ∧ arr.toList = xs.map fun x => (⟨x.1.hash w, .ref x.2.1, x.2.2⟩ : DictEntry)
def dN (w : World) (d : Addr) (es : List Ent) : HO := .ext (phiN w d es)
def KeysAt (K : PySem.W.Frag) (H : Hp) (es : List Ent) : Prop := ∀ p ∈ es, KeyAt K H p.1 p.2.1
theorem dN_ok {P : Program} {w : World} {H : Hp} {h : Heap} {d : Addr} {es : List Ent} (x : phiN w d es h) : ObjOk P w H h d (dN w d es) := by
  obtain ⟨_, _, _, _, _, o, _, _, ho, _⟩ := id x
  refine ⟨x, ⟨o, ho⟩, fun h1 h2 y k => ?_⟩
  obtain ⟨a1, a2, xs, a3, a4, o, arr, ep, b1, b2, b3, b4⟩ := y
  exact ⟨a1, a2, xs, a3, a4, o, arr, ep, k o b1, b2, b3, b4⟩
theorem dN_empty {P : Program} {w : World} {H : Hp} (h : Heap) (hb : sysModules < h.objs.size) : ObjOk P w H (h.push { cls := .type "dict", data := .dict #[] }) h.objs.size (dN w h.objs.size []) :=
  dN_ok ⟨Nat.zero_le _, beq_eq_false_iff_ne.mpr (Ne.symm (Nat.ne_of_lt hb)), [], .nil, List.nodup_nil, _, #[], 0, Heap.get?_push_size _ rfl, ⟨rfl, rfl, rfl⟩, rfl, rfl⟩
section
variable {X : Cx} {pins : List (Addr × Obj)} {σ : L2.St} {H : Hp} {s : Shared} {d b : Addr} {es : List Ent} {k : NestedKey} {A : Around} {E : Value → Shared → Prop}
theorem dN_of (I : Inv X pins σ H s) (hd : H d = some (dN X.w d es)) (hk : KeysAt X.K H es) :
    es.length ≤ sizeLine ∧ (d == sysModules) = false ∧ ∃ xs, RE es xs ∧ s.heap.DictOfH (nestedKind X.prog X.w) d xs := by
  obtain ⟨⟨a1, a2, xs, a3, a4, o, arr, ep, b1, b2, b3, b4⟩, _, _⟩ := (show ObjOk X.prog X.w H s.heap d (dN X.w d es) from I.hok d _ hd)
  exact ⟨a1, a2, xs, a3, o, arr, ep, b1, b2, b3, b4, re_keys a3 (P := fun k b => (nestedKind X.prog X.w).is s.heap k b) fun p hp => key_is I (hk p hp), a4⟩
end
/-! ### tuples stay -/
def Tk (H H' : Hp) : Prop := ∀ a xs, Rd H a (.tup xs) → Rd H' a (.tup xs)
theorem Tk.rfl' {H : Hp} : Tk H H := fun _ _ h => h
theorem Tk.trans {H H1 H2 : Hp} (h : Tk H H1) (g : Tk H1 H2) : Tk H H2 := fun a xs z => g a xs (h a xs z)
theorem tk_all {H H' : Hp} (h : ∀ a o, H a = some o → H' a = some o) : Tk H H' := fun a xs z => by
  rcases z with z | ⟨o, z⟩
  · exact .inl (h _ _ z)
  · exact .inr ⟨o, h _ _ z⟩
/-- not a tuple -/
def NoTup : HO → Prop
  | .tup _ => False
  | .frz _ (.tup _) => False
  | _ => True
theorem tk_but {H H' : Hp} {d : Addr} {o : HO} (hd : H d = some o) (ho : NoTup o) (h : ∀ a o, a ≠ d → H a = some o → H' a = some o) : Tk H H' := fun a xs z => by
  have ne : a ≠ d := by
    rintro rfl
    rcases z with z | ⟨o', z⟩
    · rw [hd] at z; cases z; exact ho
    · rw [hd] at z; cases z; exact ho
  rcases z with z | ⟨o', z⟩
  · exact .inl (h _ _ ne z)
  · exact .inr ⟨o', h _ _ ne z⟩
theorem tk_upd {H : Hp} {d : Addr} {o o' : HO} (hd : H d = some o) (ho : NoTup o) : Tk H (upd H d o') := tk_but hd ho fun a u ne z => by rw [upd_ne ne]; exact z
theorem tk_new {H : Hp} {d : Addr} {o' : HO} (hd : H d = none) : Tk H (upd H d o') := tk_all fun a o z => by rw [upd_ne (ne_of_none z hd)]; exact z
theorem sqT_tk {K : PySem.W.Frag} {H H' : Hp} {a : Addr} {xs : List V} (t : Tk H H') (h : SqT K H a xs) : SqT K H' a xs := by
  rcases h with h | h
  · exact .inl (t _ _ h)
  · exact .inr h
section
variable {K : PySem.W.Frag} {H H' : Hp}
mutual
theorem dp_tk (t : Tk H H') : ∀ (d : PyData) (v : V), Dp K H v d → kb d = true → Dp K H' v d
  | .none, _, h, _ => by cases h; exact .non
  | .bool _, _, h, _ => by cases h; exact .bl _
  | .int _, _, h, _ => by cases h; exact .int _
  | .str _, _, h, _ => by cases h; exact .str _
  | .tuple ds, _, h, k => by
    cases h with
    | tup hs ha => exact .tup (sqT_tk t hs) (dps_tk t ds _ ha k)
  | .list _, _, _, k => by cases k
  | .dict _, _, _, k => by cases k
theorem dps_tk (t : Tk H H') : ∀ (ds : List PyData) (vs : List V), DpAll K H vs ds → kbs ds = true → DpAll K H' vs ds
  | [], _, h, _ => by cases h; exact .nil
  | d :: ds, _, h, k => by
    cases h with
    | cons h1 h2 =>
      have k' : (kb d && kbs ds) = true := k
      rw [Bool.and_eq_true] at k'
      exact .cons (dp_tk t d _ h1 k'.1) (dps_tk t ds _ h2 k'.2)
end
theorem KeyAt.tk {k : NestedKey} {b : Addr} (t : Tk H H') (h : KeyAt K H k b) : KeyAt K H' k b := by
  obtain ⟨d, h1, h2, h3⟩ := h
  exact ⟨d, dp_tk t d _ h1 h2, h2, h3⟩
theorem KeysAt.tk {es : List Ent} (t : Tk H H') (h : KeysAt K H es) : KeysAt K H' es := fun p hp => (h p hp).tk t
end
/-! ### one entry more, and the reads -/
section
variable {X : Cx} {pins : List (Addr × Obj)} {σ : L2.St} {H : Hp} {s : Shared} {d b : Addr} {es : List Ent} {k : NestedKey} {A : Around} {E : Value → Shared → Prop} {z : V} {r : Value}
theorem room_n {A : Around} {w : World} {P : Program} (hu : A.units + 16 < cLine) : (nestedKind P w).room A := by show A.units + 8 < cLine; omega
theorem room_n1 {A : Around} {w : World} {P : Program} (hu : A.units + 16 < cLine) : (nestedKind P w).room A.in1 := by
  show A.in1.units + 8 < cLine
  simp only [Around.in1_units]
  omega
/-- what is written back -/
theorem back_n {h' : Heap} {tk : Nat} {xs : List (NestedKey × Addr × Value)} (I : Inv X pins σ H s) (hd : H d = some (dN X.w d es)) (hz : es.length < sizeLine) (hm : (d == sysModules) = false) (re : RE es xs) (rz : RelV z r)
    (dd : h'.DictOfH (nestedKind X.prog X.w) d (storedH xs k b r)) (sb : Heap.SameBut d s.heap h') : Inv X pins σ (upd H d (dN X.w d (putN es k b z))) { s with heap := h', toks := tk } := by
  obtain ⟨o, arr, ep, b1, b2, b3, b4, _, b5⟩ := dd
  have := putN_len es k b z
  exact d_write (t' := tk) I (by rw [hd]; exact True.intro) sb ⟨o, b1⟩ (dN_ok ⟨by omega, hm, _, re_put re k b rz, b5, o, arr, ep, b1, b2, b3, b4⟩)
theorem set_n {Q : Unit → Shared → Prop} (hu : X.A.units + 16 < cLine) (I : Inv X pins σ H s) (hd : H d = some (dN X.w d es)) (hk : KeysAt X.K H es) (hb : KeyAt X.K H k b) (hz : es.length < sizeLine) (rz : RelV z r)
    (h : ∀ s', Inv X pins σ (upd H d (dN X.w d (putN es k b z))) s' → Q () s') : wpAny (model X.prog X.w) X.A (dictSet d (.ref b) r) Q E s := by
  obtain ⟨z1, z2, xs, re, dd⟩ := dN_of I hd hk
  have hl : xs.length ≤ sizeLine := by rw [← Paired.length re]; exact z1
  exact wpAny_dictSet_heap (hsz := hl) (room_n hu) (key_is I hb) dd fun h' d' sb => h _ (back_n I hd hz z2 re rz d' sb)
theorem setItem_n {Q : Unit → Shared → Prop} (hu : X.A.units + 16 < cLine) (I : Inv X pins σ H s) (hd : H d = some (dN X.w d es)) (hk : KeysAt X.K H es) (hb : KeyAt X.K H k b) (hz : es.length < sizeLine) (rz : RelV z r)
    (h : ∀ s', Inv X pins σ (upd H d (dN X.w d (putN es k b z))) s' → Q () s') : wpAny (model X.prog X.w) X.A (setItem (.ref d) (.ref b) r) Q E s := by
  obtain ⟨z1, z2, xs, re, dd⟩ := dN_of I hd hk
  have hl : xs.length ≤ sizeLine := by rw [← Paired.length re]; exact z1
  exact wpAny_setItem_heap (hsz := hl) (room_n1 hu) (key_is I hb) dd fun h' d' sb => h _ (back_n I hd hz z2 re rz d' sb)
/-- x in d, x not in d -/
def rInN (K : PySem.W.Frag) (w : World) (neg : Bool) : R2 := fun x y H Q => ∃ (b d : Addr) (es : List Ent) (k : NestedKey), x = .ref b ∧ y = .ref d ∧ H d = some (dN w d es) ∧ KeysAt K H es ∧ KeyAt K H k b ∧ Q (.bl (if neg then !(getN es k).isSome else (getN es k).isSome)) H
theorem op_inN {K : PySem.W.Frag} {w : World} (hu : X.A.units + 16 < cLine) (hK : X.K = K) (hW : X.w = w) : OpR X (compareOp .In) (rInN K w false) := by
  subst hK hW
  intro pins s σ H x y v u Q I rx ry h
  obtain ⟨b, d, es, k, rfl, rfl, hd, hk, hb, q⟩ := h
  cases rx
  cases ry
  obtain ⟨z1, z2, xs, re, dd⟩ := dN_of I hd hk
  refine wpAny_in_heap (room_n1 hu) (key_is I hb) z2 dd ?_
  rw [← re_some re]
  exact ⟨.bl (getN es k).isSome, H, I.tok _, rfl, q⟩
theorem op_notInN {K : PySem.W.Frag} {w : World} (hu : X.A.units + 16 < cLine) (hK : X.K = K) (hW : X.w = w) : OpR X (compareOp .NotIn) (rInN K w true) := by
  subst hK hW
  intro pins s σ H x y v u Q I rx ry h
  obtain ⟨b, d, es, k, rfl, rfl, hd, hk, hb, q⟩ := h
  cases rx
  cases ry
  obtain ⟨z1, z2, xs, re, dd⟩ := dN_of I hd hk
  refine wpAny_notIn_heap (room_n1 hu) (key_is I hb) z2 dd ?_
  rw [← re_some re]
  exact ⟨.bl (!(getN es k).isSome), H, I.tok _, rfl, q⟩
/-- d[x], there -/
def tIxN (K : PySem.W.Frag) (w : World) (td ty : TE) : TE := fun σ H Q => td σ H fun y H1 => ty σ H1 fun x H2 => ∃ (b d : Addr) (es : List Ent) (k : NestedKey) (v : V), x = .ref b ∧ y = .ref d ∧ H2 d = some (dN w d es) ∧ KeysAt K H2 es ∧ KeyAt K H2 k b ∧ getN es k = some v ∧ Q v H2
theorem pe_ixN {o i : Expr} {td ty : TE} {pos : Pos} {K : PySem.W.Frag} {w : World} (hu : X.A.units + 16 < cLine) (hK : X.K = K) (hW : X.w = w) (ho : PE X o td) (hi : PE X i ty) (hs : NoSl i) : PE X (.Subscript o i pos) (tIxN K w td ty) := by
  subst hK hW
  refine ⟨fun pins s σ H Q I h => ?_⟩
  refine subD_of PySem.F.slot_dict_getitem.lookup hs (thn (ho.run pins s σ H _ I h) fun u s1 ⟨y, H1, I1, ry, q1⟩ => thn (hi.run pins s1 σ H1 _ I1 q1) fun iv s2 ⟨x, H2, I2, rx, b, d, es, k, v, ex, ey, hd, hk, hb, hv, q⟩ => ?_)
  subst ex ey
  cases rx
  cases ry
  obtain ⟨z1, z2, xs, re, dd⟩ := dN_of I2 hd hk
  have g := re_get re k
  rw [hv] at g
  obtain ⟨w', hw, rw'⟩ := RelO.some_of g
  obtain ⟨p, hp, hp2⟩ := Option.map_eq_some_iff.mp hw
  refine ⟨dd.typeIs, wpAny_getItem_heap (room_n1 hu) (key_is I2 hb) dd hp ?_⟩
  rw [hp2]
  exact ⟨v, H2, I2.tok _, rw', q⟩
/-- d[x] = v -/
def rSetN (K : PySem.W.Frag) (w : World) : TSet := fun o i v H Q => ∃ (b d : Addr) (es : List Ent) (k : NestedKey), i = .ref b ∧ o = .ref d ∧ H d = some (dN w d es) ∧ KeysAt K H es ∧ KeyAt K H k b ∧ es.length < sizeLine ∧ Q (upd H d (dN w d (putN es k b v)))
theorem set_dictN (hu : X.A.units + 16 < cLine) : PSet X (rSetN X.K X.w) := by
  intro pins s σ H o i v ov iv u Q I ro ri rv h
  obtain ⟨b, d, es, k, rfl, rfl, hd, hk, hb, hz, q⟩ := h
  cases ro
  cases ri
  exact setItem_n hu I hd hk hb hz rv fun s' I' => ⟨_, I', q⟩
end
end RN

/-! a dict comprehension whose keys are nested tuples -/
namespace RN
open PySem PySem.Spec PyProof.Rows L2
/-- the reading of {k: v for target in iter if ..} with such keys -/
def tDcN (K : PySem.W.Frag) (w : World) (src : TI) (g : TG) (tt : TT) (tk tv : TE) (own : List Nat) : TE := fun σ H Q => src σ H fun J G => ∀ D, G D = none → ∃ W : Nat → Nat → Hp → Prop, (∃ m, W 0 m (upd G D (dN w D []))) ∧ ∀ i m F, W i m F →
  (J.stop i F ∧ Q (.ref D) F) ∨ (J.go i F ∧ ∃ Nx : Hp → Prop, (∀ F', Nx F' → ∃ m', m' < m ∧ W (i + 1) m' F') ∧ ∀ x F', J.yld i F x F' → g x (wipe σ own) F' fun τ F2 => wipe τ own = wipe σ own ∧ tt τ F2 fun c F3 =>
    if c = true then tk τ F3 fun y F4 => tv τ F4 fun z F5 => ∃ es k b, y = .ref b ∧ KeyAt K F5 k b ∧ F5 D = some (dN w D es) ∧ KeysAt K F5 es ∧ es.length < sizeLine ∧ Nx (upd F5 D (dN w D (putN es k b z))) else Nx F3)
section
variable {X : Cx} {kx vx tg iter : Expr} {ifs : List Expr} {scope : Scope} {own : List (Str × Nat)} {pos : Pos} {src : TI} {g : TG} {tt : TT} {tk tv : TE}
theorem dcN_core {pins : List (Addr × Obj)} {s : Shared} {σ : L2.St} {H : Hp} {Q : VK} {pos' : Pos} {use : Option (Value → Sem Unit)} {Qf : Value → Shared → Prop} (I : Inv X pins σ H s)
    (hu : X.A.units + 64 < cLine) (hc : X.calm = true) (hN : X.N.Nodup) (hi : PI X tg iter src) (ok : BlkOk X.N X.env.scope scope own)
    (hg : ∀ (s : Shared) (G : Hp) (C : Addr) (cl : List (Str × Addr)) (fp : List Addr), PG (X.blk s G scope (compEnvC scope cl C X.env) fp) tg g)
    (ht : ∀ (s : Shared) (G : Hp) (C : Addr) (cl : List (Str × Addr)) (fp : List Addr), PTs (X.blk s G scope (compEnvC scope cl C X.env) fp) ifs tt)
    (hk : ∀ (s : Shared) (G : Hp) (C : Addr) (cl : List (Str × Addr)) (fp : List Addr), PE (X.blk s G scope (compEnvC scope cl C X.env) fp) kx tk)
    (hv : ∀ (s : Shared) (G : Hp) (C : Addr) (cl : List (Str × Addr)) (fp : List Addr), PE (X.blk s G scope (compEnvC scope cl C X.env) fp) vx tv)
    (hs : ∀ x, foldedSetIterable iter X.env x = pure x) (h : tDcN X.K X.w src g tt tk tv (own.map (·.2)) σ H Q)
    (hR : ∀ D C s' m F, Inv X pins σ F s' → Q (.ref D) F → s'.heap.Ns C m → FpOk X pins F C → compPost (model X.prog X.w) X.A X.xe use Qf (.ref D) C (.ok .next) s') :
    wpAny (model X.prog X.w) X.A (comprehension (.DictComp kx vx [⟨tg, iter, ifs, 0⟩] scope pos) scope X.env pos' newDict false (eval iter X.env) use) Qf X.xe s := by
  have fr : ∀ y ∈ scope.names, y.2 = .free → ∃ c, X.env.cells.lookup y.1 = some c := fun y hy e => (ok.free y hy e).elim (fun z => I.ok.has _ (.inl z)) fun z => I.ok.has _ (.inr z)
  refine wpAny_comprehension_free (use := use) rfl hs (closure_ok fr) ok.kind (fun y hy e => by rw [ok.uniq y hy, e]) (thn (hi.run pins s σ H _ I h) fun xv s1 hx => thn hx fun iv s2 a2 => ?_)
  obtain ⟨it, fp, tn, J, G, rfl, K2, T, t2, p2, q⟩ := a2
  refine wpAny_newObj_type (newEnv_comp ?_)
  obtain ⟨W, ⟨m0, w0⟩, turn⟩ := q s2.heap.objs.size (K2.hok.fresh (Nat.le_refl _))
  generalize eD : s2.heap.objs.size = D at w0 turn
  have nD : G D = none := K2.hok.fresh (Nat.le_of_eq eD)
  -- the new dict
  generalize e3 : ({ s2 with heap := s2.heap.push { cls := .type "dict", data := .dict #[] } } : Shared) = s3
  have K3 : Inv X pins σ (upd G D (dN X.w D [])) s3 := by
    subst e3
    refine K2.laid (t' := s2.toks) (fun b o z => Heap.get?_push_of_some _ z) (Nat.le_of_eq eD) ?_
    subst eD
    exact dN_empty s2.heap K2.big
  have z3 : s3.heap = s2.heap.push { cls := .type "dict", data := .dict #[] } := by subst e3; rfl
  have p3 : ∀ b ∈ fp, FpOk X pins (upd G D (dN X.w D [])) b ∧ b < s3.heap.objs.size := fun b hb => by
    obtain ⟨o, y, _⟩ := T.obj _ _ t2 b hb
    have lt : b < s2.heap.objs.size := Heap.lt_size y
    refine ⟨⟨?_, (p2 b hb).2⟩, by rw [z3, Heap.size_push]; exact Nat.lt_succ_of_lt lt⟩
    rw [upd_ne (by rw [← eD]; exact Nat.ne_of_lt lt)]
    exact (p2 b hb).1
  have t3 : tn 0 s3.heap := T.keep _ _ _ t2 fun b _ o y => by rw [z3]; exact Heap.get?_push_of_some _ y
  have K4 := block_start K3 ok hN p3
  have qg := hg s3 (upd G D (dN X.w D [])) s3.heap.objs.size (cellsFrom (s3.heap.objs.size + 1) scope.names (cloFrom X.env.cells scope.names [])) fp
  have qt := ht s3 (upd G D (dN X.w D [])) s3.heap.objs.size (cellsFrom (s3.heap.objs.size + 1) scope.names (cloFrom X.env.cells scope.names [])) fp
  have qk := hk s3 (upd G D (dN X.w D [])) s3.heap.objs.size (cellsFrom (s3.heap.objs.size + 1) scope.names (cloFrom X.env.cells scope.names [])) fp
  have qv := hv s3 (upd G D (dN X.w D [])) s3.heap.objs.size (cellsFrom (s3.heap.objs.size + 1) scope.names (cloFrom X.env.cells scope.names [])) fp
  have np : ∀ b ∈ fp, (upd G D (dN X.w D [])) b = none := fun b hb => (p3 b hb).1.1
  show codeAny _ _ (.compStart (.DictComp kx vx [⟨tg, iter, ifs, 0⟩] scope pos) 0 (.ref it) (.ref D) (compEnvC scope (cellsFrom (s3.heap.objs.size + 1) scope.names (cloFrom X.env.cells scope.names [])) s3.heap.objs.size X.env)) (compPost (model X.prog X.w) X.A X.xe use _ (.ref D) s3.heap.objs.size) { s3 with heap := pushCells (s3.heap.push { cls := .type "dict", data := .dict #[] }) scope.names }
  generalize ec : compEnvC scope (cellsFrom (s3.heap.objs.size + 1) scope.names (cloFrom X.env.cells scope.names [])) s3.heap.objs.size X.env = ce at K4 qg qt qk qv ⊢
  have eL : ce.locals = s3.heap.objs.size := by subst ec; rfl
  generalize eG : upd G D (dN X.w D []) = G3 at K3 K4 qg qt qk qv w0 np p3
  generalize e4 : ({ s3 with heap := pushCells (s3.heap.push { cls := .type "dict", data := .dict #[] }) scope.names } : Shared) = s4 at K4 ⊢
  have t4 : tn 0 s4.heap := T.keep _ _ _ t3 fun b _ o y => by subst e4; exact pushCells_keeps _ _ _ _ (Heap.get?_push_of_some _ y)
  have still : ∀ {τ : L2.St} {F : Hp} {s' : Shared}, Inv (X.blk s3 G3 scope ce fp) [] τ F s' → (∀ b ∈ fp, F b = none) → ∀ b ∈ fp, FpOk (X.blk s3 G3 scope ce fp) [] F b := fun {τ F s'} L n b hb =>
    ⟨n b hb, (L.ok.exf b hb).1, L.ok.exfs b hb, .inl hb, fun x c y => (L.ok.exf b hb).2 x c y, fun p hp => absurd (show p ∈ ([] : List (Addr × Obj)) ++ [] from hp) (by simp)⟩
  have go : codeAny (model X.prog X.w) X.A (.compLoop (.DictComp kx vx [⟨tg, iter, ifs, 0⟩] scope pos) 0 (.ref it) (.ref D) ce) (compPost (model X.prog X.w) X.A X.xe use Qf (.ref D) s3.heap.objs.size) s4 := by
    refine compLoop_anyD (fun n s' => ∃ i F, Inv (X.blk s3 G3 scope ce fp) [] (wipe σ (own.map (·.2))) F s' ∧ tn i s'.heap ∧ (∀ b ∈ fp, F b = none) ∧ W i n F) ?_ m0 ⟨0, G3, K4, t4, np, w0⟩
    rintro n s5 ⟨i, F, L, t5, n5, w5⟩
    rcases turn i n F w5 with ⟨stop, qq⟩ | ⟨hgo, Nx, hNx, step⟩
    · refine thnF (T.done (X.blk s3 G3 scope ce fp) rfl rfl rfl hc i [] s5 _ F (fun _ _ => False) L (still L n5) t5 stop) fun r s6 ⟨hr, L6⟩ => ?_
      subst hr
      have M : Inv X pins σ F s6 := K3.call' (ch := fp) L6.os L6.base L6.hok L6.bare fun b hb => ⟨(p3 b hb).1.2.2.2.1, (p3 b hb).1.2.1, (p3 b hb).1.2.2.2.2.1, (p3 b hb).1.2.2.2.2.2⟩
      have nC : F s3.heap.objs.size = none := eL ▸ L6.free
      obtain ⟨m, hn, _⟩ := L6.loc
      have hn' : s6.heap.Ns ce.locals m := hn
      rw [eL] at hn'
      exact hR D s3.heap.objs.size s6 m F M qq hn' (K3.fpOk (Nat.le_refl _) nC)
    · refine thnF (T.item (X.blk s3 G3 scope ce fp) rfl rfl rfl hc i [] s5 _ F (fun _ _ => False) L (still L n5) t5 hgo) fun r s6 ⟨u, hr, h6⟩ => ?_
      subst hr
      refine thnF h6 fun _ s7 ⟨x, F7, L7, r7, y7, t7, n7⟩ => ?_
      have L7' := L7.pinned (still L7 n7) (T.obj _ _ t7)
      refine thnF (qg.run _ s7 _ F7 x u _ L7' r7 (step x F7 y7)) fun _ s8 ⟨τ, F8, L8, hw, q8⟩ => ?_
      refine thnF (qt.run _ s8 τ F8 _ L8 q8) fun c s9 ⟨F9, L9, q9⟩ => ?_
      have fin : ∀ {s' : Shared} {F' : Hp}, Inv (X.blk s3 G3 scope ce fp) ([] ++ pinsAt fp s7.heap) τ F' s' → Nx F' → ∃ m, m < n ∧ ∃ i F', Inv (X.blk s3 G3 scope ce fp) [] (wipe σ (own.map (·.2))) F' s' ∧ tn i s'.heap ∧ (∀ b ∈ fp, F' b = none) ∧ W i m F' := fun {s' F'} L' nx => by
        obtain ⟨m', hm, w'⟩ := hNx F' nx
        have pin : ∀ b ∈ fp, ∀ o, s7.heap.get? b = some o → s'.heap.get? b = some o ∧ F' b = none := fun b hb o y =>
          have z := L'.pin (b, o) (List.mem_append_right _ (List.mem_append_right _ (mem_pinsAt hb y)))
          ⟨z.1, z.2.1⟩
        refine ⟨m', hm, i + 1, F', (L'.unpinned (pins := [])).weak (by rw [← hw, wipe_length]) (fun j v y => ?_), T.keep _ _ _ t7 fun b hb o y => (pin b hb o y).1, fun b hb => ?_, w'⟩
        · rw [← hw] at y
          exact (wipe_some y).1
        · obtain ⟨o, y, _⟩ := T.obj _ _ t7 b hb
          exact (pin b hb o y).2
      cases c with
      | false =>
        simp only [Bool.false_eq_true, if_false] at q9 ⊢
        exact fin L9 q9
      | true =>
        simp only [if_true] at q9 ⊢
        refine thnF (qk.run _ s9 τ F9 _ L9 q9) fun a1 s10 ⟨yk, F10, L10, r10, q10⟩ => ?_
        refine thnF (qv.run _ s10 τ F10 _ L10 q10) fun a2 s11 ⟨yv, F11, L11, r11, es, k, b, ek, hb, hD, hk, hz, nx⟩ => ?_
        subst ek
        cases (show a1 = Value.ref b from r10)
        exact set_n (X := X.blk s3 G3 scope ce fp) (by show X.A.units + 16 < cLine; omega) L11 hD hk hb hz r11 fun s12 L12 => fin L12 nx
  exact codeAny_compStart_dict go (T.self X.A 0 _ _ _ t4 go)
theorem pe_dcN (hu : X.A.units + 64 < cLine) (hc : X.calm = true) (hN : X.N.Nodup) (hi : PI X tg iter src) (ok : BlkOk X.N X.env.scope scope own)
    (hg : ∀ (s : Shared) (G : Hp) (C : Addr) (cl : List (Str × Addr)) (fp : List Addr), PG (X.blk s G scope (compEnvC scope cl C X.env) fp) tg g)
    (ht : ∀ (s : Shared) (G : Hp) (C : Addr) (cl : List (Str × Addr)) (fp : List Addr), PTs (X.blk s G scope (compEnvC scope cl C X.env) fp) ifs tt)
    (hk : ∀ (s : Shared) (G : Hp) (C : Addr) (cl : List (Str × Addr)) (fp : List Addr), PE (X.blk s G scope (compEnvC scope cl C X.env) fp) kx tk)
    (hv : ∀ (s : Shared) (G : Hp) (C : Addr) (cl : List (Str × Addr)) (fp : List Addr), PE (X.blk s G scope (compEnvC scope cl C X.env) fp) vx tv)
    (hs : ∀ x, foldedSetIterable iter X.env x = pure x := by intro _; rfl) : PE X (.DictComp kx vx [⟨tg, iter, ifs, 0⟩] scope pos) (tDcN X.K X.w src g tt tk tv (own.map (·.2))) := by
  refine ⟨fun pins s σ H Q I h => ?_⟩
  rw [arm_eval_DictComp]
  refine dcN_core I hu hc hN hi ok hg ht hk hv hs h fun D C s' m F J q hn f => ⟨m, hn, fun h'' sb => ?_⟩
  obtain ⟨y0, y1, y2, y3, y4, y5⟩ := f
  exact ⟨.ref D, F, J.turned (t' := s'.toks) (fun b o hb z => (sb.2 b hb).trans z) y0 y1 y3 y4 y5, rfl, q⟩
theorem ps_setDcN {i : Nat} {y : Str} {py spos : Pos} (hy : X.N[i]? = some y) (hl : X.env.scope.names.lookup y = some .local) (hsw : swapsWith (.DictComp kx vx [⟨tg, iter, ifs, 0⟩] scope pos) (some (.Name y py)) spos.line X.env = pure true)
    (hu : X.A.units + 64 < cLine) (hc : X.calm = true) (hN : X.N.Nodup) (hi : PI X tg iter src) (ok : BlkOk X.N X.env.scope scope own)
    (hg : ∀ (s : Shared) (G : Hp) (C : Addr) (cl : List (Str × Addr)) (fp : List Addr), PG (X.blk s G scope (compEnvC scope cl C X.env) fp) tg g)
    (ht : ∀ (s : Shared) (G : Hp) (C : Addr) (cl : List (Str × Addr)) (fp : List Addr), PTs (X.blk s G scope (compEnvC scope cl C X.env) fp) ifs tt)
    (hk : ∀ (s : Shared) (G : Hp) (C : Addr) (cl : List (Str × Addr)) (fp : List Addr), PE (X.blk s G scope (compEnvC scope cl C X.env) fp) kx tk)
    (hv : ∀ (s : Shared) (G : Hp) (C : Addr) (cl : List (Str × Addr)) (fp : List Addr), PE (X.blk s G scope (compEnvC scope cl C X.env) fp) vx tv)
    (hs : ∀ x, foldedSetIterable iter X.env x = pure x := by intro _; rfl) : PS X (.Assign [.Name y py] (.DictComp kx vx [⟨tg, iter, ifs, 0⟩] scope pos) spos) (tAsg (tDcN X.K X.w src g tt tk tv (own.map (·.2))) (gName i)) := by
  refine ⟨fun pins s σ H Ds I h => ?_⟩
  rw [exec_Assign_Name_used _ _ _ _ hsw]
  refine wpAny_bind (wpAny_standAt (wpAny_bind ?_))
  show wpAny _ X.A (do let _ ← comprehension (.DictComp kx vx [⟨tg, iter, ifs, 0⟩] scope pos) scope X.env (firstIterPos [⟨tg, iter, ifs, 0⟩] pos) newDict false (eval iter X.env) (some (assign (.Name y py) X.env))) _ _ s
  have h' : tDcN X.K X.w src g tt tk tv (own.map (·.2)) σ H (fun x G => gName i x σ G Ds.nx) := h
  exact wpAny_bind (thn (dcN_core (Qf := fun _ s' => SP X pins Ds .next s') I hu hc hN hi ok hg ht hk hv hs h' fun D C s' m F J q hn f => R1.dc_store hN hy hl J q hn f) fun _ s' hq => wpAny_pure (wpAny_pure hq))
end
section
variable {J : It} {n : Nat} {G : Hp → Prop} {Y : Nat → Hp → V → Hp → Prop} {g : TG} {tt : TT} {tk tv : TE} {vs : List Nat} {σ : L2.St} {H1 : Hp} {D : Addr} {Qd : Hp → Prop} {K : PySem.W.Frag} {w : World}
theorem dN_it (wk : Walk J n G Y) (Pv : Nat → Hp → Prop) (h0 : Pv 0 (upd H1 D (dN w D []))) (hG : ∀ i H, i ≤ n → Pv i H → G H)
    (hs : ∀ i x H H', i < n → Pv i H → Y i H x H' → g x (wipe σ vs) H' fun τ F2 => wipe τ vs = wipe σ vs ∧ tt τ F2 fun c F3 =>
      if c = true then tk τ F3 fun y F4 => tv τ F4 fun z F5 => ∃ es k b, y = .ref b ∧ KeyAt K F5 k b ∧ F5 D = some (dN w D es) ∧ KeysAt K F5 es ∧ es.length < sizeLine ∧ Pv (i + 1) (upd F5 D (dN w D (putN es k b z))) else Pv (i + 1) F3) (hd : ∀ H, Pv n H → Qd H) :
    ∃ W : Nat → Nat → Hp → Prop, (∃ m, W 0 m (upd H1 D (dN w D []))) ∧ ∀ i m F, W i m F → (J.stop i F ∧ Qd F) ∨ (J.go i F ∧ ∃ Nx : Hp → Prop, (∀ F', Nx F' → ∃ m', m' < m ∧ W (i + 1) m' F') ∧ ∀ x F', J.yld i F x F' → g x (wipe σ vs) F' fun τ F2 => wipe τ vs = wipe σ vs ∧ tt τ F2 fun c F3 =>
      if c = true then tk τ F3 fun y F4 => tv τ F4 fun z F5 => ∃ es k b, y = .ref b ∧ KeyAt K F5 k b ∧ F5 D = some (dN w D es) ∧ KeysAt K F5 es ∧ es.length < sizeLine ∧ Nx (upd F5 D (dN w D (putN es k b z))) else Nx F3) := by
  refine ⟨fun i m F => i + m = n ∧ Pv i F, ⟨n, by omega, h0⟩, fun i m F hW => ?_⟩
  obtain ⟨hm, p⟩ := hW
  have q := hG i F (by omega) p
  by_cases lt : i < n
  · exact .inr ⟨wk.goes i F lt q, Pv (i + 1), fun F' p' => ⟨m - 1, by omega, by omega, p'⟩, fun x F' y => hs i x F F' lt p (wk.yields i F x F' lt q y)⟩
  · obtain rfl : i = n := by omega
    exact .inl ⟨wk.stops F q, hd F p⟩
end
end RN

/-! d.items(), list of it, dict(pairs), of dicts with nested keys -/
namespace RN
open PySem PySem.Spec PyProof.Rows L2
section
variable {X : Cx}
theorem re_at : ∀ {es : List Ent} {xs : List (NestedKey × Addr × Value)}, RE es xs → ∀ (j : Nat) (p : Ent), es[j]? = some p → ∃ q, xs[j]? = some q ∧ p.1 = q.1 ∧ p.2.1 = q.2.1 ∧ RelV p.2.2 q.2.2
  | _, _, .nil, j, p, h => by simp at h
  | _, _, .cons e t, 0, p, h => by cases h; exact ⟨_, rfl, e⟩
  | _, _, .cons e t, j + 1, p, h => by simpa using re_at t j p (by simpa using h)
theorem re_vals : ∀ {es : List Ent} {xs : List (NestedKey × Addr × Value)}, RE es xs → Vals (es.map fun p => p.2.2) (xs.map fun q => q.2.2) ∧ Vals (es.map fun p => V.ref p.2.1) (xs.map fun q => Value.ref q.2.1)
  | _, _, .nil => ⟨.nil, .nil⟩
  | _, _, .cons e t => ⟨.cons e.2.2 (re_vals t).1, .cons (show Value.ref _ = Value.ref _ from congrArg Value.ref e.2.1.symm) (re_vals t).2⟩
theorem raw_n {pins : List (Addr × Obj)} {σ : L2.St} {H : Hp} {s : Shared} {d : Addr} {es : List Ent} (I : Inv X pins σ H s) (hd : H d = some (dN X.w d es)) :
    es.length ≤ sizeLine ∧ (d == sysModules) = false ∧ ∃ xs arr ep, RE es xs ∧ s.heap.DictRaw d arr ep ∧ arr.toList = xs.map fun x => (⟨x.1.hash X.w, .ref x.2.1, x.2.2⟩ : DictEntry) := by
  obtain ⟨⟨a1, a2, xs, a3, a4, o, arr, ep, b1, b2, b3, b4⟩, _, _⟩ := (show ObjOk X.prog X.w H s.heap d (dN X.w d es) from I.hok d _ hd)
  exact ⟨a1, a2, xs, arr, ep, a3, ⟨o, b1, b2, b3⟩, b4⟩
/-- d.items() -/
def rItemsN (w : World) : V → List V → Hp → VK → Prop := fun x vs H Q => ∃ (d : Addr) (es : List Ent), x = .ref d ∧ vs = [] ∧ H d = some (dN w d es) ∧ ∀ p, H p = none → Q (.ref p) (upd H p (L2.DX.itemsO p d))
theorem mt_itemsN {w : World} (hW : X.w = w) : MtR X "dict.items" (rItemsN w) := by
  subst hW
  intro pins s σ H x vs v us Q I rx rxs h
  obtain ⟨d, es, rfl, rfl, hd, q⟩ := h
  cases rx
  cases rxs
  obtain ⟨_, lo, xs, arr, ep, _, ⟨o, b1, b2, b3⟩, _⟩ := raw_n I hd
  refine DT.callItems (es := arr) (ep := ep) lo ⟨o, b1, b2, b3⟩ ?_
  have hf : H s.heap.objs.size = none := I.hok.fresh (Nat.le_refl _)
  exact ⟨.ref s.heap.objs.size, upd H s.heap.objs.size (L2.DX.itemsO s.heap.objs.size d), I.laid (t' := s.toks) (fun b u e => Heap.get?_push_of_some _ e) (Nat.le_refl _) (L2.DX.itemsO_ok (Heap.get?_push_size _ rfl)), rfl, q _ hf⟩
/-- list(d.items()) -/
def rListItN (w : World) : List V → Hp → VK → Prop := fun vs H Q => ∃ (p d : Addr) (es : List Ent), vs = [.ref p] ∧ H p = some (L2.DX.itemsO p d) ∧ H d = some (dN w d es) ∧ es.length ≤ 1000 ∧
  ∀ (H2 : Hp) (l : Addr) (as : List Addr), Same H H2 → H l = none → as.length = es.length → H2 l = some (.lst (as.map V.ref)) → (∀ (j : Nat) (c : Addr) (e : Ent), as[j]? = some c → es[j]? = some e → H2 c = some (.tup [.ref e.2.1, e.2.2])) → Q (.ref l) H2
theorem call_listItN {w : World} (hc : X.calm = true) (hW : X.w = w) : CallR X (.type "list") (rListItN w) := by
  subst hW
  intro pins s σ H vs us Q I r h
  obtain ⟨p, d, es, rfl, hp, hd, hl, q⟩ := h
  obtain ⟨u, rfl, rx⟩ := vals1 r
  cases rx
  obtain ⟨_, lo, xs, arr, ep, re, raw, ha⟩ := raw_n I hd
  have hv : s.heap.IsItemsView p d := (show ObjOk X.prog X.w H s.heap p (L2.DX.itemsO p d) from I.hok p _ hp).1
  have l1 : xs.length = es.length := (Paired.length re).symm
  have l2 : arr.size = es.length := by
    rw [← Array.length_toList, ha, List.length_map, l1]
  obtain ⟨rv, rk⟩ := re_vals re
  refine PySem.W.dil_call (I.ok.hd hc) hv raw (by rw [l2, sizeLine_eq]; omega) fun h' tk acc c as hk hS hal G hacc => ?_
  have G2 : R1.Prs h' (s.heap.objs.size + 1) (xs.map fun q => Value.ref q.2.1).toArray (xs.map fun q => q.2.2).toArray as := by
    refine ⟨G.rise, fun c hc => G.above c hc, fun j c hj => ?_⟩
    obtain ⟨hj2, e⟩ := G.pairs j c hj
    have hx : j < xs.length := by rw [l1, ← l2]; exact hj2
    have e1 : arr[j] = (⟨xs[j].1.hash X.w, .ref xs[j].2.1, xs[j].2.2⟩ : DictEntry) := by
      have z : arr.toList[j]? = some arr[j] := by rw [Array.getElem?_toList]; exact Array.getElem?_eq_getElem hj2
      rw [ha, List.getElem?_map, List.getElem?_eq_getElem hx] at z
      exact (Option.some.inj z).symm
    rw [e1] at e
    exact ⟨_, _, by simp [hx], by simp [hx], e⟩
  obtain ⟨H2, sm, n0, at0, att, J⟩ := R1.zip_laid (tk := tk) I rk rv (by omega) hk (Nat.le_refl _) (Nat.lt_succ_self _) hS G2 hacc
  refine ⟨.ref s.heap.objs.size, H2, J, rfl, q H2 _ as sm n0 (by omega) at0 fun j c e hj he => att j c _ _ hj (by rw [List.getElem?_map, he]; rfl) (by rw [List.getElem?_map, he]; rfl)⟩
/-- tuple(xs) of a list, the very object known -/
def FrzT (H : Hp) (a : Addr) (xs : List V) : Prop := ∃ o : Obj, o.dict = none ∧ H a = some (.frz o (.tup xs))
theorem call_tupleF : CallR X (.type "tuple") (fun vs H Q => ∃ p ys, vs = [V.ref p] ∧ H p = some (.lst ys) ∧ ∀ l H', H l = none → Same H H' → FrzT H' l ys → Q (.ref l) H') := by
  intro pins s σ H vs us Q I r h
  obtain ⟨p, ys, rfl, hp, q⟩ := h
  obtain ⟨u, rfl, rx⟩ := vals1 r
  cases rx
  obtain ⟨its, r', pl, hz⟩ := I.list (show SqL X.K H p ys from .of hp)
  have hlen := r'.length
  refine call_tuple_list pl.isList (fun h' kp => ?_) (by simp only [List.size_toArray] <;> omega)
  have I1 : Inv X pins σ H { s with heap := h' } := I.kept (t' := s.toks) kp
  have nl : H h'.objs.size = none := I1.hok.fresh (Nat.le_refl _)
  have I2 : Inv X pins σ (upd H h'.objs.size (.frz { cls := .type "tuple", data := .seq its.toArray } (.tup ys))) { s with heap := h'.push { cls := .type "tuple", data := .seq its.toArray } } :=
    I1.laid (t' := s.toks) (fun b o e => Heap.get?_push_of_some _ e) (Nat.le_refl _) ⟨Heap.get?_push_size _ rfl, hz, its, r', IsTup.new _ _⟩
  refine ⟨.ref h'.objs.size, _, I2, rfl, q _ _ nl (fun a o e => by rw [upd_ne (ne_of_none e nl)]; exact e) ⟨_, rfl, upd_same⟩⟩
/-- dict(t), t a tuple of pairs with different keys -/
def rDictPN (K : PySem.W.Frag) (w : World) : List V → Hp → VK → Prop := fun vs H Q => ∃ (t : Addr) (cs : List Addr) (es : List Ent), vs = [.ref t] ∧ FrzT H t (cs.map V.ref) ∧ cs.length = es.length ∧ es.length ≤ 1000 ∧
  (∀ (j : Nat) (c : Addr) (e : Ent), cs[j]? = some c → es[j]? = some e → SqT K H c [.ref e.2.1, e.2.2]) ∧ KeysAt K H es ∧ (es.map (·.1)).Nodup ∧ ∀ d, H d = none → Q (.ref d) (upd H d (dN w d es))
theorem re_nodup : ∀ {es : List Ent} {xs : List (NestedKey × Addr × Value)}, RE es xs → es.map (·.1) = xs.map (·.1)
  | _, _, .nil => rfl
  | _, _, .cons e t => by rw [List.map_cons, List.map_cons, re_nodup t, e.1]
theorem pairs_n {pins : List (Addr × Obj)} {σ : L2.St} {H : Hp} {s : Shared} (I : Inv X pins σ H s) : ∀ (es : List Ent) (cs : List Addr), cs.length = es.length → (∀ (j : Nat) (c : Addr) (e : Ent), cs[j]? = some c → es[j]? = some e → SqT X.K H c [.ref e.2.1, e.2.2]) →
    ∃ xs, RE es xs ∧ ∀ (j : Nat) (c : Addr) (x : NestedKey × Addr × Value), cs[j]? = some c → xs[j]? = some x → s.heap.IsTuple c #[.ref x.2.1, x.2.2]
  | [], [], _, _ => ⟨[], .nil, fun j c x h => by simp at h⟩
  | e :: es, c :: cs, hl, f => by
    obtain ⟨xs, re, g⟩ := pairs_n I es cs (Nat.succ.inj hl) fun j b p h1 h2 => f (j + 1) b p (by simpa using h1) (by simpa using h2)
    obtain ⟨its, rv, ht, _⟩ := I.tuple (f 0 c e rfl rfl)
    obtain ⟨u1, u2, rfl, e1, e2⟩ := vals2 rv
    cases e1
    refine ⟨(e.1, e.2.1, u2) :: xs, .cons ⟨rfl, rfl, e2⟩ re, fun j b x h1 h2 => ?_⟩
    cases j with
    | zero => cases h1; cases h2; exact ht
    | succ j => exact g j b x (by simpa using h1) (by simpa using h2)
theorem refs_of : ∀ {cs : List Addr} {us : List Value}, Vals (cs.map V.ref) us → us = cs.map Value.ref
  | [], _, r => by cases r; rfl
  | c :: cs, _, r => by
    rw [List.map_cons] at r
    cases r with
    | cons h t => cases h; rw [List.map_cons, ← refs_of t]
theorem call_dictPN {K : PySem.W.Frag} {w : World} (hc : X.calm = true) (hu : X.A.units + 16 < cLine) (hK : X.K = K) (hW : X.w = w) : CallR X (.type "dict") (rDictPN K w) := by
  subst hK hW
  intro pins s σ H vs us Q I r h
  obtain ⟨t, cs, es, rfl, ⟨o, hod, ht⟩, hl, hl2, hp, hk, hn, q⟩ := h
  obtain ⟨u, rfl, rx⟩ := vals1 r
  cases rx
  obtain ⟨ho, hz, its, rv, o2, ho2, hcl, n, hdat⟩ := (show ObjOk X.prog X.w H s.heap t (.frz o (.tup (cs.map V.ref))) from I.hok t _ ht)
  rw [ho] at ho2
  obtain rfl : o = o2 := Option.some.inj ho2
  have ei := refs_of rv
  subst ei
  obtain ⟨xs, re, g⟩ := pairs_n I es cs hl hp
  have lx : xs.length = es.length := (Paired.length re).symm
  have nd : (xs.map (·.1)).Nodup := by rw [← re_nodup re]; exact hn
  have hi : ∀ x ∈ xs, (nestedKind X.prog X.w).is s.heap x.1 x.2.1 := re_keys re (P := fun k b => (nestedKind X.prog X.w).is s.heap k b) fun p hp => key_is I (hk p hp)
  have lps : (xs.map fun x => (Value.ref x.2.1, x.2.2)).length = xs.length := by rw [List.length_map]
  have c1 : X.A.units + 16 < cLine := hu
  refine call_dict_pairsH (knd := nestedKind X.prog X.w) (ps := xs) (PairArg.tuple t (cs.map Value.ref).toArray (fun j => cs.getD j 0) (xs.map fun x => (Value.ref x.2.1, x.2.2))) (I.ok.hd hc) (by show X.A.in1.in1.units + 8 < cLine; simp only [Around.in1_units]; omega)
    ⟨⟨o, n, ho, hcl, hod, hdat⟩, ⟨by simp; omega, fun j k v hj => ?_⟩⟩ ⟨lps.symm, fun i key v hi => ?_⟩ (fun h' kp x hx => ?_) (by rw [lps, lx, sizeLine_eq]; omega) fun h' tk dd kp => ?_
  · rw [List.getElem?_map] at hj
    cases e : xs[j]? with
    | none => rw [e] at hj; cases hj
    | some x =>
      rw [e] at hj
      cases hj
      have hj2 : j < cs.length := by
        have := (List.getElem?_eq_some_iff.mp e).1
        omega
      have gc : cs[j]? = some cs[j] := List.getElem?_eq_getElem hj2
      have gd : cs.getD j 0 = cs[j] := by rw [List.getD_eq_getElem?_getD, gc]; rfl
      refine ⟨by simp [hj2], .inl ?_⟩
      show s.heap.IsTuple (cs.getD j 0) _
      rw [gd]
      exact g j _ x gc e
  · have hi' : (xs.map fun x => (Value.ref x.2.1, x.2.2))[i]? = some (key, v) := hi
    rw [List.getElem?_map] at hi'
    cases e : xs[i]? with
    | none => rw [e] at hi'; cases hi'
    | some x =>
      rw [e] at hi'
      cases hi'
      exact ⟨x.1, x.2.1, rfl, rfl⟩
  · exact ⟨NestedIs.at (fun a ob vs m hb _ => kp a ob (Nat.ne_of_lt (Heap.lt_size hb)) (by simp) hb) _ _ (hi x hx).1, (hi x hx).2⟩
  · have k2 : ∀ b ob, s.heap.get? b = some ob → h'.get? b = some ob := fun b ob e => kp b ob (by simp) e
    rw [storedAllH_nil_of_nodup xs nd] at dd
    obtain ⟨od, arr, ep, b1, b2, b3, b4, _, b5⟩ := dd
    have hm : (s.heap.objs.size == sysModules) = false := beq_eq_false_iff_ne.mpr (Nat.ne_of_gt I.big)
    exact ⟨.ref s.heap.objs.size, _, I.laid (t' := tk) k2 (Nat.le_refl _) (dN_ok ⟨by rw [sizeLine_eq]; omega, hm, xs, re, nd, od, arr, ep, b1, b2, b3, b4⟩), rfl, q _ (I.hok.fresh (Nat.le_refl _))⟩
end
end RN

/-! [d, l] != [d2, l2], a dict and a list within -/
namespace RN
open PySem PySem.Spec PyProof.Rows L2 SeqAt
theorem kv_same {kvs : List (Key × V)} : ∀ {xs ys : List (Key × Value)}, (∀ p ∈ kvs, ∃ a, p.2 = V.ref a) → KV kvs xs → KV kvs ys → xs = ys := by
  intro xs ys h r t
  induction r generalizing ys with
  | nil => cases t; rfl
  | @cons p q ps qs e r ih =>
    cases t with
    | @cons _ q2 _ qs2 e2 t =>
      obtain ⟨a, ha⟩ := h p List.mem_cons_self
      have z1 := e.2
      have z2 := e2.2
      rw [ha] at z1 z2
      have : q = q2 := Prod.ext (e.1.symm.trans e2.1) ((show q.2 = Value.ref a from z1).trans (show q2.2 = Value.ref a from z2).symm)
      rw [this, ih (fun p hp => h p (List.mem_cons_of_mem _ hp)) t]
theorem hits_self {A : Around} {s : Shared} {kb : List (Key × Value)} : ∀ (l : List (Key × Value)), (∀ p ∈ l, valueAt kb p.1 = some p.2) → PySem.W.KeqHits A s kb l true
  | [], _ => .nil
  | (k, v) :: r, h => by
    have := PySem.W.KeqHits.hit (A := A) (s := s) (h (k, v) List.mem_cons_self) (EqAt.same v) (hits_self r fun p hp => h p (List.mem_cons_of_mem _ hp))
    exact this
theorem pairs_to {P P' : Program} {w w' : World} : ∀ {es : List DictEntry} {xs : List (Key × Value)}, Pairs (mixKind P w) es xs → Pairs (mixKind P' w') es xs
  | _, _, .nil => .nil
  | _, _, .cons h e t => .cons h e (pairs_to t)
theorem pairs_mem {P : Program} {w : World} : ∀ {es : List DictEntry} {xs : List (Key × Value)}, Pairs (mixKind P w) es xs → ∀ e ∈ es, ∃ p ∈ xs, (mixKind P w).is p.1 e.key = true
  | _, _, .nil, _, h => nomatch h
  | _, _, .cons (kv := kv) h e t, x, hx => by
    rcases List.mem_cons.mp hx with rfl | hx
    · exact ⟨kv, List.mem_cons_self, h⟩
    · obtain ⟨p, hp, q⟩ := pairs_mem t x hx
      exact ⟨p, List.mem_cons_of_mem _ hp, q⟩
/-- a dict with int keys alone is one whatever the world -/
theorem dict_any {P P' : Program} {w w' : World} {h : Heap} {d : Addr} {xs : List (Key × Value)} (hi : ∀ p ∈ xs, ∃ n, p.1 = Sum.inl n) (x : h.DictOf (mixKind P w) d xs) : h.DictOf (mixKind P' w') d xs := by
  obtain ⟨o, es, ep, a1, a2, a3, a4, a5, a6⟩ := x
  refine ⟨o, es, ep, a1, a2, a3, fun e he => ?_, pairs_to a5, a6⟩
  obtain ⟨k, k1, k2⟩ := a4 e he
  obtain ⟨p, hp, p1⟩ := pairs_mem a5 e (by simpa using he)
  obtain ⟨n, hn⟩ := hi p hp
  have := (mixKind P w).inj _ _ _ k1 p1
  rw [hn] at this
  subst this
  exact ⟨.inl n, k1, k2⟩
section
variable {X : Cx}
def rNeDL (K : PySem.W.Frag) : R2 := fun x y H Q => ∃ (l m d e a b : Addr) (kvs : List (Key × V)) (u : PyData), x = .ref l ∧ y = .ref m ∧ SqL K H l [.ref d, .ref a] ∧ SqL K H m [.ref e, .ref b] ∧ H d = some (.dK kvs) ∧ H e = some (.dK kvs) ∧ (∀ p ∈ kvs, (∃ n, p.1 = Sum.inl n) ∧ ∃ c, p.2 = .ref c) ∧
  Dp K H (.ref a) u ∧ Dp K H (.ref b) u ∧ SeqAt.shaped u = true ∧ PyData.eqv u u = true ∧ Q (.bl false) H
theorem op_neDL (hu : X.A.units + 80 < cLine) : OpR X (compareOp .NotEq) (rNeDL X.K) := by
  intro pins s σ H x y v w Q I rx ry h
  obtain ⟨l, m, d, e, a, b, kvs, u, rfl, rfl, hl, hm, hd, he, hr, ha, hb, hs, huu, q⟩ := h
  cases rx
  cases ry
  obtain ⟨i1, r1, p1, _⟩ := I.list hl
  obtain ⟨i2, r2, p2, _⟩ := I.list hm
  obtain ⟨u1, u2, rfl, e1, e2⟩ := vals2 r1
  obtain ⟨u3, u4, rfl, e3, e4⟩ := vals2 r2
  cases e1; cases e2; cases e3; cases e4
  obtain ⟨zd, lod, xs, kx, dx⟩ := dk_of I.hok hd
  obtain ⟨ze, loe, ys, ky, dy⟩ := dk_of I.hok he
  obtain rfl := kv_same (fun p hp => (hr p hp).2) kx ky
  have nd : (xs.map (·.1)).Nodup := let ⟨_, _, _, _, _, _, _, _, z⟩ := dx; z
  have hi : ∀ p ∈ xs, ∃ n, p.1 = Sum.inl n := fun p hp => by
    obtain ⟨j, hj⟩ := List.mem_iff_getElem?.mp hp
    have e1 : (kvs.map (·.1))[j]? = some p.1 := by rw [KV.keys kx, List.getElem?_map, hj]; rfl
    rw [List.getElem?_map] at e1
    cases e2 : kvs[j]? with
    | none => rw [e2] at e1; cases e1
    | some z =>
      rw [e2] at e1
      obtain ⟨n, hn⟩ := (hr z (List.mem_of_getElem? e2)).1
      exact ⟨n, (Option.some.inj e1).symm.trans hn⟩
  have c1 : X.A.units + 80 < cLine := hu
  have eqD : EqAt X.A.in1 s (.ref d) (.ref e) true := by
    by_cases c : d = e
    · subst c
      exact EqAt.same _
    · refine EqAt.of_refs c fun P' w' E' Q' h' => ?_
      refine PySem.W.keq_eq (knd := mixKind P' w') (r := true) lod loe (dict_any hi dx) (dict_any hi dy) (by simp only [Around.in1_units]; omega) (fun _ => hits_self xs fun p hp => valueAt_of_mem nd hp) ?_
      simpa using h'
  obtain ⟨as, ra⟩ := Dp.reads I u _ (.ref a) ha rfl
  obtain ⟨bs, rb⟩ := Dp.reads I u _ (.ref b) hb rfl
  have eqL : EqAt X.A.in1 s (.ref a) (.ref b) true := by
    have := PySem.W.keq_at (A := X.A) ra rb hs hs (by simp only [Around.in1_units]; omega)
    rw [huu] at this
    exact this
  have key := RcNeAt.lists (A := X.A) (e := fun _ => true) p1.isList p2.isList rfl (by omega) (fun j h1 h2 => by
    match j, h1, h2 with
    | 0, _, _ => exact eqD
    | 1, _, _ => exact eqL
    | j + 2, h1, _ => exact absurd (show j + 2 < 2 from h1) (by omega))
  exact key X.prog X.w _ _ ⟨.bl false, H, I, rfl, q⟩
end
end RN

/-! o[k] by the class's own __getitem__, as an expression -/
namespace R1
open PySem PySem.Spec PyProof.Rows L2
section
variable {X : Cx} {CX : CXT} {n : Nat} {C g : Addr} {sp : Sp} {E : XK} {o i : Expr} {to ti : TE} {pos : Pos}
def tIxO (C : Addr) (sp : Sp) (E : XK) (to ti : TE) : TE := fun σ H Q => to σ H fun x H1 => ti σ H1 fun y H2 => rIxO C sp E x y H2 Q
theorem pe_ixO (ho : PE X o to) (hi : PE X i ti) (hs : PySem.W.findIn X.K (.ref C) "__getitem__" = some (some (.ref g))) (hf : PySem.W.fnIn X.K g = true) (hfn : PySem.W.isFn X.K (.ref g) = true) (F : FnR X.prog X.w X.K X.mg X.base CX n g sp) (hr : Room (n + 1) X.A) (hx : Passes CX X E)
    (hsl : ∀ (x : Addr) (v : Value), subscripted i true (.ref x) v = runValue (.builtin "lifetime.subscript" ⟨[.ref x, v], []⟩)) : PE X (.Subscript o i pos) (tIxO C sp E to ti) := by
  refine ⟨fun pins s σ H Q I h => Subscript_ (thn (ho.run pins s σ H _ I h) fun u s1 ⟨x, H1, I1, rx, q1⟩ => thn (hi.run pins s1 σ H1 _ I1 q1) fun iv s2 ⟨y, H2, I2, ry, a, dx, fs, ex, ha, q⟩ => ?_)⟩
  subst ex
  cases rx
  obtain ⟨mA, J, _⟩ := ins_get I2.hok ha
  obtain ⟨od, J, _⟩ := J.look
  obtain ⟨m, hF⟩ := I2.fr
  exact PySem.W.sub_K hF I2.ok.mod.kin J hs hf hfn (wpAny_call (run_fnR1 (us := [.ref a, iv]) (vs := [.ref a, y]) F hr hx I2 (.cons rfl (.cons ry .nil)) q)) (hsl a iv)
end
end R1

/-! unit propagation, over literals as pairs of a number and a sign -/
namespace K16
abbrev Lt := Nat × Bool
abbrev Row := Nat × List Lt
abbrev Stp := Lt × Nat
def ng (l : Lt) : Lt := (l.1, !l.2)
def left (c held : List Lt) : List Lt := c.filter fun l => !decide (ng l ∈ held)
def fires (c held : List Lt) : Bool := decide ((left c held).length = 0) || (decide ((left c held).length = 1) && (left c held).all fun l => !decide (l ∈ held))
def chosen (rows : List Row) (held : List Lt) : Option Row := rows.find? fun r => fires r.2 held
def hs (st : List Stp) : List Lt := st.map (·.1)
def run : Nat → List Row → List Stp → List Stp × Nat
  | 0, _, st => (st, 0)
  | n + 1, rows, st => match chosen rows (hs st) with
    | none => (st, 0)
    | some r => match left r.2 (hs st) with
      | [] => (st, r.1)
      | l :: _ => run n rows (st ++ [(l, r.1)])
def pot (rows : List Row) (st : List Stp) : Nat := ((rows.flatMap (·.2)).filter fun l => !decide (l ∈ hs st)).length
theorem hs_snoc (st : List Stp) (p : Stp) : hs (st ++ [p]) = hs st ++ [p.1] := by unfold hs; rw [List.map_append]; rfl
theorem filter_lt {α : Type} {p q : α → Bool} : ∀ {l : List α} (_ : ∀ x ∈ l, q x = true → p x = true) {y : α}, y ∈ l → p y = true → q y = false → (l.filter q).length < (l.filter p).length
  | [], _, _, hy, _, _ => nomatch hy
  | x :: l, h, y, hy, hp, hq => by
    have le : (l.filter q).length ≤ (l.filter p).length := by
      have : ∀ (l : List α), (∀ x ∈ l, q x = true → p x = true) → (l.filter q).length ≤ (l.filter p).length := by
        intro l
        induction l with
        | nil => intro _; exact Nat.le_refl _
        | cons z l ih =>
          intro hh
          have i := ih fun x hx => hh x (List.mem_cons_of_mem _ hx)
          rw [List.filter_cons, List.filter_cons]
          by_cases c : q z = true
          · rw [if_pos c, if_pos (hh z List.mem_cons_self c), List.length_cons, List.length_cons]; omega
          · rw [if_neg c]
            split
            · rw [List.length_cons]; omega
            · exact i
      exact this l fun x hx => h x (List.mem_cons_of_mem _ hx)
    rw [List.filter_cons, List.filter_cons]
    rcases List.mem_cons.mp hy with e | hy
    · subst e
      rw [if_pos hp, hq, if_neg (by decide), List.length_cons]; omega
    · have i := filter_lt (fun x hx => h x (List.mem_cons_of_mem _ hx)) hy hp hq
      by_cases c : q x = true
      · rw [if_pos c, if_pos (h x List.mem_cons_self c), List.length_cons, List.length_cons]; omega
      · rw [if_neg c]
        split
        · rw [List.length_cons]; omega
        · exact i
theorem chosen_mem {rows : List Row} {held : List Lt} {r : Row} (h : chosen rows held = some r) : r ∈ rows ∧ fires r.2 held = true := ⟨List.mem_of_find?_eq_some h, by have := List.find?_some h; exact this⟩
theorem fires_one {c held : List Lt} {l : Lt} {ls : List Lt} (h : fires c held = true) (e : left c held = l :: ls) : ls = [] ∧ l ∉ held := by
  unfold fires at h
  rw [e] at h
  simp only [List.length_cons, Bool.or_eq_true, decide_eq_true_eq, Bool.and_eq_true, List.all_cons, Bool.not_eq_true', decide_eq_false_iff_not] at h
  rcases h with h | ⟨h1, h2, _⟩
  · omega
  · exact ⟨List.length_eq_zero_iff.mp (by omega), h2⟩
theorem pot_lt {rows : List Row} {st : List Stp} {r : Row} {l : Lt} {ls : List Lt} (h : chosen rows (hs st) = some r) (e : left r.2 (hs st) = l :: ls) : pot rows (st ++ [(l, r.1)]) < pot rows st := by
  obtain ⟨hr, hf⟩ := chosen_mem h
  obtain ⟨_, hl⟩ := fires_one hf e
  have hc : l ∈ r.2 := by
    have : l ∈ left r.2 (hs st) := by rw [e]; exact List.mem_cons_self
    exact (List.mem_filter.mp this).1
  unfold pot
  rw [hs_snoc]
  refine filter_lt (y := l) (fun x _ hx => ?_) (List.mem_flatMap.mpr ⟨r, hr, hc⟩) ?_ ?_
  · simp only [Bool.not_eq_true', decide_eq_false_iff_not, List.mem_append, not_or] at hx ⊢
    exact hx.1
  · simpa using hl
  · simp
/-- more turns than the potential change nothing -/
theorem run_more {rows : List Row} : ∀ (n m : Nat) (st : List Stp), pot rows st < n → pot rows st < m → run n rows st = run m rows st
  | 0, _, _, h, _ => absurd h (Nat.not_lt_zero _)
  | _ + 1, 0, _, _, h => absurd h (Nat.not_lt_zero _)
  | n + 1, m + 1, st, h, h' => by
    unfold run
    cases hc : chosen rows (hs st) with
    | none => rfl
    | some r =>
      cases hl : left r.2 (hs st) with
      | nil => simp only [hl]
      | cons l ls =>
        simp only [hl]
        have lt := pot_lt hc hl
        exact run_more n m _ (by omega) (by omega)
/-- what the end is like -/
theorem run_end {rows : List Row} : ∀ (n : Nat) (st : List Stp), pot rows st < n → ∃ more, (run n rows st).1 = st ++ more ∧ (hs st).length + more.length = (hs (st ++ more)).length ∧
    ((chosen rows (hs (st ++ more)) = none ∧ (run n rows st).2 = 0) ∨ ∃ r, chosen rows (hs (st ++ more)) = some r ∧ left r.2 (hs (st ++ more)) = [] ∧ (run n rows st).2 = r.1)
  | 0, _, h => absurd h (Nat.not_lt_zero _)
  | n + 1, st, h => by
    unfold run
    cases hc : chosen rows (hs st) with
    | none => exact ⟨[], by simp, by simp, .inl ⟨by simpa using hc, rfl⟩⟩
    | some r =>
      cases hl : left r.2 (hs st) with
      | nil => 
        simp only [hl]
        exact ⟨[], by simp, by simp, .inr ⟨r, by simpa using hc, by simpa using hl, rfl⟩⟩
      | cons l ls =>
        simp only [hl]
        have lt := pot_lt hc hl
        obtain ⟨more, e1, e2, e3⟩ := run_end (rows := rows) n (st ++ [(l, r.1)]) (by omega)
        refine ⟨(l, r.1) :: more, by rw [e1]; simp, ?_, ?_⟩
        · unfold hs; simp
        · have ea : st ++ [(l, r.1)] ++ more = st ++ (l, r.1) :: more := by simp
          rw [ea] at e3
          exact e3
theorem left_sub {c a b : List Lt} (h : ∀ l ∈ a, l ∈ b) : ∀ l ∈ left c b, l ∈ left c a := by
  intro l hl
  unfold left at hl ⊢
  rw [List.mem_filter] at hl ⊢
  refine ⟨hl.1, ?_⟩
  have := hl.2
  simp only [Bool.not_eq_true', decide_eq_false_iff_not] at this ⊢
  exact fun z => this (h _ z)
/-- while one way of going ends without a clash, every way stays below its end and does not clash -/
theorem below {rows : List Row} {big : List Lt} (hb : ∀ r ∈ rows, fires r.2 big = false) : ∀ (n : Nat) (st : List Stp), (∀ l ∈ hs st, l ∈ big) → (∀ r ∈ rows, 0 < r.1) →
    (run n rows st).2 = 0 ∧ ∀ l ∈ hs (run n rows st).1, l ∈ big
  | 0, st, h, _ => ⟨rfl, h⟩
  | n + 1, st, h, hp => by
    unfold run
    cases hc : chosen rows (hs st) with
    | none => exact ⟨rfl, h⟩
    | some r =>
      obtain ⟨hr, hf⟩ := chosen_mem hc
      have nb := hb r hr
      have sub := left_sub (c := r.2) h
      unfold fires at nb
      simp only [Bool.or_eq_false_iff, decide_eq_false_iff_not, Bool.and_eq_false_imp, decide_eq_true_eq] at nb
      cases hl : left r.2 (hs st) with
      | nil =>
        exfalso
        rw [hl] at sub
        exact nb.1 (by rw [List.eq_nil_iff_forall_not_mem.mpr fun l z => nomatch sub l z]; rfl)
      | cons l ls =>
        simp only [hl]
        obtain ⟨e1, _⟩ := fires_one hf hl
        subst e1
        refine below hb n _ (fun x hx => ?_) hp
        rw [hs_snoc] at hx
        rcases List.mem_append.mp hx with hx | hx
        · exact h x hx
        · rw [List.mem_singleton.mp hx]
          show l ∈ big
          have ge : (left r.2 big).length ≤ 1 := by
            have : (left r.2 big).length ≤ (left r.2 (hs st)).length := by
              have key : ∀ c : List Lt, (left c big).length ≤ (left c (hs st)).length := by
                intro c
                induction c with
                | nil => exact Nat.le_refl _
                | cons y c ih =>
                  unfold left at ih ⊢
                  rw [List.filter_cons, List.filter_cons]
                  by_cases q : (!decide (ng y ∈ big)) = true
                  · have q2 : (!decide (ng y ∈ hs st)) = true := by
                      simp only [Bool.not_eq_true', decide_eq_false_iff_not] at q ⊢
                      exact fun z => q (h _ z)
                    rw [if_pos q, if_pos q2, List.length_cons, List.length_cons]; omega
                  · rw [if_neg q]
                    split
                    · rw [List.length_cons]; omega
                    · exact ih
              exact key r.2
            rw [hl] at this
            exact this
          have one : (left r.2 big).length = 1 := by
            have := nb.1
            omega
          obtain ⟨y, hy⟩ := List.length_eq_one_iff.mp one
          have ym := sub y (by rw [hy]; exact List.mem_cons_self)
          rw [hl, List.mem_singleton] at ym
          subst ym
          have h3 := nb.2 one
          rw [hy] at h3
          simpa using h3
theorem no_fire {rows : List Row} {held : List Lt} (h : chosen rows held = none) : ∀ r ∈ rows, fires r.2 held = false := fun r hr => by
  have := List.find?_eq_none.mp h r hr
  simpa using this
theorem run_le {rows : List Row} {n : Nat} {st : List Stp} (h : pot rows st < n) : ∀ l ∈ hs st, l ∈ hs (run n rows st).1 := fun l hl => by
  obtain ⟨more, e, _⟩ := run_end n st h
  rw [e]
  unfold hs at hl ⊢
  rw [List.map_append]
  exact List.mem_append_left _ hl
theorem zero_end {rows : List Row} {n : Nat} {st : List Stp} (h : pot rows st < n) (hp : ∀ r ∈ rows, 0 < r.1) (z : (run n rows st).2 = 0) : chosen rows (hs (run n rows st).1) = none := by
  obtain ⟨more, e, _, e3⟩ := run_end n st h
  rw [e]
  rcases e3 with ⟨e3, _⟩ | ⟨r, e3, _, e5⟩
  · exact e3
  · have := hp r (chosen_mem e3).1
    omega
theorem same_end {rows rows' : List Row} (hm : ∀ r, r ∈ rows ↔ r ∈ rows') (hp : ∀ r ∈ rows, 0 < r.1) {n : Nat} {st : List Stp} (h : pot rows st < n) (h' : pot rows' st < n) (z : (run n rows st).2 = 0) :
    (run n rows' st).2 = 0 ∧ ∀ l, l ∈ hs (run n rows st).1 ↔ l ∈ hs (run n rows' st).1 := by
  have hp' : ∀ r ∈ rows', 0 < r.1 := fun r hr => hp r ((hm r).mpr hr)
  have e1 := zero_end h hp z
  have b1 := below (rows := rows') (fun r hr => no_fire e1 r ((hm r).mpr hr)) n st (run_le h) hp'
  have e2 := zero_end h' hp' b1.1
  have b2 := below (rows := rows) (fun r hr => no_fire e2 r ((hm r).mp hr)) n st (run_le h') hp
  exact ⟨b1.1, fun l => ⟨b2.2 l, b1.2 l⟩⟩
theorem hs_nodup {rows : List Row} : ∀ (n : Nat) (st : List Stp), (hs st).Nodup → (hs (run n rows st).1).Nodup
  | 0, _, h => h
  | n + 1, st, h => by
    unfold run
    cases hc : chosen rows (hs st) with
    | none => exact h
    | some r =>
      cases hl : left r.2 (hs st) with
      | nil => simpa only [hl] using h
      | cons l ls =>
        simp only [hl]
        refine hs_nodup n _ ?_
        rw [hs_snoc]
        obtain ⟨_, nl⟩ := fires_one (chosen_mem hc).2 hl
        refine List.nodup_append.mpr ⟨h, by simp, fun x hx y hy e => ?_⟩
        rw [List.mem_singleton.mp hy] at e
        subst e
        exact nl hx
end K16

namespace K16
open PySem PySem.Spec PyProof.Rows L2
def topS (i : Nat) : Stmt := PySem.Challenge.pw_onelooker_k16_replayed_steps.main.body.getD i (.Pass ⟨0, 0, 0, 0⟩)
abbrev s_is_int : Stmt := topS 6
theorem sc_is_int : FnScope ["value"] ["value"] (defScope s_is_int) := ⟨rfl, rfl, rfl, by decide +kernel, rfl, by decide +kernel, by decide +kernel⟩
abbrev s_negated : Stmt := topS 8
theorem sc_negated : FnScope ["literal", "atom", "sign"] ["literal"] (defScope s_negated) := ⟨rfl, rfl, rfl, by decide +kernel, rfl, by decide +kernel, by decide +kernel⟩
abbrev s_undenied : Stmt := topS 10
theorem sc_undenied : FnScope ["clause", "held", "literal"] ["clause", "held"] (defScope s_undenied) := ⟨rfl, rfl, rfl, by decide +kernel, rfl, by decide +kernel, by decide +kernel⟩
abbrev s_next_step : Stmt := topS 11
theorem sc_next_step : FnScope ["clauses", "order", "held", "label", "left"] ["clauses", "order", "held"] (defScope s_next_step) := ⟨rfl, rfl, rfl, by decide +kernel, rfl, by decide +kernel, by decide +kernel⟩
abbrev s_is_right_step : Stmt := topS 12
theorem sc_is_right_step : FnScope ["clauses", "literal", "label", "held", "earlier"] ["clauses", "literal", "label", "held"] (defScope s_is_right_step) := ⟨rfl, rfl, rfl, by decide +kernel, rfl, by decide +kernel, by decide +kernel⟩
abbrev s_checked_order : Stmt := topS 14
theorem sc_checked_order : FnScope ["clauses", "order", "labels", "label"] ["clauses", "order"] (defScope s_checked_order) := ⟨rfl, rfl, rfl, by decide +kernel, rfl, by decide +kernel, by decide +kernel⟩
abbrev s_propagate : Stmt := topS 15
theorem sc_propagate : FnScope ["clauses", "start", "order", "labels", "held", "step", "literal"] ["clauses", "start", "order"] (defScope s_propagate) := ⟨rfl, rfl, rfl, by decide +kernel, rfl, by decide +kernel, by decide +kernel⟩
abbrev s_l_state : Stmt := topS 17
theorem sc_l_state : FnScope ["_law_script"] ["_law_script"] (defScope s_l_state) := ⟨rfl, rfl, rfl, by decide +kernel, rfl, by decide +kernel, by decide +kernel⟩
abbrev s_l_draw : Stmt := topS 18
theorem sc_l_draw : FnScope ["_law_state_here", "_law_many", "_law_cell", "_law_found", "_law_mixed"] ["_law_state_here", "_law_many"] (defScope s_l_draw) := ⟨rfl, rfl, rfl, by decide +kernel, rfl, by decide +kernel, by decide +kernel⟩
abbrev s_l_alike : Stmt := topS 19
theorem sc_l_alike : FnScope ["_law_actual", "_law_due", "_law_k"] ["_law_actual", "_law_due"] (defScope s_l_alike) := ⟨rfl, rfl, rfl, by decide +kernel, rfl, by decide +kernel, by decide +kernel⟩
abbrev s_l_atom_row : Stmt := topS 20
theorem sc_l_atom_row : FnScope ["_law_state_here", "_law_count", "_law_style", "_law_shift", "_law_atoms", "_law_k", "_law_sign"] ["_law_state_here", "_law_count"] (defScope s_l_atom_row) := ⟨rfl, rfl, rfl, by decide +kernel, rfl, by decide +kernel, by decide +kernel⟩
abbrev s_l_clause : Stmt := topS 21
theorem sc_l_clause : FnScope ["_law_state_here", "_law_atoms", "_law_most", "_law_found", "_law_k", "_law_literal"] ["_law_state_here", "_law_atoms", "_law_most"] (defScope s_l_clause) := ⟨rfl, rfl, rfl, by decide +kernel, rfl, by decide +kernel, by decide +kernel⟩
abbrev s_l_clauses : Stmt := topS 22
theorem sc_l_clauses : FnScope ["_law_state_here", "_law_atoms", "_law_many", "_law_most", "_law_shift", "_law_rows", "_law_k"] ["_law_state_here", "_law_atoms", "_law_many", "_law_most"] (defScope s_l_clauses) := ⟨rfl, rfl, rfl, by decide +kernel, rfl, by decide +kernel, by decide +kernel⟩
abbrev s_l_dict : Stmt := topS 23
theorem sc_l_dict : FnScope ["_law_rows", "_law_found", "_law_row"] ["_law_rows"] (defScope s_l_dict) := ⟨rfl, rfl, rfl, by decide +kernel, rfl, by decide +kernel, by decide +kernel⟩
abbrev s_l_by_label : Stmt := topS 24
theorem sc_l_by_label : FnScope ["_law_rows", "_law_table", "_law_label", "_law_row"] ["_law_rows"] (defScope s_l_by_label) := ⟨rfl, rfl, rfl, by decide +kernel, rfl, by decide +kernel, by decide +kernel⟩
abbrev s_l_not : Stmt := topS 25
theorem sc_l_not : FnScope ["_law_literal"] ["_law_literal"] (defScope s_l_not) := ⟨rfl, rfl, rfl, by decide +kernel, rfl, by decide +kernel, by decide +kernel⟩
abbrev s_l_left : Stmt := topS 26
theorem sc_l_left : FnScope ["_law_clause_here", "_law_held", "_law_literal"] ["_law_clause_here", "_law_held"] (defScope s_l_left) := ⟨rfl, rfl, rfl, by decide +kernel, rfl, by decide +kernel, by decide +kernel⟩
abbrev s_l_propagated : Stmt := topS 27
theorem sc_l_propagated : FnScope ["_law_rows", "_law_start", "_law_held", "_law_steps", "_law_literal", "_law_turn", "_law_chosen", "_law_row", "_law_left_here"] ["_law_rows", "_law_start"] (defScope s_l_propagated) := ⟨rfl, rfl, rfl, by decide +kernel, rfl, by decide +kernel, by decide +kernel⟩
abbrev s_l_step_right : Stmt := topS 28
theorem sc_l_step_right : FnScope ["_law_clauses_here", "_law_earlier", "_law_step", "_law_literal", "_law_label", "_law_held", "_law_other"] ["_law_clauses_here", "_law_earlier", "_law_step"] (defScope s_l_step_right) := ⟨rfl, rfl, rfl, by decide +kernel, rfl, by decide +kernel, by decide +kernel⟩
abbrev s_l_replayed : Stmt := topS 29
theorem sc_l_replayed : FnScope ["_law_clauses_here", "_law_steps", "e"] ["_law_clauses_here", "_law_steps"] (defScope s_l_replayed) := ⟨rfl, rfl, rfl, by decide +kernel, rfl, by decide +kernel, by decide +kernel⟩
abbrev s_l_asked : Stmt := topS 30
theorem sc_l_asked : FnScope ["_law_rows", "_law_steps", "_law_clauses_here", "_law_handed", "_law_found", "_law_k", "_law_literals", "_law_denied", "_law_literal", "_law_label", "_law_start", "_law_plain", "_law_step", "_law_row"] ["_law_rows", "_law_steps"] (defScope s_l_asked) := ⟨rfl, rfl, rfl, by decide +kernel, rfl, by decide +kernel, by decide +kernel⟩
abbrev s_l_bent : Stmt := topS 31
theorem sc_l_bent : FnScope ["_law_state_here", "_law_rows", "_law_atoms", "_law_steps", "_law_at", "_law_labels", "_law_literal", "_law_step", "_law_way", "_law_row"] ["_law_state_here", "_law_rows", "_law_atoms", "_law_steps"] (defScope s_l_bent) := ⟨rfl, rfl, rfl, by decide +kernel, rfl, by decide +kernel, by decide +kernel⟩
abbrev s_l_clause_asked : Stmt := topS 32
theorem sc_l_clause_asked : FnScope ["_law_rows", "_law_label", "_law_row", "_law_negations", "_law_literal", "_law_k", "_law_others"] ["_law_rows", "_law_label", "_law_row"] (defScope s_l_clause_asked) := ⟨rfl, rfl, rfl, by decide +kernel, rfl, by decide +kernel, by decide +kernel⟩
abbrev s_law : Stmt := topS 33
theorem sc_law : FnScope ["_law_script", "_law_state_here", "_law_atoms", "_law_rows", "_law_strange", "_law_turn", "_law_start", "_law_k", "_law_at", "_law_looked", "_law_steps", "_law_step", "_law_label", "_law_row"] ["_law_script"] (defScope s_law) := ⟨rfl, rfl, rfl, by decide +kernel, rfl, by decide +kernel, by decide +kernel⟩
structure Ad where
  e0 : Addr
  f_is_int : Addr
  d_is_int : FuncData
  f_negated : Addr
  d_negated : FuncData
  f_undenied : Addr
  d_undenied : FuncData
  f_next_step : Addr
  d_next_step : FuncData
  f_is_right_step : Addr
  d_is_right_step : FuncData
  f_checked_order : Addr
  d_checked_order : FuncData
  f_propagate : Addr
  d_propagate : FuncData
  f_l_state : Addr
  d_l_state : FuncData
  f_l_draw : Addr
  d_l_draw : FuncData
  f_l_alike : Addr
  d_l_alike : FuncData
  f_l_atom_row : Addr
  d_l_atom_row : FuncData
  f_l_clause : Addr
  d_l_clause : FuncData
  f_l_clauses : Addr
  d_l_clauses : FuncData
  f_l_dict : Addr
  d_l_dict : FuncData
  f_l_by_label : Addr
  d_l_by_label : FuncData
  f_l_not : Addr
  d_l_not : FuncData
  f_l_left : Addr
  d_l_left : FuncData
  f_l_propagated : Addr
  d_l_propagated : FuncData
  f_l_step_right : Addr
  d_l_step_right : FuncData
  f_l_replayed : Addr
  d_l_replayed : FuncData
  f_l_asked : Addr
  d_l_asked : FuncData
  f_l_bent : Addr
  d_l_bent : FuncData
  f_l_clause_asked : Addr
  d_l_clause_asked : FuncData
  f_law : Addr
  d_law : FuncData
  c_LookerError : Addr
  c_BadLiteral : Addr
  c_BadStep : Addr
  c_BadOrder : Addr
  c_Propagation : Addr
structure Top (K : PySem.W.Frag) (mg : Str → Option Value) (a : Ad) : Prop where
  sq0 : ∀ H : Hp, SqT K H a.e0 []
  F_is_int : Fun K "is_int" "is_int" s_is_int a.f_is_int a.d_is_int
  m_is_int : mg "is_int" = some (.ref a.f_is_int)
  b_is_int : Binds K a.d_is_int ["value"] []
  F_negated : Fun K "negated" "negated" s_negated a.f_negated a.d_negated
  m_negated : mg "negated" = some (.ref a.f_negated)
  b_negated : Binds K a.d_negated ["literal"] []
  F_undenied : Fun K "_undenied" "_undenied" s_undenied a.f_undenied a.d_undenied
  m_undenied : mg "_undenied" = some (.ref a.f_undenied)
  b_undenied : Binds K a.d_undenied ["clause", "held"] []
  F_next_step : Fun K "_next_step" "_next_step" s_next_step a.f_next_step a.d_next_step
  m_next_step : mg "_next_step" = some (.ref a.f_next_step)
  b_next_step : Binds K a.d_next_step ["clauses", "order", "held"] []
  F_is_right_step : Fun K "_is_right_step" "_is_right_step" s_is_right_step a.f_is_right_step a.d_is_right_step
  m_is_right_step : mg "_is_right_step" = some (.ref a.f_is_right_step)
  b_is_right_step : Binds K a.d_is_right_step ["clauses", "literal", "label", "held"] []
  F_checked_order : Fun K "_checked_order" "_checked_order" s_checked_order a.f_checked_order a.d_checked_order
  m_checked_order : mg "_checked_order" = some (.ref a.f_checked_order)
  b_checked_order : Binds K a.d_checked_order ["clauses", "order"] []
  -- FunD propagate
  F_propagate : FunD K "propagate" "propagate" (defArgs s_propagate) (defBody s_propagate) (defScope s_propagate) [.ref a.e0] [("order", .non)] a.f_propagate a.d_propagate
  m_propagate : mg "propagate" = some (.ref a.f_propagate)
  F_l_state : Fun K "_law_state" "_law_state" s_l_state a.f_l_state a.d_l_state
  m_l_state : mg "_law_state" = some (.ref a.f_l_state)
  b_l_state : Binds K a.d_l_state ["_law_script"] []
  F_l_draw : Fun K "_law_draw" "_law_draw" s_l_draw a.f_l_draw a.d_l_draw
  m_l_draw : mg "_law_draw" = some (.ref a.f_l_draw)
  b_l_draw : Binds K a.d_l_draw ["_law_state_here", "_law_many"] []
  F_l_alike : Fun K "_law_alike" "_law_alike" s_l_alike a.f_l_alike a.d_l_alike
  m_l_alike : mg "_law_alike" = some (.ref a.f_l_alike)
  b_l_alike : Binds K a.d_l_alike ["_law_actual", "_law_due"] []
  F_l_atom_row : Fun K "_law_atom_row" "_law_atom_row" s_l_atom_row a.f_l_atom_row a.d_l_atom_row
  m_l_atom_row : mg "_law_atom_row" = some (.ref a.f_l_atom_row)
  b_l_atom_row : Binds K a.d_l_atom_row ["_law_state_here", "_law_count"] []
  F_l_clause : Fun K "_law_clause" "_law_clause" s_l_clause a.f_l_clause a.d_l_clause
  m_l_clause : mg "_law_clause" = some (.ref a.f_l_clause)
  b_l_clause : Binds K a.d_l_clause ["_law_state_here", "_law_atoms", "_law_most"] []
  F_l_clauses : Fun K "_law_clauses" "_law_clauses" s_l_clauses a.f_l_clauses a.d_l_clauses
  m_l_clauses : mg "_law_clauses" = some (.ref a.f_l_clauses)
  b_l_clauses : Binds K a.d_l_clauses ["_law_state_here", "_law_atoms", "_law_many", "_law_most"] []
  F_l_dict : Fun K "_law_dict" "_law_dict" s_l_dict a.f_l_dict a.d_l_dict
  m_l_dict : mg "_law_dict" = some (.ref a.f_l_dict)
  b_l_dict : Binds K a.d_l_dict ["_law_rows"] []
  F_l_by_label : Fun K "_law_by_label" "_law_by_label" s_l_by_label a.f_l_by_label a.d_l_by_label
  m_l_by_label : mg "_law_by_label" = some (.ref a.f_l_by_label)
  b_l_by_label : Binds K a.d_l_by_label ["_law_rows"] []
  F_l_not : Fun K "_law_not" "_law_not" s_l_not a.f_l_not a.d_l_not
  m_l_not : mg "_law_not" = some (.ref a.f_l_not)
  b_l_not : Binds K a.d_l_not ["_law_literal"] []
  F_l_left : Fun K "_law_left" "_law_left" s_l_left a.f_l_left a.d_l_left
  m_l_left : mg "_law_left" = some (.ref a.f_l_left)
  b_l_left : Binds K a.d_l_left ["_law_clause_here", "_law_held"] []
  F_l_propagated : Fun K "_law_propagated" "_law_propagated" s_l_propagated a.f_l_propagated a.d_l_propagated
  m_l_propagated : mg "_law_propagated" = some (.ref a.f_l_propagated)
  b_l_propagated : Binds K a.d_l_propagated ["_law_rows", "_law_start"] []
  F_l_step_right : Fun K "_law_step_right" "_law_step_right" s_l_step_right a.f_l_step_right a.d_l_step_right
  m_l_step_right : mg "_law_step_right" = some (.ref a.f_l_step_right)
  b_l_step_right : Binds K a.d_l_step_right ["_law_clauses_here", "_law_earlier", "_law_step"] []
  F_l_replayed : Fun K "_law_replayed" "_law_replayed" s_l_replayed a.f_l_replayed a.d_l_replayed
  m_l_replayed : mg "_law_replayed" = some (.ref a.f_l_replayed)
  b_l_replayed : Binds K a.d_l_replayed ["_law_clauses_here", "_law_steps"] []
  F_l_asked : Fun K "_law_asked" "_law_asked" s_l_asked a.f_l_asked a.d_l_asked
  m_l_asked : mg "_law_asked" = some (.ref a.f_l_asked)
  b_l_asked : Binds K a.d_l_asked ["_law_rows", "_law_steps"] []
  F_l_bent : Fun K "_law_bent" "_law_bent" s_l_bent a.f_l_bent a.d_l_bent
  m_l_bent : mg "_law_bent" = some (.ref a.f_l_bent)
  b_l_bent : Binds K a.d_l_bent ["_law_state_here", "_law_rows", "_law_atoms", "_law_steps"] []
  F_l_clause_asked : Fun K "_law_clause_asked" "_law_clause_asked" s_l_clause_asked a.f_l_clause_asked a.d_l_clause_asked
  m_l_clause_asked : mg "_law_clause_asked" = some (.ref a.f_l_clause_asked)
  b_l_clause_asked : Binds K a.d_l_clause_asked ["_law_rows", "_law_label", "_law_row"] []
  F_law : Fun K "law" "law" s_law a.f_law a.d_law
  m_law : mg "law" = some (.ref a.f_law)
  b_law : Binds K a.d_law ["_law_script"] []
  m_LookerError : mg "LookerError" = some (.ref a.c_LookerError)
  m_BadLiteral : mg "BadLiteral" = some (.ref a.c_BadLiteral)
  m_BadStep : mg "BadStep" = some (.ref a.c_BadStep)
  m_BadOrder : mg "BadOrder" = some (.ref a.c_BadOrder)
  m_Propagation : mg "Propagation" = some (.ref a.c_Propagation)
  z_ValueError : mg "ValueError" = none
  z_all : mg "all" = none
  z_bool : mg "bool" = none
  z_dict : mg "dict" = none
  z_enumerate : mg "enumerate" = none
  z_int : mg "int" = none
  z_isinstance : mg "isinstance" = none
  z_iter : mg "iter" = none
  z_len : mg "len" = none
  z_list : mg "list" = none
  z_min : mg "min" = none
  z_range : mg "range" = none
  z_sorted : mg "sorted" = none
  z_str : mg "str" = none
  z_tuple : mg "tuple" = none
end K16

namespace K16
open PySem PySem.Spec PyProof.Rows L2
section
variable {P : Program} {w : World} {K : PySem.W.Frag} {mg : Str → Option Value} {base : Heap} {a : Ad}
/-- no list, tuple or dict is an int or a truth value: what x is, by its type t -/
def spIsInt (K : PySem.W.Frag) : Sp := fun vs H Q _ => ∃ (x : V) (t : String) (b c : Bool), vs = [x] ∧ TyX K H x (.type t) ∧ kitB t "int" = some b ∧ kitB t "bool" = some c ∧ Q (.bl (b && !c)) H
theorem ok_is_int (T : Top K mg a) : FnOk P w K mg base CX0 1 a.f_is_int a.d_is_int ["value"] (spIsInt K) := by
  refine T.F_is_int.ok sc_is_int (fun vs H Q E h => ?_) (fun cdv A outer s H vs Q E hr h => ?_)
  · obtain ⟨x, t, b, c, rfl, _⟩ := h
    rfl
  · obtain ⟨x, t, b, c, rfl, ht, hb, hc, q⟩ := h
    refine ⟨_, (pss_one (ps_ret (pe_and (pe_callB call_isi (by rfl) T.z_isinstance (by decide +kernel) (pa_cons (pv 0) (pa_cons (pe_bltn (v := .ty "int") (by rfl) T.z_int (by decide +kernel) rfl) pa_nil))) (pe_one (pe_not (pe_callB call_isi (by rfl) T.z_isinstance (by decide +kernel) (pa_cons (pv 0) (pa_cons (pe_bltn (v := .ty "bool") (by rfl) T.z_bool (by decide +kernel) rfl) pa_nil)))))))), ?_⟩
    refine ⟨x, rfl, x, .ty "int", .type t, .type "int", b, rfl, .ty _, ht, kit_ty hb, b, rfl, ?_⟩
    cases b with
    | false => exact q
    | true =>
      refine iteT ⟨x, rfl, x, .ty "bool", .type t, .type "bool", c, rfl, .ty _, ht, kit_ty hc, c, rfl, ?_⟩
      simpa using q
end
end K16

namespace K16
open PySem PySem.Spec PyProof.Rows L2
section
variable {P : Program} {w : World} {K : PySem.W.Frag} {mg : Str → Option Value} {base : Heap} {a : Ad}
/-- the drawing state at st -/
structure Sta (sc : Addr) (H : Hp) (st : Addr) : Prop where
  ex : ∃ (ns : List Int) (i b s l : Int), sc ≠ st ∧ H st = some (.lst [.ref sc, .int i, .int b, .int s, .int l]) ∧ H sc = some (.lst (ns.map V.int)) ∧ 0 ≤ i ∧ 0 ≤ b ∧ 0 ≤ s ∧ s < 10 ^ 18 ∧ 0 ≤ l ∧ l ≤ 6
/-- all else stays -/
def Kp (st : Addr) (H H' : Hp) : Prop := ∀ b o, b ≠ st → H b = some o → H' b = some o
theorem Kp.refl (st : Addr) (H : Hp) : Kp st H H := fun _ _ _ h => h
theorem Kp.trans {st : Addr} {H H1 H2 : Hp} (x : Kp st H H1) (y : Kp st H1 H2) : Kp st H H2 := fun b o n h => y b o n (x b o n h)
theorem Kp.put {st : Addr} {H H1 : Hp} {o : HO} (x : Kp st H H1) : Kp st H (upd H1 st o) := fun b u n h => by
  rw [upd_ne n]
  exact x b u n h
theorem Same.kp {st : Addr} {H H' : Hp} (h : Same H H') : Kp st H H' := fun b o _ e => h b o e
def spDraw : Sp := fun vs H Q _ => ∃ (sc st : Addr) (m : Int), vs = [.ref st, .int m] ∧ Sta sc H st ∧ 1 ≤ m ∧ m < 2 ^ 60 ∧ ∀ H' v, Kp st H H' → Sta sc H' st → 0 ≤ v → v < m → Q (.int v) H'
theorem ixv {K : PySem.W.Frag} {i : Nat} {p : Addr} {xs : List V} {v : V} {σ : L2.St} {H : Hp} {Q : VK} (j : Nat) (h0 : σ[i]? = some (some (.ref p))) (h : SqL K H p xs) (e : xs[j]? = some v) (q : Q v H) : tOp (rIx K) (tVar i) (tC (.int (j : Int))) σ H Q :=
  ⟨.ref p, h0, .inl ⟨p, xs, j, v, rfl, rfl, h, atI_nat e, q⟩⟩
theorem eqi {K : PySem.W.Frag} {x y : Int} {H : Hp} {Q : Bool → Hp → Prop} (q : Q (decide (x = y)) H) : (fun x y H Q => rEq x y H Q ∨ rEqD K x y H Q) (.int x) (.int y) H (fun z H' => ∃ k, z = .bl k ∧ Q k H') := .inl ⟨rfl, _, rfl, by
  have e : decide (V.int x = V.int y) = decide (x = y) := by
    by_cases h : x = y
    · rw [decide_eq_true h, decide_eq_true (by rw [h])]
    · rw [decide_eq_false h, decide_eq_false (fun z => h (V.int.inj z))]
  rw [e]; exact q⟩
theorem setv {p : Addr} {xs : List V} {v : V} {H : Hp} {Q : Hp → Prop} (j : Nat) (h : H p = some (.lst xs)) (hj : j < xs.length) (q : Q (upd H p (.lst (xs.set j v)))) : rSetL (.ref p) (.int (j : Int)) v H Q := ⟨p, xs, j, j, rfl, rfl, h, by
  unfold ixN
  rw [if_pos (by omega), if_pos (by omega)]
  simp, q⟩
theorem sta_cell {H : Hp} {st : Addr} {xs : List V} {j : Nat} {v : V} (h : H st = some (.lst xs)) (e : xs[j]? = some v) : (∃ (p : Addr) (ys : List V) (i : Int) (u : V), V.ref st = .ref p ∧ V.int (j : Int) = .int i ∧ SqL K H p ys ∧ atI ys i = some u ∧ u = v) := ⟨st, xs, j, v, rfl, rfl, SqL.of h, atI_nat e, rfl⟩
theorem ok_draw (T : Top K mg a) : FnOk P w K mg base CX0 1 a.f_l_draw a.d_l_draw ["_law_state_here", "_law_many"] spDraw := by
  refine T.F_l_draw.ok sc_l_draw (fun vs H Q E h => ?_) (fun cdv A outer s H vs Q E hr h => ?_)
  · obtain ⟨_, st, m, rfl, _⟩ := h
    rfl
  · obtain ⟨sc, st, m, rfl, ⟨ns, i, b, s, l, hne, hst, hsc, hi, hb, hs0, hs1, hl0, hl1⟩, hm0, hm1, q⟩ := h
    refine ⟨_, (pss_cons (ps_if (pt_cmpR (OpR.or op_lt op_lt_str) (pv 1) pe_int (nomark _))
      (pss_one (ps_ret pe_int))
      pss_nil)
    (C8.pss_cut (ps_if (PW.pt (pw_and (pt_cmpR (OpR.or op_eq (op_eqD hr.units)) (pe_ix ix_seq (pv 0) pe_int (fun _ _ => rfl)) pe_int (nomark _)) (pw_and (pt_cmpR (OpR.or op_eq (op_eqD hr.units)) (pe_ix ix_seq (pv 0) pe_int (fun _ _ => rfl)) pe_int (nomark _)) (pw_and1 (pt_cmpR (OpR.or op_lt op_lt_str) (pe_ix ix_seq (pv 0) pe_int (fun _ _ => rfl)) (pe_callB (CallR.or call_len_str call_len_seq) (by rfl) T.z_len (by decide +kernel) (pa_cons (pe_ix ix_seq (pv 0) pe_int (fun _ _ => rfl)) pa_nil)) (nomark _))))))
      (pss_cons (ps_set (i := 2) sc_l_draw.nd rfl (.inl rfl) (pe_ix ix_seq (pe_ix ix_seq (pv 0) pe_int (fun _ _ => rfl)) (pe_ix ix_seq (pv 0) pe_int (fun _ _ => rfl)) (fun _ _ => rfl)))
      (pss_cons (ps_asg (pe_op (OpR.or op_add (OpR.or op_add_str (OpR.or op_cat op_catT))) (pe_ix ix_seq (pv 0) pe_int (fun _ _ => rfl)) pe_int) (pg_sub (pv 0) pe_int set_list))
      (pss_cons (ps_if (pt_cmpR (OpR.or op_lt op_lt_str) (pv 2) pe_int (nomark _))
        (pss_one (ps_set (i := 2) sc_l_draw.nd rfl (.inl rfl) (pe_op op_sub pe_int (pe_op (OpR.or op_mul op_mulW) pe_int (pv 2)))))
        pss_nil)
      (pss_one (ps_if (pt_cmpR (OpR.or op_ge op_ge_str) (pv 2) (pe_op op_pow pe_int pe_int) (nomark _))
        (pss_one (ps_asg (pv 2) (pg_sub (pv 0) pe_int set_list)))
        (pss_cons (ps_asg (pv 2) (pg_sub (pv 0) pe_int set_list))
        (pss_one (ps_asg pe_int (pg_sub (pv 0) pe_int set_list)))))))))
      pss_nil)
    (pss_cons (ps_if (pt_cmpR (OpR.or op_gt op_gt_str) (pe_ix ix_seq (pv 0) pe_int (fun _ _ => rfl)) pe_int (nomark _))
      (pss_cons (ps_set (i := 3) sc_l_draw.nd rfl (.inl rfl) (pe_op op_mod (pe_callTy (CallR.or call_int1 call_int_str) (by rfl) T.z_int (by decide +kernel) (pa_cons (pe_ix ix_seq (pv 0) pe_int (fun _ _ => rfl)) pa_nil)) (pv 1)))
      (pss_cons (ps_asg (pe_op op_fdivW (pe_ix ix_seq (pv 0) pe_int (fun _ _ => rfl)) (pv 1)) (pg_sub (pv 0) pe_int set_list))
      (pss_one (ps_ret (pv 3)))))
      pss_nil)
    (pss_cons (ps_if (pt_cmpR (OpR.or op_gt op_gt_str) (pe_ix ix_seq (pv 0) pe_int (fun _ _ => rfl)) pe_int (nomark _))
      (pss_cons (ps_asg (pe_op op_sub (pe_ix ix_seq (pv 0) pe_int (fun _ _ => rfl)) pe_int) (pg_sub (pv 0) pe_int set_list))
      (pss_cons (ps_set (i := 4) sc_l_draw.nd rfl (.inl rfl) (pe_op op_mod (pe_callTy (CallR.or call_int1 call_int_str) (by rfl) T.z_int (by decide +kernel) (pa_cons (pe_op (OpR.or op_mul op_mulW) (pe_ix ix_seq (pv 0) pe_int (fun _ _ => rfl)) (pe_op (OpR.or op_add (OpR.or op_add_str (OpR.or op_cat op_catT))) pe_int (pe_op (OpR.or op_mul op_mulW) pe_int (pe_ix ix_seq (pv 0) pe_int (fun _ _ => rfl))))) pa_nil)) pe_int))
      (pss_cons (ps_set (i := 4) sc_l_draw.nd rfl (.inl rfl) (pe_op op_mod (pe_callTy (CallR.or call_int1 call_int_str) (by rfl) T.z_int (by decide +kernel) (pa_cons (pe_op (OpR.or op_mul op_mulW) (pv 4) (pe_op (OpR.or op_add (OpR.or op_add_str (OpR.or op_cat op_catT))) pe_int (pe_ix ix_seq (pv 0) pe_int (fun _ _ => rfl)))) pa_nil)) pe_int))
      (pss_one (ps_ret (pe_op op_mod (pe_callTy (CallR.or call_int1 call_int_str) (by rfl) T.z_int (by decide +kernel) (pa_cons (pv 4) pa_nil)) (pv 1)))))))
      pss_nil)
    (pss_one (ps_ret pe_int)))))), ?_⟩
    refine ⟨.int m, rfl, .inl ⟨m, 2, rfl, rfl, _, rfl, ite2 (fun e => ?_) (fun e => ?_)⟩⟩
    · exact q H 0 (Kp.refl _ _) ⟨ns, i, b, s, l, hne, hst, hsc, hi, hb, hs0, hs1, hl0, hl1⟩ (by omega) (by omega)
    · have hm2 : 2 ≤ m := by
        have := of_decide_eq_false (Bool.eq_false_iff.mpr e)
        omega
      refine ⟨fun σ' H' => ∃ y2 y3 y4, σ' = [some (.ref st), some (.int m), y2, y3, y4] ∧ Kp st H H' ∧ Sta sc H' st, ?_, ?_⟩
      · -- load
        have S0 : Sta sc H st := ⟨ns, i, b, s, l, hne, hst, hsc, hi, hb, hs0, hs1, hl0, hl1⟩
        refine ixv 2 rfl (SqL.of hst) rfl (eqi (ite2 (fun e1 => ?_) (fun e1 => ?_)))
        rotate_left
        · exact iteF ⟨_, _, _, rfl, Kp.refl _ _, S0⟩
        refine ixv 4 rfl (SqL.of hst) rfl (eqi (ite2 (fun e2 => ?_) (fun e2 => ?_)))
        rotate_left
        · exact iteF ⟨_, _, _, rfl, Kp.refl _ _, S0⟩
        refine ixv 1 rfl (SqL.of hst) rfl (ixv 0 rfl (SqL.of hst) rfl (.inr ⟨sc, _, rfl, .inl (SqL.of hsc), .inl ⟨i, _, rfl, rfl, _, rfl, ite2 (fun e3 => ?_) (fun e3 => ?_)⟩⟩))
        rotate_left
        · exact ⟨_, _, _, rfl, Kp.refl _ _, S0⟩
        have h3 : i < ns.length := by
          have := of_decide_eq_true e3
          simpa using this
        obtain ⟨j, rfl⟩ : ∃ j : Nat, i = j := ⟨i.toNat, by omega⟩
        have hj : j < ns.length := by omega
        refine ixv 0 rfl (SqL.of hst) rfl (ixv 1 rfl (SqL.of hst) rfl (.inl ⟨sc, _, _, .int ns[j], rfl, rfl, SqL.of hsc, atI_nat (by simp [hj]), ?_⟩))
        refine ixv 1 rfl (SqL.of hst) rfl (.inl ⟨_, 1, rfl, rfl, ?_⟩)
        refine ⟨.ref st, rfl, setv 1 hst (by simp) ?_⟩
        -- the cell, not below 0
        have tail : ∀ (c : Int) (y3 y4 : Option V), 0 ≤ c → tIfS (tTest (tOp (fun x y H Q => rI0 (fun i j => V.bl (decide (j ≤ i))) x y H Q ∨ ∃ i j, x = V.str i ∧ y = V.str j ∧ Q (V.bl (!decide (i.cps.toList < j.cps.toList))) H) (tVar 2) (tOp (rI CPow fun i j => V.int (i ^ j.toNat)) (tC (.int 10)) (tC (.int 18)))))
            (tAsg (tVar 2) (gSub (tVar 0) (tC (.int 2)) rSetL)) (tSeq (tAsg (tVar 2) (gSub (tVar 0) (tC (.int 3)) rSetL)) (tAsg (tC (.int 6)) (gSub (tVar 0) (tC (.int 4)) rSetL)))
            { nx := fun σ' H' => ∃ y2 y3 y4, σ' = [some (.ref st), some (.int m), y2, y3, y4] ∧ Kp st H H' ∧ Sta sc H' st, rt := Q } [some (.ref st), some (.int m), some (.int c), y3, y4] (upd H st (.lst [.ref sc, .int (j + 1), .int b, .int s, .int l])) := by
          intro c y3 y4 hc
          have hsc' : (upd H st (.lst [.ref sc, .int (j + 1), .int b, .int s, .int l])) sc = some (.lst (ns.map V.int)) := by
            rw [upd_ne hne]; exact hsc
          refine ⟨.int c, rfl, 10, 18, rfl, rfl, ⟨by decide, by decide⟩, .inl ⟨c, _, rfl, rfl, _, rfl, ite2 (fun e => ?_) (fun e => ?_)⟩⟩
          · refine ⟨.int c, rfl, .ref st, rfl, setv 2 upd_same (by simp) ?_⟩
            refine ⟨_, _, _, rfl, (Kp.refl _ _).put.put, ns, j + 1, c, s, l, hne, upd_same, ?_, by omega, hc, hs0, hs1, hl0, hl1⟩
            rw [upd_ne hne]; exact hsc'
          · have hlt : c < 10 ^ 18 := by
              have := of_decide_eq_false (Bool.eq_false_iff.mpr e)
              have e18 : (10 : Int) ^ (18 : Int).toNat = 10 ^ 18 := rfl
              rw [e18] at this
              omega
            refine ⟨.int c, rfl, .ref st, rfl, setv 3 upd_same (by simp) ?_⟩
            refine ⟨.ref st, rfl, setv 4 upd_same (by simp) ?_⟩
            refine ⟨_, _, _, rfl, (Kp.refl _ _).put.put.put, ns, j + 1, b, c, 6, hne, upd_same, ?_, by omega, hb, hc, hlt, by omega, by omega⟩
            rw [upd_ne hne, upd_ne hne]; exact hsc'
        refine ⟨.int ns[j], rfl, .inl ⟨_, 0, rfl, rfl, _, rfl, ite2 (fun e => ?_) (fun e => ?_)⟩⟩
        · have hneg : ns[j] < 0 := of_decide_eq_true e
          refine ⟨.int ns[j], rfl, .inl ⟨2, _, rfl, rfl, .inl ⟨by decide, by decide⟩, 1, _, rfl, rfl, ?_⟩⟩
          exact tail (1 - 2 * ns[j]) _ _ (by omega)
        · have hpos : ¬ ns[j] < 0 := of_decide_eq_false (Bool.eq_false_iff.mpr e)
          exact tail ns[j] _ _ (by omega)
      · rintro σ' H1 ⟨y2, y3, y4, rfl, hk, ns, i, b, s, l, hne, hst, hsc, hi, hb, hs0, hs1, hl0, hl1⟩
        have hsc2 : ∀ o, (upd H1 st o) sc = some (.lst (ns.map V.int)) := fun o => by
          rw [upd_ne hne]; exact hsc
        refine ixv 2 rfl (SqL.of hst) rfl (.inl ⟨b, 0, rfl, rfl, _, rfl, ite2 (fun e => ?_) (fun e => ?_)⟩)
        · have hb1 : 0 < b := of_decide_eq_true e
          refine ixv 2 rfl (SqL.of hst) rfl (.inl (.inl ⟨b, rfl, .int m, rfl, b, m, rfl, rfl, by omega, ?_⟩))
          refine ixv 2 rfl (SqL.of hst) rfl ⟨.int m, rfl, b, m, rfl, rfl, wide_div (b := 60) (by omega) (by omega) (by decide) (by decide), .ref st, rfl, setv 2 hst (by simp) ?_⟩
          refine ⟨.int (b % m), rfl, q _ _ hk.put ⟨ns, i, b / m, s, l, hne, upd_same, hsc2 _, hi, Int.ediv_nonneg hb (by omega), hs0, hs1, hl0, hl1⟩ (Int.emod_nonneg _ (by omega)) (Int.emod_lt_of_pos _ (by omega))⟩
        · refine ixv 4 rfl (SqL.of hst) rfl (.inl ⟨l, 0, rfl, rfl, _, rfl, ite2 (fun e2 => ?_) (fun e2 => ?_)⟩)
          · have hl2 : 0 < l := of_decide_eq_true e2
            refine ixv 4 rfl (SqL.of hst) rfl ⟨l, 1, rfl, rfl, .ref st, rfl, setv 4 hst (by simp) ?_⟩
            have hA : (upd H1 st (.lst [.ref sc, .int i, .int b, .int s, .int (l - 1)])) st = some (.lst [.ref sc, .int i, .int b, .int s, .int (l - 1)]) := upd_same
            refine ixv 3 rfl (SqL.of hA) rfl (ixv 4 rfl (SqL.of hA) rfl (.inl ⟨2, l - 1, rfl, rfl, .inl ⟨by decide, by decide⟩, ?_⟩))
            refine .inl ⟨48271, _, rfl, rfl, .inl ⟨s, _, rfl, rfl, .inl ⟨by omega, by omega⟩, ?_⟩⟩
            refine .inl (.inl ⟨_, rfl, _, 2147483647, rfl, rfl, by (show (0 : Int) < _; decide), ?_⟩)
            have h4 := Int.emod_nonneg (s * (48271 + 2 * (l - 1))) (show (2147483647 : Int) ≠ 0 by decide)
            have h5 := Int.emod_lt_of_pos (s * (48271 + 2 * (l - 1))) (show (0 : Int) < 2147483647 by decide)
            refine ⟨.int (s * (48271 + 2 * (l - 1)) % 2147483647), rfl, ixv 4 rfl (SqL.of hA) rfl (.inl ⟨16807, l - 1, rfl, rfl, .inl ⟨_, _, rfl, rfl, .inl ⟨by omega, by omega⟩, ?_⟩⟩)⟩
            refine .inl (.inl ⟨_, rfl, _, 1000003, rfl, rfl, by (show (0 : Int) < _; decide), ?_⟩)
            refine ⟨_, rfl, .inl (.inl ⟨_, rfl, .int m, rfl, _, m, rfl, rfl, by omega, ?_⟩)⟩
            exact q _ _ hk.put ⟨ns, i, b, s, l - 1, hne, upd_same, hsc2 _, hi, hb, hs0, hs1, by omega, by omega⟩ (Int.emod_nonneg _ (by omega)) (Int.emod_lt_of_pos _ (by omega))
          · exact q _ _ hk ⟨ns, i, b, s, l, hne, hst, hsc, hi, hb, hs0, hs1, hl0, hl1⟩ (by omega) (by omega)
end
end K16


namespace K16
open PySem PySem.Spec PyProof.Rows L2
section
variable {P : Program} {w : World} {K : PySem.W.Frag} {mg : Str → Option Value} {base : Heap} {a : Ad}
def spState (K : PySem.W.Frag) : Sp := fun vs H Q _ => ∃ (p : Addr) (ns : List Int), vs = [.ref p] ∧ SqL K H p (ns.map V.int) ∧ ∀ H' st sc, H st = none → Same H H' → Sta sc H' st → Q (.ref st) H'
theorem same_upd {H : Hp} {p : Addr} {o : HO} (h : H p = none) : Same H (upd H p o) := fun b x e => by
  rw [upd_ne (ne_of_none e h)]
  exact e
theorem ok_state (T : Top K mg a) : FnOk P w K mg base CX0 1 a.f_l_state a.d_l_state ["_law_script"] (spState K) := by
  refine T.F_l_state.ok sc_l_state (fun vs H Q E h => ?_) (fun cdv A outer s H vs Q E hr h => ?_)
  · obtain ⟨st, m, rfl, _⟩ := h
    rfl
  · obtain ⟨p, ns, rfl, hS, q⟩ := h
    refine ⟨_, (pss_one (ps_ret (pe_lst (pa_cons (pe_callTy call_list_of (by rfl) T.z_list (by decide +kernel) (pa_cons (pv 0) pa_nil)) (pa_cons pe_int (pa_cons pe_int (pa_cons pe_int (pa_cons pe_int pa_nil)))))))), ?_⟩
    refine ⟨.ref p, rfl, p, _, rfl, .inl hS, fun sc nsc => ?_⟩
    refine ⟨by show 5 ≤ sizeLine; decide, fun st nst => ?_⟩
    have hne : sc ≠ st := fun e => by
      rw [← e, upd_same] at nst
      cases nst
    have n0 : H st = none := by
      rw [upd_ne (Ne.symm hne)] at nst
      exact nst
    refine q _ st sc n0 ((same_upd nsc).trans (same_upd nst)) ⟨ns, 0, 0, 0, 0, hne, upd_same, ?_, by omega, by omega, by omega, by decide, by omega, by omega⟩
    rw [upd_ne hne, upd_same]
/-! ### alike -/
theorem tyx_l {H : Hp} {p : Addr} {xs : List V} (h : SqL K H p xs) : TyX K H (.ref p) (.type "list") := by
  rcases h with (h | ⟨o, h⟩) | ⟨o, its, n, h, hc, _⟩
  · exact .base (.lst h)
  · exact .base (.frz h)
  · exact .kList h hc
theorem tyx_t {H : Hp} {p : Addr} {xs : List V} (h : SqT K H p xs) : TyX K H (.ref p) (.type "tuple") := by
  rcases h with (h | ⟨o, h⟩) | ⟨o, its, n, h, hc, _⟩
  · exact .base (.tup h)
  · exact .fTuple h
  · exact .kTuple h hc
/-- alike by one more layer -/
inductive SmS (K : PySem.W.Frag) (R : Hp → V → V → Prop) (H : Hp) : V → V → Prop where
  | non : SmS K R H .non .non
  | bl (b : Bool) : SmS K R H (.bl b) (.bl b)
  | int (i : Int) : SmS K R H (.int i) (.int i)
  | str (x : Str) : SmS K R H (.str x) (.str x)
  | lst {p q : Addr} {xs ys : List V} (hx : SqL K H p xs) (hy : SqL K H q ys) (l : xs.length = ys.length) (lt : xs.length ≤ 1000000) (r : ∀ (i : Nat) x y, xs[i]? = some x → ys[i]? = some y → R H x y) : SmS K R H (.ref p) (.ref q)
  | tup {p q : Addr} {xs ys : List V} (hx : SqT K H p xs) (hy : SqT K H q ys) (l : xs.length = ys.length) (lt : xs.length ≤ 1000000) (r : ∀ (i : Nat) x y, xs[i]? = some x → ys[i]? = some y → R H x y) : SmS K R H (.ref p) (.ref q)
def Sm (K : PySem.W.Frag) : Nat → Hp → V → V → Prop
  | 0 => fun _ _ _ => False
  | n + 1 => SmS K (Sm K n)
def spAl (R : Hp → V → V → Prop) : Sp := fun vs H Q _ => ∃ x y, vs = [x, y] ∧ R H x y ∧ Q (.bl true) H
theorem isiv {K : PySem.W.Frag} {σ : L2.St} {H : Hp} {i : Nat} {x : V} {t c : String} {b : Bool} {Q : VK} (h0 : σ[i]? = some (some x)) (ht : TyX K H x (.type t)) (hb : kitB t c = some b) (q : Q (.bl b) H) : tCB (rIsi K) (tCons (tVar i) (tCons (tC (.ty c)) tNil)) σ H Q :=
  ⟨x, h0, x, .ty c, .type t, .type c, b, rfl, .ty _, ht, kit_ty hb, q⟩
theorem isit {K : PySem.W.Frag} {σ : L2.St} {H : Hp} {i : Nat} {x : V} {t c : String} {b : Bool} {Q : Bool → Hp → Prop} (h0 : σ[i]? = some (some x)) (ht : TyX K H x (.type t)) (hb : kitB t c = some b) (q : Q b H) : tB (tCB (rIsi K) (tCons (tVar i) (tCons (tC (.ty c)) tNil))) σ H Q :=
  isiv h0 ht hb ⟨b, rfl, q⟩
theorem al_step {k : Nat} {R : Hp → V → V → Prop} (T : Top K mg a) (G_l_alike : FnOk P w K mg base CX0 k a.f_l_alike a.d_l_alike ["_law_actual", "_law_due"] (spAl R)) : FnOk P w K mg base CX0 (k + 1) a.f_l_alike a.d_l_alike ["_law_actual", "_law_due"] (spAl (SmS K R)) := by
  refine T.F_l_alike.ok sc_l_alike (fun vs H Q E h => ?_) (fun cdv A outer s H vs Q E hr h => ?_)
  · obtain ⟨x, y, rfl, _⟩ := h
    rfl
  · obtain ⟨x, y, rfl, S, q⟩ := h
    refine ⟨_, (pss_cons (ps_if (pt_cmpR op_isN (pv 1) pe_non (nomark _))
      (pss_one (ps_ret (pe_cmpR op_isN (pv 0) pe_non (nomark _))))
      pss_nil)
    (pss_cons (ps_if (PW.pt (pw_or (pt_val (pe_callB call_isi (by rfl) T.z_isinstance (by decide +kernel) (pa_cons (pv 1) (pa_cons (pe_bltn (v := .ty "bool") (by rfl) T.z_bool (by decide +kernel) rfl) pa_nil)))) (pw_or1 (pt_val (pe_callB call_isi (by rfl) T.z_isinstance (by decide +kernel) (pa_cons (pv 0) (pa_cons (pe_bltn (v := .ty "bool") (by rfl) T.z_bool (by decide +kernel) rfl) pa_nil)))))))
      (pss_one (ps_ret (pe_and (pe_callB call_isi (by rfl) T.z_isinstance (by decide +kernel) (pa_cons (pv 1) (pa_cons (pe_bltn (v := .ty "bool") (by rfl) T.z_bool (by decide +kernel) rfl) pa_nil))) (pe_and (pe_callB call_isi (by rfl) T.z_isinstance (by decide +kernel) (pa_cons (pv 0) (pa_cons (pe_bltn (v := .ty "bool") (by rfl) T.z_bool (by decide +kernel) rfl) pa_nil))) (pe_one (pe_cmpR (OpR.or op_eq (op_eqD hr.units)) (pv 0) (pv 1) (nomark _)))))))
      pss_nil)
    (pss_cons (ps_if (pt_val (pe_callB call_isi (by rfl) T.z_isinstance (by decide +kernel) (pa_cons (pv 1) (pa_cons (pe_bltn (v := .ty "int") (by rfl) T.z_int (by decide +kernel) rfl) pa_nil))))
      (pss_one (ps_ret (pe_and (pe_callB call_isi (by rfl) T.z_isinstance (by decide +kernel) (pa_cons (pv 0) (pa_cons (pe_bltn (v := .ty "int") (by rfl) T.z_int (by decide +kernel) rfl) pa_nil))) (pe_one (pe_cmpR (OpR.or op_eq (op_eqD hr.units)) (pv 0) (pv 1) (nomark _))))))
      pss_nil)
    (pss_cons (ps_if (pt_val (pe_callB call_isi (by rfl) T.z_isinstance (by decide +kernel) (pa_cons (pv 1) (pa_cons (pe_bltn (v := .ty "str") (by rfl) T.z_str (by decide +kernel) rfl) pa_nil))))
      (pss_one (ps_ret (pe_and (pe_callB call_isi (by rfl) T.z_isinstance (by decide +kernel) (pa_cons (pv 0) (pa_cons (pe_bltn (v := .ty "str") (by rfl) T.z_str (by decide +kernel) rfl) pa_nil))) (pe_one (pe_cmpR (OpR.or op_eq (op_eqD hr.units)) (pv 0) (pv 1) (nomark _))))))
      pss_nil)
    (pss_cons (ps_if (pt_val (pe_callB call_isi (by rfl) T.z_isinstance (by decide +kernel) (pa_cons (pv 1) (pa_cons (pe_bltn (v := .ty "list") (by rfl) T.z_list (by decide +kernel) rfl) pa_nil))))
      (pss_one (ps_if (pt_not (pt_val (pe_callB call_isi (by rfl) T.z_isinstance (by decide +kernel) (pa_cons (pv 0) (pa_cons (pe_bltn (v := .ty "list") (by rfl) T.z_list (by decide +kernel) rfl) pa_nil)))))
        (pss_one (ps_ret pe_bl))
        pss_nil))
      (pss_one (ps_if (pt_not (pt_val (pe_callB call_isi (by rfl) T.z_isinstance (by decide +kernel) (pa_cons (pv 0) (pa_cons (pe_bltn (v := .ty "tuple") (by rfl) T.z_tuple (by decide +kernel) rfl) pa_nil)))))
        (pss_one (ps_ret pe_bl))
        pss_nil)))
    (pss_cons (ps_if (pt_cmpR (OpR.or op_ne (op_neD hr.units)) (pe_callB (CallR.or call_len_str call_len_seq) (by rfl) T.z_len (by decide +kernel) (pa_cons (pv 0) pa_nil)) (pe_callB (CallR.or call_len_str call_len_seq) (by rfl) T.z_len (by decide +kernel) (pa_cons (pv 1) pa_nil)) (nomark _))
      (pss_one (ps_ret pe_bl))
      pss_nil)
    (pss_cons (ps_for PassesOwn.never rfl (pi_range1 (by rfl) T.z_range (pa_cons (pe_callB (CallR.or call_len_str call_len_seq) (by rfl) T.z_len (by decide +kernel) (pa_cons (pv 1) pa_nil)) pa_nil)) (pg_name (i := 2) sc_l_alike.nd rfl (.inl rfl))
      (pss_one (ps_if (pt_not (pt_val (pe_call G_l_alike hr (by rfl) T.m_l_alike T.F_l_alike.kp T.b_l_alike .nil pass0 (pa_cons (pe_ix ix_seq (pv 0) (pv 2) (fun _ _ => rfl)) (pa_cons (pe_ix ix_seq (pv 1) (pv 2) (fun _ _ => rfl)) pa_nil)))))
        (pss_one (ps_ret pe_bl))
        pss_nil)))
    (pss_one (ps_ret pe_bl))))))))), ?_⟩
    cases S with
    | non => exact ⟨_, rfl, rfl, _, rfl, iteT ⟨_, rfl, rfl, q⟩⟩
    | bl b =>
      refine ⟨_, rfl, rfl, _, rfl, iteF ?_⟩
      refine isit rfl (.base (.bl b)) (b := true) (by decide +kernel) ?_
      refine isit rfl (.base (.bl b)) (b := true) (by decide +kernel) ?_
      refine isit rfl (.base (.bl b)) (b := true) (by decide +kernel) ?_
      refine ⟨_, rfl, _, rfl, .inl ⟨rfl, ?_⟩⟩
      rw [decide_eq_true rfl]
      exact q
    | int i =>
      refine ⟨_, rfl, rfl, _, rfl, iteF ?_⟩
      refine isit rfl (.base (.int i)) (b := false) (by decide +kernel) ?_
      refine isit rfl (.base (.int i)) (b := false) (by decide +kernel) ?_
      refine isit rfl (.base (.int i)) (b := true) (by decide +kernel) ?_
      refine isit rfl (.base (.int i)) (b := true) (by decide +kernel) ?_
      refine ⟨_, rfl, _, rfl, .inl ⟨rfl, ?_⟩⟩
      rw [decide_eq_true rfl]
      exact q
    | str z =>
      refine ⟨_, rfl, rfl, _, rfl, iteF ?_⟩
      refine isit rfl (.base (.str z)) (b := false) (by decide +kernel) ?_
      refine isit rfl (.base (.str z)) (b := false) (by decide +kernel) ?_
      refine isit rfl (.base (.str z)) (b := false) (by decide +kernel) ?_
      refine isit rfl (.base (.str z)) (b := true) (by decide +kernel) ?_
      refine isit rfl (.base (.str z)) (b := true) (by decide +kernel) ?_
      refine ⟨_, rfl, _, rfl, .inl ⟨rfl, ?_⟩⟩
      rw [decide_eq_true rfl]
      exact q
    | @lst p p' xs ys hx hy l lt r =>
      refine ⟨_, rfl, rfl, _, rfl, iteF ?_⟩
      refine isit rfl (tyx_l hy) (b := false) (by decide +kernel) ?_
      refine isit rfl (tyx_l hx) (b := false) (by decide +kernel) ?_
      refine isit rfl (tyx_l hy) (b := false) (by decide +kernel) ?_
      refine isit rfl (tyx_l hy) (b := false) (by decide +kernel) ?_
      refine isit rfl (tyx_l hy) (b := true) (by decide +kernel) ?_
      refine isit rfl (tyx_l hx) (b := true) (by decide +kernel) ?_
      refine ⟨_, rfl, .inr ⟨p, xs, rfl, .inl hx, _, rfl, .inr ⟨p', ys, rfl, .inl hy, .inl ⟨rfl, _, rfl, ?_⟩⟩⟩⟩
      rw [l]
      refine iteNS rfl ?_
      refine ⟨_, rfl, .inr ⟨p', ys, rfl, .inl hy, _, rfl, by omega, by omega, for_range (lo := 0) (n := ys.length) (fun i σ' H' => ∃ y2, σ' = [some (.ref p), some (.ref p'), y2] ∧ H' = H) ⟨_, rfl, rfl⟩ ?_ ?_⟩⟩
      · rintro i σ' H' hi ⟨y2, rfl, rfl⟩
        have h1 : xs[i]? = some xs[i] := List.getElem?_eq_getElem (by omega)
        have h2 : ys[i]? = some ys[i] := List.getElem?_eq_getElem hi
        rw [Int.zero_add]
        refine ⟨_, rfl, _, rfl, .inl ⟨p, xs, i, xs[i], rfl, rfl, hx, atI_nat h1, ?_⟩⟩
        refine ⟨_, rfl, _, rfl, .inl ⟨p', ys, i, ys[i], rfl, rfl, hy, atI_nat h2, ?_⟩⟩
        exact ⟨_, _, rfl, r i _ _ h1 h2, _, rfl, _, rfl, rfl⟩
      · rintro σ' H' ⟨y2, rfl, rfl⟩
        exact q
    | @tup p p' xs ys hx hy l lt r =>
      refine ⟨_, rfl, rfl, _, rfl, iteF ?_⟩
      refine isit rfl (tyx_t hy) (b := false) (by decide +kernel) ?_
      refine isit rfl (tyx_t hx) (b := false) (by decide +kernel) ?_
      refine isit rfl (tyx_t hy) (b := false) (by decide +kernel) ?_
      refine isit rfl (tyx_t hy) (b := false) (by decide +kernel) ?_
      refine isit rfl (tyx_t hy) (b := false) (by decide +kernel) ?_
      refine isit rfl (tyx_t hx) (b := true) (by decide +kernel) ?_
      refine ⟨_, rfl, .inr ⟨p, xs, rfl, .inr hx, _, rfl, .inr ⟨p', ys, rfl, .inr hy, .inl ⟨rfl, _, rfl, ?_⟩⟩⟩⟩
      rw [l]
      refine iteNS rfl ?_
      refine ⟨_, rfl, .inr ⟨p', ys, rfl, .inr hy, _, rfl, by omega, by omega, for_range (lo := 0) (n := ys.length) (fun i σ' H' => ∃ y2, σ' = [some (.ref p), some (.ref p'), y2] ∧ H' = H) ⟨_, rfl, rfl⟩ ?_ ?_⟩⟩
      · rintro i σ' H' hi ⟨y2, rfl, rfl⟩
        have h1 : xs[i]? = some xs[i] := List.getElem?_eq_getElem (by omega)
        have h2 : ys[i]? = some ys[i] := List.getElem?_eq_getElem hi
        rw [Int.zero_add]
        refine ⟨_, rfl, _, rfl, .inr (.inl ⟨p, xs, i, xs[i], rfl, rfl, hx, atI_nat h1, ?_⟩)⟩
        refine ⟨_, rfl, _, rfl, .inr (.inl ⟨p', ys, i, ys[i], rfl, rfl, hy, atI_nat h2, ?_⟩)⟩
        exact ⟨_, _, rfl, r i _ _ h1 h2, _, rfl, _, rfl, rfl⟩
      · rintro σ' H' ⟨y2, rfl, rfl⟩
        exact q
theorem ok_alike (T : Top K mg a) : ∀ n, FnOk P w K mg base CX0 n a.f_l_alike a.d_l_alike ["_law_actual", "_law_due"] (spAl (Sm K n))
  | 0 => ⟨fun vs H Q E h => by
      obtain ⟨x, y, rfl, h, _⟩ := h
      exact h.elim, fun A outer s H args us vs Q E hr he hb hv h => by
      obtain ⟨x, y, rfl, h, _⟩ := h
      exact h.elim⟩
  | n + 1 => al_step T (ok_alike T n)
end
end K16

/-! atoms and literals as data -/
namespace K16
open PySem PySem.Spec PyProof.Rows L2 RN
mutual
def wl : PyData → Nat
  | .list ds => ds.length + wlAll ds
  | .tuple ds => ds.length + wlAll ds
  | .none => 0
  | .bool _ => 0
  | .int _ => 0
  | .str _ => 0
  | .dict _ => 0
def wlAll : List PyData → Nat
  | [] => 0
  | d :: ds => wl d + wlAll ds
end
def sg (sh k : Nat) : Str := ⟨#[97 + (k + sh) % 6]⟩
def eA (st sh k : Nat) : PyData :=
  if k = 6 then .tuple [.str "", .str "size", .int 2]
  else if st = 0 then .tuple [.str "o", .str "word", .str (sg sh k ++ toString (9 - (k : Int)))]
  else if st = 1 then .tuple [.str (sg sh k), .str "word", .str "w"]
  else if st = 2 then .tuple [.str "t", .str "below", .str "x", .str (sg sh k)]
  else if st = 3 then .tuple [.str (sg sh k ++ "1"), .str "turn", .str "x", .str "y", .int ((k : Int) % 3)]
  else if st = 4 then .tuple [.str "", .str "same", .str (sg sh k), .str "x"]
  else .tuple [.str "u", .str "equal", .tuple [.str (sg sh k)], .tuple [.str "g", .tuple [.str "x"]]]
/-- what is asked of seven atoms, the last one of another form -/
structure AtOk (e : Nat → PyData) : Prop where
  tup : ∀ k, k < 7 → ∃ x ds, e k = .tuple (x :: ds)
  kb : ∀ k, k < 7 → kb (e k) = true
  dep : ∀ k, k < 7 → (nk (e k)).depth ≤ 6 ∧ (e k).depth ≤ 20
  cl : ∀ k, k < 7 → (e k).canLay0 = true
  inj : ∀ j k, j < 7 → k < 7 → NestedKey.beq (nk (e j)) (nk (e k)) = decide (j = k)
  eqv : ∀ j k, j < 7 → k < 7 → PyData.eqv (e j) (e k) = decide (j = k)
  al : ∀ j k, j < 6 → k < 6 → PySem.W.alike (e j) (e k) = true
  wt : ∀ k, k < 7 → wl (e k) ≤ 100
  six : e 6 = .tuple [.str "", .str "size", .int 2]
theorem at_wt : (List.range 6).all (fun st => (List.range 6).all fun sh => (List.range 7).all fun j => decide (wl (eA st sh j) ≤ 100)) = true := by decide +kernel
def tupB : PyData → Bool
  | .tuple (_ :: _) => true
  | _ => false
theorem at_all : (List.range 6).all (fun st => (List.range 6).all fun sh => (List.range 7).all fun j => tupB (eA st sh j) && kb (eA st sh j) && decide ((nk (eA st sh j)).depth ≤ 6) && decide ((eA st sh j).depth ≤ 20) && (eA st sh j).canLay0 && (List.range 7).all fun k =>
    (NestedKey.beq (nk (eA st sh j)) (nk (eA st sh k)) == decide (j = k)) && (PyData.eqv (eA st sh j) (eA st sh k) == decide (j = k)) && (decide (j = 6) || decide (k = 6) || PySem.W.alike (eA st sh j) (eA st sh k))) = true := by decide +kernel
theorem at_ok {st sh : Nat} (h1 : st < 6) (h2 : sh < 6) : AtOk (eA st sh) := by
  have g := List.all_eq_true.mp (List.all_eq_true.mp at_all st (List.mem_range.mpr h1)) sh (List.mem_range.mpr h2)
  have g1 := fun j (hj : j < 7) => List.all_eq_true.mp g j (List.mem_range.mpr hj)
  simp only [Bool.and_eq_true, decide_eq_true_eq, beq_iff_eq, Bool.or_eq_true, List.all_eq_true, List.mem_range] at g1
  refine ⟨fun k hk => ?_, fun k hk => (g1 k hk).1.1.1.1.2, fun k hk => ⟨(g1 k hk).1.1.1.2, (g1 k hk).1.1.2⟩, fun k hk => (g1 k hk).1.2, fun j k hj hk => ((g1 j hj).2 k hk).1.1, fun j k hj hk => ((g1 j hj).2 k hk).1.2, fun j k hj hk => ?_, fun k hk => ?_, by unfold eA; rw [if_pos rfl]⟩
  · have := (g1 k hk).1.1.1.1.1
    revert this
    cases eA st sh k with
    | tuple xs => cases xs with
      | nil => intro h; cases h
      | cons x ds => exact fun _ => ⟨x, ds, rfl⟩
    | _ => intro h; cases h
  · rcases ((g1 j (by omega)).2 k (by omega)).2 with (h | h) | h
    · omega
    · omega
    · exact h
  · exact of_decide_eq_true (List.all_eq_true.mp (List.all_eq_true.mp (List.all_eq_true.mp at_wt st (List.mem_range.mpr h1)) sh (List.mem_range.mpr h2)) k (List.mem_range.mpr hk))
/-! ### literals -/
def eL (e : Nat → PyData) (l : Lt) : PyData := .tuple [e l.1, .bool l.2]
section
variable {e : Nat → PyData} {K : PySem.W.Frag} {H H' : Hp}
theorem b01 (b c : Bool) : ((if b = true then (1 : Int) else 0) = if c = true then 1 else 0) ↔ b = c := by cases b <;> cases c <;> decide
theorem eL_kb (A : AtOk e) {l : Lt} (h : l.1 < 7) : RN.kb (eL e l) = true := by
  show (RN.kb (e l.1) && (true && true)) = true
  rw [A.kb _ h]; rfl
theorem eL_dep (A : AtOk e) {l : Lt} (h : l.1 < 7) : (nk (eL e l)).depth ≤ 8 := by
  have := (A.dep _ h).1
  show max (nk (e l.1)).depth (max 0 0) + 1 ≤ 8
  omega
theorem eL_cl (A : AtOk e) {l : Lt} (h : l.1 < 7) : (eL e l).canLay0 = true := by
  show ((e l.1).canLay0 && (true && true)) = true
  rw [A.cl _ h]; rfl
theorem eL_d (A : AtOk e) {l : Lt} (h : l.1 < 7) : (eL e l).depth ≤ 21 := by
  have := (A.dep _ h).2
  show max (e l.1).depth (max 0 0) + 1 ≤ 21
  omega
theorem eL_shaped (A : AtOk e) {l : Lt} (h : l.1 < 7) : SeqAt.shaped (eL e l) = true := by
  unfold SeqAt.shaped
  rw [eL_cl A h, decide_eq_true (by have := eL_d A h; omega)]; rfl
theorem eL_inj (A : AtOk e) {l m : Lt} (hl : l.1 < 7) (hm : m.1 < 7) (h : nk (eL e l) = nk (eL e m)) : l = m := by
  have h2 : NestedKey.tup [nk (e l.1), .num (if l.2 = true then 1 else 0)] = NestedKey.tup [nk (e m.1), .num (if m.2 = true then 1 else 0)] := h
  injection h2 with h2
  injection h2 with h3 h4
  injection h4 with h4 _
  injection h4 with h4
  have q := A.inj l.1 m.1 hl hm
  rw [h3, NestedKey.beq_self] at q
  exact Prod.ext (of_decide_eq_true q.symm) ((b01 _ _).mp h4)
theorem eL_eqv (A : AtOk e) {l m : Lt} (hl : l.1 < 7) (hm : m.1 < 7) : PyData.eqv (eL e l) (eL e m) = decide (l = m) := by
  show (PyData.eqv (e l.1) (e m.1) && ((l.2 == m.2) && true)) = decide (l = m)
  rw [A.eqv _ _ hl hm]
  obtain ⟨a, b⟩ := l
  obtain ⟨c, d⟩ := m
  by_cases h1 : a = c
  · subst h1
    by_cases h2 : b = d
    · subst h2; simp
    · have : (b == d) = false := by simpa using h2
      simp [this, h2]
  · simp [h1]
theorem eL_al (A : AtOk e) {l m : Lt} (hl : l.1 < 6) (hm : m.1 < 6) : PySem.W.alike (eL e l) (eL e m) = true := by
  show (PySem.W.alike (e l.1) (e m.1) && (PySem.W.alike (.bool l.2) (.bool m.2) && PySem.W.alikeAll [] [])) = true
  rw [A.al _ _ hl hm]
  simp [PySem.W.alike, PySem.W.alikeAll]
/-- a literal at x -/
def Li (e : Nat → PyData) (K : PySem.W.Frag) (H : Hp) (x : V) (l : Lt) : Prop := Dp K H x (eL e l)
theorem Li.tk (A : AtOk e) {x : V} {l : Lt} (h7 : l.1 < 7) (t : Tk H H') (h : Li e K H x l) : Li e K H' x l := dp_tk t _ _ h (eL_kb A h7)
theorem al_tk (A : AtOk e) {xs : List V} {ls : List Lt} (h7 : ∀ l ∈ ls, l.1 < 7) (t : Tk H H') (h : R1.Al (Li e K H) xs ls) : R1.Al (Li e K H') xs ls :=
  ⟨h.1, fun i x l a b => (h.2 i x l a b).tk A (h7 l (List.mem_of_getElem? b)) t⟩
theorem al_dps {κ : Type} {enc : κ → PyData} : ∀ {xs : List V} {ls : List κ}, R1.Al (fun x l => Dp K H x (enc l)) xs ls → DpAll K H xs (ls.map enc)
  | [], [], _ => .nil
  | [], _ :: _, h => by have := h.1; simp at this
  | _ :: _, [], h => by have := h.1; simp at this
  | x :: xs, l :: ls, h => .cons (h.2 0 x l rfl rfl) (al_dps ⟨Nat.succ.inj h.1, fun i y m a b => h.2 (i + 1) y m (by simpa using a) (by simpa using b)⟩)
theorem any_eL (A : AtOk e) {l : Lt} (hl : l.1 < 7) : ∀ {ls : List Lt}, (∀ m ∈ ls, m.1 < 7) → (ls.map (eL e)).any (fun z => PyData.eqv z (eL e l)) = decide (l ∈ ls)
  | [], _ => by simp
  | m :: ls, h => by
    rw [List.map_cons, List.any_cons, any_eL A hl (fun x hx => h x (List.mem_cons_of_mem _ hx)), eL_eqv A (h m List.mem_cons_self) hl]
    by_cases q : m = l
    · simp [q]
    · have q2 : l ≠ m := fun z => q z.symm
      simp [q, q2]
theorem cls_cl (A : AtOk e) : ∀ {ls : List Lt}, (∀ m ∈ ls, m.1 < 7) → PyData.canLayAll0 (ls.map (eL e)) = true ∧ PyData.depthAll (ls.map (eL e)) ≤ 21
  | [], _ => ⟨rfl, by show (0 : Nat) ≤ 21; decide⟩
  | m :: ls, h => by
    obtain ⟨a, b⟩ := cls_cl A (ls := ls) (fun x hx => h x (List.mem_cons_of_mem _ hx))
    have h7 := h m List.mem_cons_self
    refine ⟨?_, ?_⟩
    · show ((eL e m).canLay0 && PyData.canLayAll0 (ls.map (eL e))) = true
      rw [eL_cl A h7, a]; rfl
    · have := eL_d A h7
      show max (eL e m).depth (PyData.depthAll (ls.map (eL e))) ≤ 21
      omega
theorem list_shaped (A : AtOk e) {ls : List Lt} (h : ∀ m ∈ ls, m.1 < 7) : SeqAt.shaped (.list (ls.map (eL e))) = true := by
  obtain ⟨a, b⟩ := cls_cl A h
  have c : (PyData.list (ls.map (eL e))).depth ≤ 64 := by
    show PyData.depthAll (ls.map (eL e)) + 1 ≤ 64
    omega
  unfold SeqAt.shaped
  rw [show (PyData.list (ls.map (eL e))).canLay0 = true from a, decide_eq_true c]; rfl
theorem list_eqv (A : AtOk e) : ∀ {ls ms : List Lt}, (∀ m ∈ ls, m.1 < 7) → (∀ m ∈ ms, m.1 < 7) → PyData.eqvAll (ls.map (eL e)) (ms.map (eL e)) = decide (ls = ms)
  | [], [], _, _ => by simp [PyData.eqvAll]
  | [], _ :: _, _, _ => by simp [PyData.eqvAll]
  | _ :: _, [], _, _ => by simp [PyData.eqvAll]
  | l :: ls, m :: ms, h, g => by
    rw [List.map_cons, List.map_cons, PyData.eqvAll, eL_eqv A (h l List.mem_cons_self) (g m List.mem_cons_self), list_eqv A (fun x hx => h x (List.mem_cons_of_mem _ hx)) fun x hx => g x (List.mem_cons_of_mem _ hx)]
    by_cases q : l = m
    · subst q
      by_cases r : ls = ms
      · simp [r]
      · simp [r]
    · simp [q]
/-! ### sorting -/
theorem sort_ok (A : AtOk e) {ls : List Lt} (h : ∀ m ∈ ls, m.1 < 6) : PySem.W.AllAlike (ls.map (eL e)) ∧ PySem.W.Sortable (ls.map (eL e)) ∧ R0.DepLe 60 (ls.map (eL e)) := by
  refine ⟨fun d hd d' hd' => ?_, .inl fun d hd => ?_, fun d hd => ?_⟩
  · obtain ⟨l, hl, rfl⟩ := List.mem_map.mp hd
    obtain ⟨m, hm, rfl⟩ := List.mem_map.mp hd'
    exact eL_al A (h l hl) (h m hm)
  · obtain ⟨l, hl, rfl⟩ := List.mem_map.mp hd
    exact ⟨_, _, rfl⟩
  · obtain ⟨l, hl, rfl⟩ := List.mem_map.mp hd
    have := eL_d A (l := l) (by have := h l hl; omega)
    omega
theorem toks_eq {x y : PyData} (al : PySem.W.alike x y = true) (h : PySem.W.keyToks x = PySem.W.keyToks y) : PyData.eqv x y = true := by
  cases e : PyData.eqv x y with
  | true => rfl
  | false =>
    have := (PySem.W.toks_eqv x y al).2 e [] [.inl 0]
    rw [h, PySem.W.lex_pre, lex_irrefl] at this
    cases this
def srt (e : Nat → PyData) (ls : List Lt) : List Lt := R1.sortK (eL e) ls
theorem srt_perm (ls : List Lt) : (srt e ls).Perm ls := List.mergeSort_perm ls _
theorem srt_same (A : AtOk e) {l m : List Lt} (h6 : ∀ x ∈ l, x.1 < 6) (h : l.Perm m) : srt e l = srt e m := by
  have T : PySem.W.TotalLe (PySem.W.dataLe false (eL e)) := PySem.W.sortLe_total (listOrd itemOrd) false fun b => PySem.W.keyToks (eL e b)
  refine List.Perm.eq_of_pairwise (le := fun a b => PySem.W.dataLe false (eL e) a b = true) (fun a b ha hb h1 h2 => ?_) (PySem.W.sort_pairwise T l) (PySem.W.sort_pairwise T m) ((srt_perm l).trans (h.trans (srt_perm m).symm))
  have g1 : (!lexLt itemOrd (PySem.W.keyToks (eL e b)) (PySem.W.keyToks (eL e a))) = true := h1
  have g2 : (!lexLt itemOrd (PySem.W.keyToks (eL e a)) (PySem.W.keyToks (eL e b))) = true := h2
  have a6 := h6 a ((srt_perm l).mem_iff.mp ha)
  have b6 := h6 b (h.mem_iff.mpr ((srt_perm m).mem_iff.mp hb))
  have q := toks_eq (eL_al A a6 b6) (lex_total _ _ (by simpa using g2) (by simpa using g1))
  rw [eL_eqv A (by omega) (by omega)] at q
  exact of_decide_eq_true q
end
/-! ### alike of equal data -/
theorem dps_le {K : PySem.W.Frag} {H : Hp} : ∀ {ds : List PyData} {xs : List V}, DpAll K H xs ds → xs.length = ds.length
  | [], _, h => by cases h; rfl
  | d :: ds, _, h => by
    cases h with
    | cons a b => rw [List.length_cons, List.length_cons, dps_le b]
mutual
theorem sm_dp {K : PySem.W.Frag} {H : Hp} : ∀ (d : PyData) (n : Nat) (x y : V), Dp K H x d → Dp K H y d → d.depth < n → wl d ≤ 1000000 → Sm K n H x y
  | _, 0, _, _, _, _, h, _ => absurd h (Nat.not_lt_zero _)
  | .none, n + 1, _, _, hx, hy, _, _ => by cases hx; cases hy; exact .non
  | .bool _, n + 1, _, _, hx, hy, _, _ => by cases hx; cases hy; exact .bl _
  | .int _, n + 1, _, _, hx, hy, _, _ => by cases hx; cases hy; exact .int _
  | .str _, n + 1, _, _, hx, hy, _, _ => by cases hx; cases hy; exact .str _
  | .list ds, n + 1, _, _, hx, hy, hd, hw => by
    cases hx with
    | lst hp ha =>
      cases hy with
      | lst hq hb =>
        have hd' : PyData.depthAll ds + 1 < n + 1 := hd
        have hw' : ds.length + wlAll ds ≤ 1000000 := hw
        obtain ⟨l1, f⟩ := sm_dps ds n _ _ ha hb (by omega) (by omega)
        exact .lst hp hq l1 (by rw [dps_le ha]; omega) f
  | .tuple ds, n + 1, _, _, hx, hy, hd, hw => by
    cases hx with
    | tup hp ha =>
      cases hy with
      | tup hq hb =>
        have hd' : PyData.depthAll ds + 1 < n + 1 := hd
        have hw' : ds.length + wlAll ds ≤ 1000000 := hw
        obtain ⟨l1, f⟩ := sm_dps ds n _ _ ha hb (by omega) (by omega)
        exact .tup hp hq l1 (by rw [dps_le ha]; omega) f
  | .dict _, n + 1, _, _, hx, _, _, _ => by cases hx
theorem sm_dps {K : PySem.W.Frag} {H : Hp} : ∀ (ds : List PyData) (n : Nat) (xs ys : List V), DpAll K H xs ds → DpAll K H ys ds → PyData.depthAll ds < n → wlAll ds ≤ 1000000 →
    xs.length = ys.length ∧ ∀ (i : Nat) x y, xs[i]? = some x → ys[i]? = some y → Sm K n H x y
  | [], _, _, _, ha, hb, _, _ => by cases ha; cases hb; exact ⟨rfl, fun i x y h => by simp at h⟩
  | d :: ds, n, _, _, ha, hb, hd, hw => by
    cases ha with
    | cons a1 a2 =>
      cases hb with
      | cons b1 b2 =>
        have hd' : max (PyData.depth d) (PyData.depthAll ds) < n := hd
        have hw' : wl d + wlAll ds ≤ 1000000 := hw
        obtain ⟨l1, f⟩ := sm_dps ds n _ _ a2 b2 (by omega) (by omega)
        refine ⟨by simp [l1], fun i x y hx hy => ?_⟩
        cases i with
        | zero => cases hx; cases hy; exact sm_dp d n _ _ a1 b1 (by omega) (by omega)
        | succ i => exact f i x y (by simpa using hx) (by simpa using hy)
end
end K16


/-! the negation, what is left of a clause -/
namespace K16
open PySem PySem.Spec PyProof.Rows L2 RN
theorem Same.mut {H H' : Hp} {p : Addr} {o : HO} (e : Same H H') (h : H p = none) : Same H (upd H' p o) := fun b u hb => by
  rw [upd_ne (ne_of_none hb h)]
  exact e b u hb
theorem Kp.same {st : Addr} {H H1 H2 : Hp} (k : Kp st H H1) (h : Same H1 H2) : Kp st H H2 := fun b o n e => h _ _ (k b o n e)
theorem Kp.new {st p : Addr} {H H' : Hp} {o : HO} (k : Kp st H H') (h : H' p = none) : Kp st H (upd H' p o) := fun b u n e => by
  have := k b u n e
  rw [upd_ne (ne_of_none this h)]
  exact this
theorem Kp.mut {st p : Addr} {H H' : Hp} {o : HO} (k : Kp st H H') (h : H p = none) : Kp st H (upd H' p o) := fun b u n e => by
  rw [upd_ne (ne_of_none e h)]
  exact k b u n e
theorem u16 {A : Around} {k : Nat} (hr : Room k A) : A.units + 16 < cLine := by have := hr.un; omega
theorem u65 {A : Around} {k : Nat} (hr : Room k A) : A.units + 65 < cLine := by have := hr.un; omega
theorem u80 {A : Around} {k : Nat} (hr : Room k A) : A.units + 80 < cLine := by have := hr.un; omega
theorem op_notInDK {X : Cx} {K : PySem.W.Frag} (hu : X.A.units + 65 < cLine) (hK : X.K = K) : OpR X (compareOp .NotIn) (rNotInD K) := by subst hK; exact op_notInD hu
theorem op_inDK {X : Cx} {K : PySem.W.Frag} (hu : X.A.units + 65 < cLine) (hK : X.K = K) : OpR X (compareOp .In) (rInD K) := by subst hK; exact op_inD hu
section
variable {P : Program} {w : World} {K : PySem.W.Frag} {mg : Str → Option Value} {base : Heap} {a : Ad} {e : Nat → PyData}
theorem Same.tk {H H' : Hp} (h : Same H H') : Tk H H' := tk_all h
theorem li_split {H : Hp} {x : V} {l : Lt} (h : Li e K H x l) : ∃ p u, x = .ref p ∧ SqT K H p [u, .bl l.2] ∧ Dp K H u (e l.1) := by
  unfold Li eL at h
  cases h with
  | tup hs ha =>
    cases ha with
    | cons h1 h2 =>
      cases h2 with
      | cons h3 h4 =>
        cases h4
        cases h3
        exact ⟨_, _, rfl, hs, h1⟩
theorem li_mk {H : Hp} {p : Addr} {u : V} {l : Lt} (h : SqT K H p [u, .bl l.2]) (h2 : Dp K H u (e l.1)) : Li e K H (.ref p) l := .tup h (.cons h2 (.cons (.bl _) .nil))
def spNeg (e : Nat → PyData) (K : PySem.W.Frag) : Sp := fun vs H Q _ => ∃ (x : V) (l : Lt), vs = [x] ∧ l.1 < 7 ∧ Li e K H x l ∧ ∀ r H', H r = none → Same H H' → Li e K H' (.ref r) (ng l) → Q (.ref r) H'
theorem ok_neg (A : AtOk e) (T : Top K mg a) : FnOk P w K mg base CX0 1 a.f_negated a.d_negated ["literal"] (spNeg e K) := by
  refine T.F_negated.ok sc_negated (fun vs H Q E h => ?_) (fun cdv A' outer s H vs Q E hr h => ?_)
  · obtain ⟨x, l, rfl, _⟩ := h
    rfl
  · obtain ⟨x, l, rfl, h7, hx, q⟩ := h
    refine ⟨_, (pss_cons (ps_asg (pv 0) (pg_tup rfl (pgs_cons (pg_name (i := 1) sc_negated.nd rfl (.inl rfl)) (pgs_cons (pg_name (i := 2) sc_negated.nd rfl (.inl rfl)) pgs_nil))))
    (pss_one (ps_ret (pe_tup (pa_cons (pv 1) (pa_cons (pe_not (pv 2)) pa_nil)))))), ?_⟩
    obtain ⟨p, u, rfl, hp, hu⟩ := li_split hx
    refine ⟨.ref p, rfl, p, _, rfl, hp, rfl, u, _, rfl, .bl l.2, _, rfl, rfl, ?_⟩
    refine ⟨u, rfl, .bl l.2, rfl, l.2, rfl, Nat.le_of_lt (small1000 (by simp)), fun r nr => q r _ nr (same_upd nr) (li_mk (l := ng l) (.of upd_same) (dp_tk (tk_new nr) _ _ hu (A.kb _ h7)))⟩
theorem ixt {K : PySem.W.Frag} {i : Nat} {p : Addr} {xs : List V} {v : V} {σ : L2.St} {H : Hp} {Q : VK} (j : Nat) (h0 : σ[i]? = some (some (.ref p))) (h : SqT K H p xs) (e : xs[j]? = some v) (hl : j < xs.length) (q : Q v H) : tOp (rIx K) (tVar i) (tC (.int (j : Int))) σ H Q :=
  ⟨.ref p, h0, .inr (.inl ⟨p, xs, j, v, rfl, rfl, h, atI_nat e, q⟩)⟩
theorem ok_not (A : AtOk e) (T : Top K mg a) : FnOk P w K mg base CX0 1 a.f_l_not a.d_l_not ["_law_literal"] (spNeg e K) := by
  refine T.F_l_not.ok sc_l_not (fun vs H Q E h => ?_) (fun cdv A' outer s H vs Q E hr h => ?_)
  · obtain ⟨x, l, rfl, _⟩ := h
    rfl
  · obtain ⟨x, l, rfl, h7, hx, q⟩ := h
    refine ⟨_, (pss_one (ps_ret (pe_tup (pa_cons (pe_ix ix_seq (pv 0) pe_int (fun _ _ => rfl)) (pa_cons (pe_not (pe_ix ix_seq (pv 0) pe_int (fun _ _ => rfl))) pa_nil))))), ?_⟩
    obtain ⟨p, u, rfl, hp, hu⟩ := li_split hx
    refine ixt 0 rfl hp rfl (by simp) (ixt 1 rfl hp rfl (by simp) ⟨l.2, rfl, Nat.le_of_lt (small1000 (by simp)), fun r nr => q r _ nr (same_upd nr) (li_mk (l := ng l) (.of upd_same) (dp_tk (tk_new nr) _ _ hu (A.kb _ h7)))⟩)
/-! ### what is held: the entries of a dict -/
abbrev EsIs (e : Nat → PyData) (K : PySem.W.Frag) (H : Hp) : List Ent → List Stp → Prop := Paired fun p q => p.1 = nk (eL e q.1) ∧ Li e K H (.ref p.2.1) q.1 ∧ p.2.2 = .int (q.2 : Int)
def In7 (ls : List Lt) : Prop := ∀ l ∈ ls, l.1 < 7
def HeldIs (e : Nat → PyData) (w : World) (K : PySem.W.Frag) (H : Hp) (d : Addr) (st : List Stp) : Prop := ∃ es : List Ent, H d = some (dN w d es) ∧ EsIs e K H es st
theorem In7.tl {l : Lt} {ls : List Lt} (h : In7 (l :: ls)) : In7 ls := fun x hx => h x (List.mem_cons_of_mem _ hx)
theorem es_keys (A : AtOk e) {H : Hp} : ∀ {es : List Ent} {st : List Stp}, In7 (hs st) → EsIs e K H es st → KeysAt K H es := by
  intro es st h r
  induction r with
  | nil => intro p hp; cases hp
  | @cons p0 q ps qs z t ih =>
    have h7 : q.1.1 < 7 := h q.1 List.mem_cons_self
    intro p hp
    rcases List.mem_cons.mp hp with rfl | hp
    · exact ⟨eL e q.1, z.2.1, eL_kb A h7, z.1.symm, by rw [z.1]; exact eL_dep A h7⟩
    · exact ih (In7.tl h) p hp
theorem es_tk (A : AtOk e) {H H' : Hp} (k : Tk H H') : ∀ {es : List Ent} {st : List Stp}, In7 (hs st) → EsIs e K H es st → EsIs e K H' es st := by
  intro es st h r
  induction r with
  | nil => exact .nil
  | @cons p0 q ps qs z t ih => exact .cons ⟨z.1, z.2.1.tk A (h q.1 List.mem_cons_self) k, z.2.2⟩ (ih (In7.tl h))
theorem es_get (A : AtOk e) {H : Hp} {l : Lt} (hl : l.1 < 7) : ∀ {es : List Ent} {st : List Stp}, In7 (hs st) → EsIs e K H es st → getN es (nk (eL e l)) = (st.find? fun q => decide (q.1 = l)).map fun q => .int (q.2 : Int) := by
  intro es st h r
  induction r with
  | nil => rfl
  | @cons p q ps qs z t ih =>
    have h7 : q.1.1 < 7 := h q.1 List.mem_cons_self
    have ih := ih (In7.tl h)
    unfold getN at ih ⊢
    rw [List.find?_cons, List.find?_cons]
    by_cases c : q.1 = l
    · have c1 : p.1 = nk (eL e l) := by rw [z.1, c]
      simp [c1, c, z.2.2]
    · have c1 : ¬ p.1 = nk (eL e l) := fun x => c (eL_inj A h7 hl (z.1.symm.trans x))
      simp only [c1, c, decide_false]
      exact ih
theorem find_in (l : Lt) : ∀ st : List Stp, ((st.find? fun q => decide (q.1 = l)).map fun q => V.int (q.2 : Int)).isSome = decide (l ∈ hs st)
  | [] => by simp [hs]
  | q :: st => by
    have ih := find_in l st
    rw [List.find?_cons]
    by_cases c : q.1 = l
    · subst c; simp [hs]
    · have c2 : ¬ l = q.1 := fun x => c x.symm
      simp only [c, decide_false]
      rw [ih]
      unfold hs
      simp [c2]
theorem es_in (A : AtOk e) {H : Hp} {l : Lt} (hl : l.1 < 7) {es : List Ent} {st : List Stp} (h : In7 (hs st)) (r : EsIs e K H es st) : (getN es (nk (eL e l))).isSome = decide (l ∈ hs st) := by
  rw [es_get A hl h r, find_in]
theorem key_li (A : AtOk e) {H : Hp} {b : Addr} {l : Lt} (h7 : l.1 < 7) (h : Li e K H (.ref b) l) : KeyAt K H (nk (eL e l)) b := ⟨eL e l, h, eL_kb A h7, rfl, eL_dep A h7⟩
theorem ng7 {l : Lt} (h : l.1 < 7) : (ng l).1 < 7 := h
/-- one literal more of a clause -/
theorem left_snoc (c : List Lt) (held : List Lt) (l : Lt) : left (c ++ [l]) held = if ng l ∈ held then left c held else left c held ++ [l] := by
  unfold left
  rw [List.filter_append]
  by_cases h : ng l ∈ held
  · simp [h]
  · simp [h]
def spUnd (e : Nat → PyData) (w : World) (K : PySem.W.Frag) : Sp := fun vs H Q _ => ∃ (c0 d : Addr) (xs : List V) (c : List Lt) (st : List Stp), vs = [.ref c0, .ref d] ∧ SqT K H c0 xs ∧ R1.Al (Li e K H) xs c ∧ c.length ≤ 1000 ∧ In7 c ∧ HeldIs e w K H d st ∧ In7 (hs st) ∧
  ∀ p ys H', Same H H' → H p = none → H' p = some (.lst ys) → R1.Al (Li e K H') ys (left c (hs st)) → Q (.ref p) H'
theorem left_len (c held : List Lt) : (left c held).length ≤ c.length := List.length_filter_le _ _
theorem ok_und (A : AtOk e) (T : Top K mg a) (G_negated : FnOk P w K mg base CX0 1 a.f_negated a.d_negated ["literal"] (spNeg e K)) : FnOk P w K mg base CX0 2 a.f_undenied a.d_undenied ["clause", "held"] (spUnd e w K) := by
  refine T.F_undenied.ok sc_undenied (fun vs H Q E h => ?_) (fun cdv A' outer s H vs Q E hr h => ?_)
  · obtain ⟨_, _, _, _, _, rfl, _⟩ := h
    rfl
  · obtain ⟨c0, d, xs, c, st, rfl, hc, hA, hl, h7, ⟨es, hd, hE⟩, hs7, q⟩ := h
    refine ⟨_, (pss_one (ps_ret (pe_lc (own := [("literal", 2)]) rfl sc_undenied.nd (R1.PI.or (pi_list (pv 0)) (pi_tup (pv 0))) (blkOk_by (own := [("literal", 2)]) (N := ["clause", "held", "literal"]) (sc := defScope s_undenied) (by decide +kernel)) (fun _ _ _ _ _ => (pg_name (i := 2) sc_undenied.nd rfl (.inl rfl))) (fun _ _ _ _ _ => pts_one (pt_cmpR (RN.op_notInN (u16 hr) rfl rfl) (pe_call G_negated (hr.mono (by decide)) (by rfl) T.m_negated T.F_negated.kp T.b_negated .nil pass0 (pa_cons (pv 2) pa_nil)) (pv 1) rfl)) (fun _ _ _ _ _ => (pv 2))))), ?_⟩
    refine .inr ⟨.ref c0, rfl, c0, rfl, ⟨_, hc⟩, fun D nD => ?_⟩
    have lx : xs.length = c.length := hA.1
    refine R1.walk_it (walk_tup (xs := xs)) (fun u H2 => Same H H2 ∧ ∃ acc, H2 D = some (.lst acc) ∧ R1.Al (Li e K H2) acc (left (c.take u) (hs st))) ⟨same_upd nD, [], upd_same, R1.Al.nil⟩ (fun u H2 _ h => sqT_tk (Same.tk h.1) hc) ?_ ?_
    · rintro u x _ H2 hu ⟨sm2, acc, hD, hB⟩ ⟨rfl, hx⟩
      obtain ⟨l, hl2, hli⟩ := hA.at hx
      have l7 : l.1 < 7 := h7 l (List.mem_of_getElem? hl2)
      have et : c.take (u + 1) = c.take u ++ [l] := by rw [List.take_add_one, hl2]; rfl
      refine ⟨rfl, x, rfl, x, l, rfl, l7, hli.tk A l7 (Same.tk sm2), fun r H3 nr sm3 hng => ?_⟩
      have s3 := sm2.trans sm3
      have hd3 := s3 _ _ hd
      have es3 := es_tk A (Same.tk s3) hs7 hE
      have hD3 := sm3 _ _ hD
      refine ⟨.ref d, rfl, r, d, es, nk (eL e (ng l)), rfl, rfl, hd3, es_keys A hs7 es3, key_li A (ng7 l7) hng, _, rfl, ?_⟩
      simp only [if_true]
      rw [es_in A (ng7 l7) hs7 es3]
      have b3 := al_tk A (fun m hm => h7 m (List.mem_of_mem_take (List.mem_filter.mp hm).1)) (Same.tk sm3) hB
      rw [et, left_snoc]
      by_cases hin : ng l ∈ hs st
      · rw [decide_eq_true hin, if_pos hin]
        exact ⟨s3, acc, hD3, b3⟩
      · rw [decide_eq_false hin, if_neg hin]
        have la : acc.length ≤ 1000 := by
          have := hB.1
          have := left_len (c.take u) (hs st)
          rw [List.length_take] at this
          omega
        refine ⟨x, rfl, acc, hD3, small1000 la, K16.Same.mut s3 nD, _, upd_same, ?_⟩
        have k4 : Tk H3 (upd H3 D (.lst (acc ++ [x]))) := tk_upd hD3 True.intro
        exact R1.Al.snoc (al_tk A (fun m hm => h7 m (List.mem_of_mem_take (List.mem_filter.mp hm).1)) k4 b3) ((hli.tk A l7 (Same.tk s3)).tk A l7 k4)
    · rintro H2 ⟨sm2, acc, hD, hB⟩
      rw [lx, List.take_length] at hB
      exact q D acc H2 sm2 nD hD hB
end
end K16


/-! what is left of a clause by the law, the next step -/
namespace K16
open PySem PySem.Spec PyProof.Rows L2 RN
section
variable {P : Program} {w : World} {K : PySem.W.Frag} {mg : Str → Option Value} {base : Heap} {a : Ad} {e : Nat → PyData}
theorem if_ans {c : TT} {t u : TS} {D : Ends} {σ : L2.St} {H : Hp} {b : Bool} (h : Ans c σ H b) (h1 : b = true → t D σ H) (h2 : b = false → u D σ H) : tIfS c t u D σ H := by
  refine h _ ?_
  cases b with
  | true => exact h1 rfl
  | false => exact h2 rfl
abbrev rLn (K : PySem.W.Frag) : List V → Hp → VK → Prop := fun xs H Q => (∃ z, xs = [V.str z] ∧ z.length ≤ sizeLine ∧ Q (V.int z.length) H) ∨ ∃ p ys, xs = [V.ref p] ∧ (SqL K H p ys ∨ SqT K H p ys) ∧ Q (V.int ys.length) H
abbrev rEqq (K : PySem.W.Frag) : R2 := fun x y H Q => rEq x y H Q ∨ rEqD K x y H Q
theorem len_eq {i n : Nat} {p : Addr} {ys : List V} {σ : L2.St} {H : Hp} (h0 : σ[i]? = some (some (.ref p))) (h : SqL K H p ys ∨ SqT K H p ys) : Ans (tTest (tOp (rEqq K) (tCB (rLn K) (tCons (tVar i) tNil)) (tC (.int (n : Int))))) σ H (decide (ys.length = n)) := fun Q q => by
  have : decide ((ys.length : Int) = (n : Int)) = decide (ys.length = n) := by rw [Bool.eq_iff_iff, decide_eq_true_eq, decide_eq_true_eq]; omega
  refine ⟨_, h0, .inr ⟨p, ys, rfl, h, eqi ?_⟩⟩
  rw [this]
  exact q
def spLeft (e : Nat → PyData) (K : PySem.W.Frag) : Sp := fun vs H Q _ => ∃ (c0 d : Addr) (xs hx : List V) (c held : List Lt), vs = [.ref c0, .ref d] ∧ SqT K H c0 xs ∧ R1.Al (Li e K H) xs c ∧ c.length ≤ 1000 ∧ In7 c ∧ SqL K H d hx ∧ R1.Al (Li e K H) hx held ∧ In7 held ∧
  ∀ p ys H', Same H H' → H p = none → H' p = some (.lst ys) → R1.Al (Li e K H') ys (left c held) → Q (.ref p) H'
theorem sqL_same {H H' : Hp} {p : Addr} {xs : List V} (s : Same H H') (h : SqL K H p xs) : SqL K H' p xs := by
  rcases h with (h | ⟨o, h⟩) | h
  · exact .inl (.inl (s _ _ h))
  · exact .inl (.inr ⟨o, s _ _ h⟩)
  · exact .inr h
theorem in7_left {c held : List Lt} {u : Nat} (h : In7 c) : ∀ m ∈ left (c.take u) held, m.1 < 7 := fun m hm => h m (List.mem_of_mem_take (List.mem_filter.mp hm).1)
theorem ok_left (A : AtOk e) (T : Top K mg a) (G_l_not : FnOk P w K mg base CX0 1 a.f_l_not a.d_l_not ["_law_literal"] (spNeg e K)) : FnOk P w K mg base CX0 2 a.f_l_left a.d_l_left ["_law_clause_here", "_law_held"] (spLeft e K) := by
  refine T.F_l_left.ok sc_l_left (fun vs H Q E h => ?_) (fun cdv A' outer s H vs Q E hr h => ?_)
  · obtain ⟨_, _, _, _, _, _, rfl, _⟩ := h
    rfl
  · obtain ⟨c0, d, xs, hx, c, held, rfl, hc, hA, hl, h7, hd, hE, hs7, q⟩ := h
    refine ⟨_, (pss_one (ps_ret (pe_lc (own := [("_law_literal", 2)]) rfl sc_l_left.nd (R1.PI.or (pi_list (pv 0)) (pi_tup (pv 0))) (blkOk_by (own := [("_law_literal", 2)]) (N := ["_law_clause_here", "_law_held", "_law_literal"]) (sc := defScope s_l_left) (by decide +kernel)) (fun _ _ _ _ _ => (pg_name (i := 2) sc_l_left.nd rfl (.inl rfl))) (fun _ _ _ _ _ => pts_one (pt_cmpR (op_notInDK (u65 hr) rfl) (pe_call G_l_not (hr.mono (by decide)) (by rfl) T.m_l_not T.F_l_not.kp T.b_l_not .nil pass0 (pa_cons (pv 2) pa_nil)) (pv 1) rfl)) (fun _ _ _ _ _ => (pv 2))))), ?_⟩
    refine .inr ⟨.ref c0, rfl, c0, rfl, ⟨_, hc⟩, fun D nD => ?_⟩
    have lx : xs.length = c.length := hA.1
    refine R1.walk_it (walk_tup (xs := xs)) (fun u H2 => Same H H2 ∧ ∃ acc, H2 D = some (.lst acc) ∧ R1.Al (Li e K H2) acc (left (c.take u) held)) ⟨same_upd nD, [], upd_same, R1.Al.nil⟩ (fun u H2 _ h => sqT_tk (Same.tk h.1) hc) ?_ ?_
    · rintro u x _ H2 hu ⟨sm2, acc, hD, hB⟩ ⟨rfl, hx2⟩
      obtain ⟨l, hl2, hli⟩ := hA.at hx2
      have l7 : l.1 < 7 := h7 l (List.mem_of_getElem? hl2)
      have et : c.take (u + 1) = c.take u ++ [l] := by rw [List.take_add_one, hl2]; rfl
      refine ⟨rfl, x, rfl, x, l, rfl, l7, hli.tk A l7 (Same.tk sm2), fun r H3 nr sm3 hng => ?_⟩
      have s3 := sm2.trans sm3
      have hD3 := sm3 _ _ hD
      have hE3 := al_tk A hs7 (Same.tk s3) hE
      refine ⟨.ref d, rfl, eL e (ng l), held.map (eL e), hng, .lst (sqL_same s3 hd) (al_dps hE3), eL_shaped A (ng7 l7), list_shaped A hs7, _, rfl, ?_⟩
      rw [any_eL A (ng7 l7) hs7]
      have b3 := al_tk A (in7_left h7) (Same.tk sm3) hB
      rw [et, left_snoc]
      by_cases hin : ng l ∈ held
      · rw [decide_eq_true hin, if_pos hin]
        exact ⟨s3, acc, hD3, b3⟩
      · rw [decide_eq_false hin, if_neg hin]
        have la : acc.length ≤ 1000 := by
          have := hB.1
          have := left_len (c.take u) held
          rw [List.length_take] at this
          omega
        refine ⟨x, rfl, acc, hD3, small1000 la, K16.Same.mut s3 nD, _, upd_same, ?_⟩
        have k4 : Tk H3 (upd H3 D (.lst (acc ++ [x]))) := tk_upd hD3 True.intro
        exact R1.Al.snoc (al_tk A (in7_left h7) k4 b3) ((hli.tk A l7 (Same.tk s3)).tk A l7 k4)
    · rintro H2 ⟨sm2, acc, hD, hB⟩
      rw [lx, List.take_length] at hB
      exact q D acc H2 sm2 nD hD hB
/-! ### clauses under labels -/
def ClIs (e : Nat → PyData) (K : PySem.W.Frag) (H : Hp) (c0 : Addr) (c : List Lt) : Prop := ∃ xs, SqT K H c0 xs ∧ R1.Al (Li e K H) xs c
def RsOk (rows : List Row) : Prop := rows.length ≤ 60 ∧ ∀ r ∈ rows, r.2.length ≤ 60 ∧ In7 r.2
/-- the dict of the clauses -/
def CdIs (e : Nat → PyData) (K : PySem.W.Frag) (H : Hp) (kvs : List (Key × V)) (rows : List Row) : Prop := ∀ r ∈ rows, ∃ c0, valV kvs (.inl (r.1 : Int)) = some (.ref c0) ∧ ClIs e K H c0 r.2
theorem ClIs.tk (A : AtOk e) {H H' : Hp} (t : Tk H H') {c0 : Addr} {c : List Lt} (h7 : In7 c) (h : ClIs e K H c0 c) : ClIs e K H' c0 c := by
  obtain ⟨xs, h1, h2⟩ := h
  exact ⟨xs, sqT_tk t h1, al_tk A h7 t h2⟩
theorem CdIs.tk (A : AtOk e) {H H' : Hp} (t : Tk H H') {kvs : List (Key × V)} {rows : List Row} (ok : RsOk rows) (h : CdIs e K H kvs rows) : CdIs e K H' kvs rows := fun r hr => by
  obtain ⟨c0, h1, h2⟩ := h r hr
  exact ⟨c0, h1, h2.tk A t (ok.2 r hr).2⟩
def lbs (rows : List Row) : List V := rows.map fun r => V.int (r.1 : Int)
/-- what the next step is -/
inductive NxIs (e : Nat → PyData) (K : PySem.W.Frag) (H : Hp) (rows : List Row) (held : List Lt) : V → Prop
  | none : chosen rows held = .none → NxIs e K H rows held .non
  | clash {p : Addr} {r : Row} : chosen rows held = some r → left r.2 held = [] → H p = some (.tup [.non, .int (r.1 : Int)]) → NxIs e K H rows held (.ref p)
  | step {p : Addr} {x : V} {r : Row} {l : Lt} {ls : List Lt} : chosen rows held = some r → left r.2 held = l :: ls → H p = some (.tup [x, .int (r.1 : Int)]) → Li e K H x l → NxIs e K H rows held (.ref p)
def spNext (e : Nat → PyData) (w : World) (K : PySem.W.Frag) : Sp := fun vs H Q _ => ∃ (cd od d : Addr) (kvs : List (Key × V)) (rows : List Row) (st : List Stp), vs = [.ref cd, .ref od, .ref d] ∧ H cd = some (.dK kvs) ∧ RsOk rows ∧ CdIs e K H kvs rows ∧ SqL K H od (lbs rows) ∧
  HeldIs e w K H d st ∧ In7 (hs st) ∧ ∀ v H', Same H H' → NxIs e K H' rows (hs st) v → Q v H'
theorem chosen_at {rows : List Row} {held : List Lt} {i : Nat} {r : Row} (h : rows[i]? = some r) (n : chosen (rows.take i) held = none) (f : fires r.2 held = true) : chosen rows held = some r := by
  have lt : i < rows.length := (List.getElem?_eq_some_iff.mp h).1
  have e1 : rows = rows.take i ++ r :: rows.drop (i + 1) := by
    have g : rows[i] = r := (List.getElem?_eq_some_iff.mp h).2
    rw [← g, List.getElem_cons_drop, List.take_append_drop]
  unfold chosen at n ⊢
  rw [e1, List.find?_append, n]
  simp [f]
theorem chosen_take {rows : List Row} {held : List Lt} {i : Nat} {r : Row} (h : rows[i]? = some r) (n : chosen (rows.take i) held = none) (f : fires r.2 held = false) : chosen (rows.take (i + 1)) held = none := by
  have et : rows.take (i + 1) = rows.take i ++ [r] := by rw [List.take_add_one, h]; rfl
  unfold chosen at n ⊢
  rw [et, List.find?_append, n]
  simp [f]
theorem fires_nil {c held : List Lt} (h : left c held = []) : fires c held = true := by unfold fires; rw [h]; rfl
theorem fires_one' {c held : List Lt} {l : Lt} (h : left c held = [l]) : fires c held = !decide (l ∈ held) := by unfold fires; rw [h]; simp
theorem fires_more {c held : List Lt} {l m : Lt} {ls : List Lt} (h : left c held = l :: m :: ls) : fires c held = false := by unfold fires; rw [h]; simp
theorem ok_next (A : AtOk e) (T : Top K mg a) (G_undenied : FnOk P w K mg base CX0 2 a.f_undenied a.d_undenied ["clause", "held"] (spUnd e w K)) : FnOk P w K mg base CX0 3 a.f_next_step a.d_next_step ["clauses", "order", "held"] (spNext e w K) := by
  refine T.F_next_step.ok sc_next_step (fun vs H Q E h => ?_) (fun cdv A' outer s H vs Q E hr h => ?_)
  · obtain ⟨_, _, _, _, _, _, rfl, _⟩ := h
    rfl
  · obtain ⟨cd, od, d, kvs, rows, st, rfl, hcd, ok, hC, hod, hH, hs7, q⟩ := h
    refine ⟨_, (pss_cons (ps_for PassesOwn.never rfl (R1.PI.or (pi_list (pv 1)) (pi_tup (pv 1))) (pg_name (i := 3) sc_next_step.nd rfl (.inl rfl))
      (pss_cons (ps_set (i := 4) sc_next_step.nd rfl (.inl rfl) (pe_call G_undenied (hr.mono (by decide)) (by rfl) T.m_undenied T.F_undenied.kp T.b_undenied .nil pass0 (pa_cons (pe_dget (hu_of hr) (pv 0) (pv 3) (fun _ _ => rfl)) (pa_cons (pv 2) pa_nil))))
      (pss_cons (ps_if (pt_cmpR (OpR.or op_eq (op_eqD hr.units)) (pe_callB (CallR.or call_len_str call_len_seq) (by rfl) T.z_len (by decide +kernel) (pa_cons (pv 4) pa_nil)) pe_int (nomark _))
        (pss_one (ps_ret (pe_tup (pa_cons pe_non (pa_cons (pv 3) pa_nil)))))
        pss_nil)
      (pss_one (ps_if (PW.pt (pw_and (pt_cmpR (OpR.or op_eq (op_eqD hr.units)) (pe_callB (CallR.or call_len_str call_len_seq) (by rfl) T.z_len (by decide +kernel) (pa_cons (pv 4) pa_nil)) pe_int (nomark _)) (pw_and1 (pt_cmpR (RN.op_notInN (u16 hr) rfl rfl) (pe_ix ix_seq (pv 4) pe_int (fun _ _ => rfl)) (pv 2) rfl))))
        (pss_one (ps_ret (pe_tup (pa_cons (pe_ix ix_seq (pv 4) pe_int (fun _ _ => rfl)) (pa_cons (pv 3) pa_nil)))))
        pss_nil)))))
    (pss_one (ps_ret pe_non))), ?_⟩
    refine .inl ⟨.ref od, rfl, od, rfl, ⟨_, hod⟩, for_it (walk_list (xs := lbs rows)) (fun i σ' H' => ∃ y3 y4, σ' = [some (.ref cd), some (.ref od), some (.ref d), y3, y4] ∧ Same H H' ∧ chosen (rows.take i) (hs st) = none) ⟨none, none, rfl, Same.refl _, rfl⟩ (fun i σ' H' _ h => by obtain ⟨_, _, _, s1, _⟩ := h; exact sqL_same s1 hod) ?_ ?_⟩
    · rintro i x σ' _ H1 hi ⟨y3, y4, rfl, s1, hn⟩ ⟨rfl, hx⟩
      obtain ⟨r, hr2, rfl⟩ : ∃ r, rows[i]? = some r ∧ x = V.int (r.1 : Int) := by
        unfold lbs at hx
        rw [List.getElem?_map] at hx
        cases er : rows[i]? with
        | none => rw [er] at hx; cases hx
        | some r => rw [er] at hx; exact ⟨r, rfl, (Option.some.inj hx).symm⟩
      have rm := List.mem_of_getElem? hr2
      obtain ⟨rl, r7⟩ := ok.2 r rm
      obtain ⟨c0, hv, xs, hxs, hA⟩ := hC r rm
      obtain ⟨es, hd, hE⟩ := hH
      have t1 := Same.tk s1
      refine ⟨.ref cd, rfl, .int (r.1 : Int), rfl, cd, .ref c0, rfl, .inl ⟨kvs, .inl (r.1 : Int), .inl (s1 _ _ hcd), rfl, hv.symm⟩, .ref d, rfl, ?_⟩
      refine ⟨c0, d, xs, r.2, st, rfl, sqT_tk t1 hxs, al_tk A r7 t1 hA, by omega, r7, ⟨es, s1 _ _ hd, es_tk A t1 hs7 hE⟩, hs7, fun p ys H2 s2 np hp hB => ?_⟩
      have s12 := s1.trans s2
      have t12 := Same.tk s12
      have ly : ys.length = (left r.2 (hs st)).length := hB.1
      have len : ∀ n : Nat, Ans (tTest (tOp (rEqq K) (tCB (rLn K) (tCons (tVar 4) tNil)) (tC (.int (n : Int))))) [some (.ref cd), some (.ref od), some (.ref d), some (.int (r.1 : Int)), some (.ref p)] H2 (decide (ys.length = n)) := fun n => len_eq rfl (.inl (.of hp))
      cases hL : left r.2 (hs st) with
      | nil =>
        have e0 : decide (ys.length = 0) = true := decide_eq_true (by rw [ly, hL]; rfl)
        refine if_ans (len 0) (fun _ => ?_) (fun z => by rw [e0] at z; cases z)
        exact ⟨.int (r.1 : Int), rfl, Nat.le_of_lt (small1000 (by simp)), fun t nt => q _ _ (s12.trans (same_upd nt)) (.clash (chosen_at hr2 hn (fires_nil hL)) hL upd_same)⟩
      | cons l ls =>
        rw [hL] at hB ly
        have e0 : decide (ys.length = 0) = false := decide_eq_false (by rw [ly]; simp)
        refine if_ans (len 0) (fun z => by rw [e0] at z; cases z) (fun _ => ?_)
        cases ls with
        | nil =>
          obtain ⟨x, hx⟩ : ∃ x, ys = [x] := List.length_eq_one_iff.mp ly
          subst hx
          have lx := hB.2 0 x l rfl rfl
          have l7 : l.1 < 7 := r7 l (by have : l ∈ left r.2 (hs st) := by rw [hL]; exact List.mem_cons_self
                                        exact (List.mem_filter.mp this).1)
          obtain ⟨b, u, rfl, _, _⟩ := li_split lx
          have inA : Ans (tTest (tOp (rInN K w true) (tOp (rIx K) (tVar 4) (tC (.int 0))) (tVar 2))) [some (.ref cd), some (.ref od), some (.ref d), some (.int (r.1 : Int)), some (.ref p)] H2 (!decide (l ∈ hs st)) := fun Q q => by
            have es2 := es_tk A t12 hs7 hE
            refine ixv 0 rfl (.of hp) rfl ⟨_, rfl, b, d, es, nk (eL e l), rfl, rfl, s12 _ _ hd, es_keys A hs7 es2, key_li A l7 lx, _, rfl, ?_⟩
            rw [es_in A l7 hs7 es2]
            exact q
          have f1 := fires_one' hL
          refine if_ans (ans_and (by have := len 1; rw [decide_eq_true (show [V.ref b].length = 1 from rfl)] at this; exact this) inA) (fun z => ?_) (fun z => ?_)
          · refine ixv 0 rfl (.of hp) rfl ⟨.int (r.1 : Int), rfl, Nat.le_of_lt (small1000 (by simp)), fun t nt => q _ _ (s12.trans (same_upd nt)) (.step (chosen_at hr2 hn (f1.trans z)) hL upd_same (lx.tk A l7 (tk_new nt)))⟩
          · exact ⟨_, _, rfl, s12, chosen_take hr2 hn (f1.trans z)⟩
        | cons m ls =>
          have e1 : decide (ys.length = 1) = false := decide_eq_false (by rw [ly]; simp)
          refine if_ans (b := false) (ans_and0 (by have := len 1; rw [e1] at this; exact this)) (fun z => nomatch z) (fun _ => ?_)
          exact ⟨_, _, rfl, s12, chosen_take hr2 hn (fires_more hL)⟩
    · rintro σ' H1 ⟨y3, y4, rfl, s1, hn⟩
      refine q _ H1 s1 (.none ?_)
      have : (lbs rows).length = rows.length := by unfold lbs; rw [List.length_map]
      rw [this, List.take_length] at hn
      exact hn
end
end K16


/-! the class Propagation -/
namespace K16
open PySem PySem.Spec PyProof.Rows L2 RN
abbrev s_Propagation_init : Stmt := inClass (topS 13) 0
abbrev s_Propagation_len : Stmt := inClass (topS 13) 2
abbrev s_Propagation_iter : Stmt := inClass (topS 13) 3
abbrev s_Propagation_contains : Stmt := inClass (topS 13) 4
abbrev s_Propagation_getitem : Stmt := inClass (topS 13) 5
theorem sc_Propagation_init : FnScope ["self", "steps", "clash", "literal", "_"] ["self", "steps", "clash"] (defScope s_Propagation_init) := ⟨rfl, rfl, rfl, by decide +kernel, rfl, by decide +kernel, by decide +kernel⟩
theorem sc_Propagation_len : FnScope ["self"] ["self"] (defScope s_Propagation_len) := ⟨rfl, rfl, rfl, by decide +kernel, rfl, by decide +kernel, by decide +kernel⟩
theorem sc_Propagation_iter : FnScope ["self"] ["self"] (defScope s_Propagation_iter) := ⟨rfl, rfl, rfl, by decide +kernel, rfl, by decide +kernel, by decide +kernel⟩
theorem sc_Propagation_contains : FnScope ["self", "x"] ["self", "x"] (defScope s_Propagation_contains) := ⟨rfl, rfl, rfl, by decide +kernel, rfl, by decide +kernel, by decide +kernel⟩
theorem sc_Propagation_getitem : FnScope ["self", "at"] ["self", "at"] (defScope s_Propagation_getitem) := ⟨rfl, rfl, rfl, by decide +kernel, rfl, by decide +kernel, by decide +kernel⟩
structure Pd where
  fI : Addr
  fL : Addr
  fT : Addr
  fN : Addr
  fG : Addr
  dI : FuncData
  dL : FuncData
  dT : FuncData
  dN : FuncData
  dG : FuncData
structure PrC (K : PySem.W.Frag) (C : Addr) (p : Pd) : Prop where
  ins : C8.InsC K C
  mkr : Mk K C p.fI
  nS : NoAttr K C "steps"
  nC : NoAttr K C "clash"
  nL : NoAttr K C "literals"
  nD : NoAttr K C "_labels"
  F_I : Fun K "__init__" "Propagation.__init__" s_Propagation_init p.fI p.dI
  b_I : Binds K p.dI ["self", "steps", "clash"] []
  F_L : Fun K "__len__" "Propagation.__len__" s_Propagation_len p.fL p.dL
  b_L : Binds K p.dL ["self"] []
  F_T : Fun K "__iter__" "Propagation.__iter__" s_Propagation_iter p.fT p.dT
  b_T : Binds K p.dT ["self"] []
  F_N : Fun K "__contains__" "Propagation.__contains__" s_Propagation_contains p.fN p.dN
  b_N : Binds K p.dN ["self", "x"] []
  F_G : Fun K "__getitem__" "Propagation.__getitem__" s_Propagation_getitem p.fG p.dG
  b_G : Binds K p.dG ["self", "at"] []
  itl : RI.ItL K C p.fT p.fL
  gs : PySem.W.findIn K (.ref C) "__getitem__" = some (some (.ref p.fG))
  gf : PySem.W.fnIn K p.fG = true
  gn : PySem.W.isFn K (.ref p.fG) = true
  cs : PySem.W.findIn K (.ref C) "__contains__" = some (some (.ref p.fN))
  cn : PySem.W.isFn K (.ref p.fN) = true
section
variable {P : Program} {w : World} {K : PySem.W.Frag} {mg : Str → Option Value} {base : Heap} {a : Ad} {e : Nat → PyData} {p : Pd} {C : Addr}
def StIs (e : Nat → PyData) (K : PySem.W.Frag) (H : Hp) (t : Addr) (st : List Stp) : Prop := ∃ (cs : List Addr) (es : List Ent), FrzT H t (cs.map V.ref) ∧ cs.length = es.length ∧ (∀ (j : Nat) (c : Addr) (q : Ent), cs[j]? = some c → es[j]? = some q → SqT K H c [.ref q.2.1, q.2.2]) ∧ EsIs e K H es st
def pfs (t lt ld : Addr) (k : Nat) : List (Str × V) := [("steps", .ref t), ("clash", .int (k : Int)), ("literals", .ref lt), ("_labels", .ref ld)]
def LtIs (e : Nat → PyData) (K : PySem.W.Frag) (H : Hp) (lt : Addr) (ls : List Lt) : Prop := ∃ xs, H lt = some (.tup xs) ∧ R1.Al (Li e K H) xs ls
def PrIs (e : Nat → PyData) (w : World) (K : PySem.W.Frag) (H : Hp) (C o : Addr) (st : List Stp) (k : Nat) : Prop := ∃ dx t lt ld, H o = some (.ins C dx (pfs t lt ld k)) ∧ StIs e K H t st ∧ LtIs e K H lt (hs st) ∧ HeldIs e w K H ld st
def spInit (e : Nat → PyData) (w : World) (K : PySem.W.Frag) (C : Addr) : Sp := fun vs H Q _ => ∃ (o t dx : Addr) (k : Nat) (st : List Stp), vs = [.ref o, .ref t, .int (k : Int)] ∧ H o = some (.ins C dx []) ∧ StIs e K H t st ∧ In7 (hs st) ∧ (hs st).Nodup ∧ st.length ≤ 1000 ∧
  ∀ H', Kp o H H' → PrIs e w K H' C o st k → Q .non H'
theorem pf1 (x : V) : putF "steps" x [] = ([("steps", x)] : List (Str × V)) := rfl
theorem pf2 (x y : V) : putF "clash" y [("steps", x)] = ([("steps", x), ("clash", y)] : List (Str × V)) := by
  unfold putF
  rw [if_neg (by decide +kernel)]
  rfl
theorem pf3 (x y z : V) : putF "literals" z [("steps", x), ("clash", y)] = ([("steps", x), ("clash", y), ("literals", z)] : List (Str × V)) := by
  unfold putF
  rw [if_neg (by decide +kernel)]
  unfold putF
  rw [if_neg (by decide +kernel)]
  rfl
theorem pf4 (x y z u : V) : putF "_labels" u [("steps", x), ("clash", y), ("literals", z)] = ([("steps", x), ("clash", y), ("literals", z), ("_labels", u)] : List (Str × V)) := by
  unfold putF
  rw [if_neg (by decide +kernel)]
  unfold putF
  rw [if_neg (by decide +kernel)]
  unfold putF
  rw [if_neg (by decide +kernel)]
  rfl
theorem es_nodup (A : AtOk e) {H : Hp} {es : List Ent} {st : List Stp} (h7 : In7 (hs st)) (n : (hs st).Nodup) (r : EsIs e K H es st) : (es.map (·.1)).Nodup := by
  have e1 : es.map (·.1) = (hs st).map fun l => nk (eL e l) := by
    clear n h7
    induction r with
    | nil => rfl
    | @cons p q ps qs z t ih => rw [List.map_cons, ih]; unfold hs; rw [List.map_cons, List.map_cons, z.1]
  rw [e1]
  refine List.Pairwise.map _ (fun x y h => h) (List.Pairwise.imp_of_mem (fun {x y} hx hy hne => ?_) n)
  exact fun z => hne (eL_inj A (h7 x hx) (h7 y hy) z)
theorem kp_tk {H H' : Hp} {o : Addr} {ob : HO} (ho : H o = some ob) (hn : NoTup ob) (k : Kp o H H') : Tk H H' := tk_but ho hn fun b u ne z => k b u ne z
theorem frz_kp {H H' : Hp} {o t : Addr} {ob : HO} {xs : List V} (ho : H o = some ob) (hn : NoTup ob) (k : Kp o H H') (h : FrzT H t xs) : FrzT H' t xs := by
  obtain ⟨ot, h1, h2⟩ := h
  refine ⟨ot, h1, k t _ (fun z => ?_) h2⟩
  rw [z, ho] at h2
  cases h2
  exact hn
theorem frz_sq {H : Hp} {t : Addr} {xs : List V} (h : FrzT H t xs) : SqT K H t xs := let ⟨o, _, z⟩ := h; .inl (.inr ⟨o, z⟩)
theorem st_kp (A : AtOk e) {H H' : Hp} {o t : Addr} {ob : HO} {st : List Stp} (ho : H o = some ob) (hn : NoTup ob) (k : Kp o H H') (h7 : In7 (hs st)) (h : StIs e K H t st) : StIs e K H' t st := by
  obtain ⟨cs, es, h1, h2, h3, h4⟩ := h
  have tk := kp_tk ho hn k
  exact ⟨cs, es, frz_kp ho hn k h1, h2, fun j c q x y => sqT_tk tk (h3 j c q x y), es_tk A tk h7 h4⟩
theorem Paired.at' {α β : Type} {F : α → β → Prop} : ∀ {l : List α} {m : List β}, Paired F l m → ∀ {j : Nat}, j < l.length → ∃ x, l[j]? = some x ∧ ∃ y, m[j]? = some y ∧ F x y := by
  intro l m r
  induction r with
  | nil => intro j h; exact absurd h (Nat.not_lt_zero _)
  | @cons p q ps qs z t ih =>
    intro j h
    cases j with
    | zero => exact ⟨p, rfl, q, rfl, z⟩
    | succ j =>
      obtain ⟨x, a1, y, a2, a3⟩ := ih (j := j) (by simpa using h)
      exact ⟨x, by simpa using a1, y, by simpa using a2, a3⟩
theorem ok_init (A : AtOk e) (T : Top K mg a) (B : PrC K C p) : FnOk P w K mg base CX0 1 p.fI p.dI ["self", "steps", "clash"] (spInit e w K C) := by
  refine B.F_I.ok sc_Propagation_init (fun vs H Q E h => ?_) (fun cdv A' outer s H vs Q E hr h => ?_)
  · obtain ⟨_, _, _, _, _, rfl, _⟩ := h
    rfl
  · obtain ⟨o, t, dx, k, st, rfl, ho, hst, h7, nd, hl, q⟩ := h
    refine ⟨_, (pss_cons (ps_fld (pv 0) (pv 1) rfl)
    (pss_cons (ps_fld (pv 0) (pv 2) rfl)
    (pss_cons (ps_fld (pv 0) (pe_callTy call_tuple_of (by rfl) T.z_tuple (by decide +kernel) (pa_cons (pe_lc (own := [("literal", 3), ("_", 4)]) rfl sc_Propagation_init.nd (R1.PI.or (pi_list (pv 1)) (pi_tup (pv 1))) (blkOk_by (own := [("literal", 3), ("_", 4)]) (N := ["self", "steps", "clash", "literal", "_"]) (sc := defScope s_Propagation_init) (by decide +kernel)) (fun _ _ _ _ _ => (R1.pg_tupK (K := K) (n := 2) rfl rfl (pgs_cons (pg_name (i := 3) sc_Propagation_init.nd rfl (.inl rfl)) (pgs_cons (pg_name (i := 4) sc_Propagation_init.nd rfl (.inl rfl)) pgs_nil)))) (fun _ _ _ _ _ => pts_nil) (fun _ _ _ _ _ => (pv 3))) pa_nil)) rfl)
    (pss_one (ps_fld (pv 0) (pe_callTy (RN.call_dictPN (K := K) (w := w) rfl (u16 hr) rfl rfl) (by rfl) T.z_dict (by decide +kernel) (pa_cons (pv 1) pa_nil)) rfl))))), ?_⟩
    have n0 : NoTup (.ins C dx []) := True.intro
    refine ⟨.ref t, rfl, .ref o, rfl, o, C, dx, [], rfl, ho, B.ins.cl, B.nS, by decide, ?_⟩
    have k1 : Kp o H (upd H o (.ins C dx (putF "steps" (.ref t) []))) := (Kp.refl _ _).put
    refine ⟨.int (k : Int), rfl, .ref o, rfl, o, C, dx, _, rfl, upd_same, B.ins.cl, B.nC, by rw [pf1]; simp, ?_⟩
    have k2 : Kp o H (upd (upd H o (.ins C dx (putF "steps" (.ref t) []))) o (.ins C dx (putF "clash" (.int (k : Int)) (putF "steps" (.ref t) [])))) := k1.put
    rw [pf1, pf2] at k2 ⊢
    have ho2 : (upd (upd H o (.ins C dx ([("steps", .ref t)] : List (Str × V)))) o (.ins C dx ([("steps", .ref t), ("clash", .int (k : Int))] : List (Str × V)))) o = _ := upd_same
    generalize upd (upd H o (.ins C dx ([("steps", .ref t)] : List (Str × V)))) o (.ins C dx ([("steps", .ref t), ("clash", .int (k : Int))] : List (Str × V))) = H2 at k2 ho2 ⊢
    have n2 : NoTup (.ins C dx ([("steps", .ref t), ("clash", .int (k : Int))] : List (Str × V))) := True.intro
    obtain ⟨cs, es, f2, c2, p2, e2⟩ := st_kp A ho n0 k2 h7 hst
    have le : es.length = st.length := Paired.length e2
    refine .inr ⟨.ref t, rfl, t, rfl, ⟨_, frz_sq f2⟩, fun D nD => ?_⟩
    have lc : (cs.map V.ref).length = st.length := by rw [List.length_map, c2, le]
    refine R1.walk_it (walk_tup (xs := cs.map V.ref)) (fun u H3 => Same H2 H3 ∧ ∃ acc, H3 D = some (.lst acc) ∧ R1.Al (Li e K H3) acc ((hs st).take u)) ⟨same_upd nD, [], upd_same, R1.Al.nil⟩ (fun u H3 _ h => sqT_tk (Same.tk h.1) (frz_sq f2)) ?_ ?_
    · rintro u x _ H3 hu ⟨sm, acc, hD, hB⟩ ⟨rfl, hx⟩
      have hu' : u < cs.length := by rw [List.length_map] at hu; exact hu
      have g1 : cs[u]? = some cs[u] := List.getElem?_eq_getElem hu'
      rw [List.getElem?_map, g1] at hx
      obtain rfl : V.ref cs[u] = x := Option.some.inj hx
      obtain ⟨q0, g2, q1, g3, z⟩ := Paired.at' e2 (show u < es.length by omega)
      have tk := Same.tk sm
      have hq := sqT_tk tk (p2 u _ _ g1 g2)
      have l7 : q1.1.1 < 7 := h7 _ (by unfold hs; exact List.mem_map.mpr ⟨q1, List.mem_of_getElem? g3, rfl⟩)
      have et : (hs st).take (u + 1) = (hs st).take u ++ [q1.1] := by
        rw [List.take_add_one]
        unfold hs
        rw [List.getElem?_map, g3]
        rfl
      have la : acc.length ≤ 1000 := by
        have := hB.1
        rw [List.length_take] at this
        unfold hs at this
        rw [List.length_map] at this
        omega
      refine ⟨_, _, rfl, hq, rfl, _, _, rfl, _, _, rfl, rfl, rfl, _, rfl, acc, hD, small1000 la, K16.Same.mut sm nD, _, upd_same, ?_⟩
      have k4 : Tk H3 (upd H3 D (.lst (acc ++ [.ref q0.2.1]))) := tk_upd hD True.intro
      rw [et]
      exact R1.Al.snoc (al_tk A (fun m hm => h7 m (List.mem_of_mem_take hm)) k4 hB) ((z.2.1.tk A l7 tk).tk A l7 k4)
    · rintro H3 ⟨sm, acc, hD, hB⟩
      have lh : (hs st).length = (cs.map V.ref).length := by unfold hs; rw [List.length_map, lc]
      rw [← lh, List.take_length] at hB
      refine ⟨D, acc, rfl, .inl ⟨.of hD, fun l nl => ?_⟩⟩
      have s4 : Same H2 (upd H3 l (.tup acc)) := sm.trans (same_upd nl)
      have hl4 : (upd H3 l (.tup acc)) l = some (.tup acc) := upd_same
      have hB4 : R1.Al (Li e K (upd H3 l (.tup acc))) acc (hs st) := al_tk A h7 (tk_new nl) hB
      generalize upd H3 l (.tup acc) = H4 at s4 hl4 hB4 ⊢
      have ho4 := s4 _ _ ho2
      refine ⟨.ref o, rfl, o, C, dx, _, rfl, ho4, B.ins.cl, B.nL, by simp, ?_⟩
      rw [pf3]
      have k5 : Kp o H (upd H4 o (.ins C dx ([("steps", .ref t), ("clash", .int (k : Int)), ("literals", .ref l)] : List (Str × V)))) := (k2.same s4).put
      have k45 : Kp o H4 (upd H4 o (.ins C dx ([("steps", .ref t), ("clash", .int (k : Int)), ("literals", .ref l)] : List (Str × V)))) := (Kp.refl _ _).put
      have ho5 : (upd H4 o (.ins C dx ([("steps", .ref t), ("clash", .int (k : Int)), ("literals", .ref l)] : List (Str × V)))) o = _ := upd_same
      have hlo : l ≠ o := fun z => by rw [z, ho4] at hl4; cases hl4
      have hl5 := k45 l _ hlo hl4
      have hB5 := al_tk A h7 (kp_tk ho4 n2 k45) hB4
      generalize upd H4 o (.ins C dx ([("steps", .ref t), ("clash", .int (k : Int)), ("literals", .ref l)] : List (Str × V))) = H5 at k5 ho5 hl5 hB5 ⊢
      obtain ⟨cs5, es5, f5, c5, p5, e5⟩ := st_kp A ho n0 k5 h7 hst
      have l5 : es5.length = st.length := Paired.length e5
      refine ⟨.ref t, rfl, t, cs5, es5, rfl, f5, c5, by omega, p5, es_keys A h7 e5, es_nodup A h7 nd e5, fun d nd' => ?_⟩
      have k6 : Kp o H (upd H5 d (dN w d es5)) := k5.new nd'
      have s56 : Same H5 (upd H5 d (dN w d es5)) := same_upd nd'
      have hd6 : (upd H5 d (dN w d es5)) d = some (dN w d es5) := upd_same
      have ho6 := s56 _ _ ho5
      have hl6 := s56 _ _ hl5
      have hB6 := al_tk A h7 (Same.tk s56) hB5
      have e6 := es_tk A (Same.tk s56) h7 e5
      generalize upd H5 d (dN w d es5) = H6 at k6 hd6 ho6 hl6 hB6 e6 ⊢
      refine ⟨.ref o, rfl, o, C, dx, _, rfl, ho6, B.ins.cl, B.nD, by simp, ?_⟩
      rw [pf4]
      have n6 : NoTup (.ins C dx ([("steps", .ref t), ("clash", .int (k : Int)), ("literals", .ref l)] : List (Str × V))) := True.intro
      have k7 : Kp o H (upd H6 o (.ins C dx (pfs t l d k))) := k6.put
      have k67 : Kp o H6 (upd H6 o (.ins C dx (pfs t l d k))) := (Kp.refl _ _).put
      have hdo : d ≠ o := fun z => by rw [z, ho6] at hd6; cases hd6
      have tk := kp_tk ho6 n6 k67
      exact q _ k7 ⟨dx, t, l, d, upd_same, st_kp A ho n0 k7 h7 hst, ⟨acc, k67 l _ hlo hl6, al_tk A h7 tk hB6⟩, es5, k67 d _ hdo hd6, es_tk A tk h7 e6⟩
theorem lkS (t lt ld : Addr) (k : Nat) : (pfs t lt ld k).lookup ("steps" : Str) = some (V.ref t) := rfl
theorem lkC (t lt ld : Addr) (k : Nat) : (pfs t lt ld k).lookup ("clash" : Str) = some (V.int (k : Int)) := rfl
theorem lkL (t lt ld : Addr) (k : Nat) : (pfs t lt ld k).lookup ("literals" : Str) = some (V.ref lt) := rfl
theorem lkD (t lt ld : Addr) (k : Nat) : (pfs t lt ld k).lookup ("_labels" : Str) = some (V.ref ld) := rfl
theorem st_len {H : Hp} {t : Addr} {st : List Stp} (h : StIs e K H t st) : ∃ xs, SqT K H t xs ∧ xs.length = st.length := by
  obtain ⟨cs, es, h1, h2, _, h4⟩ := h
  have := Paired.length h4
  exact ⟨_, frz_sq h1, by rw [List.length_map]; omega⟩
def spLen (e : Nat → PyData) (w : World) (K : PySem.W.Frag) (C : Addr) : Sp := fun vs H Q _ => ∃ (o : Addr) (st : List Stp) (k : Nat), vs = [.ref o] ∧ PrIs e w K H C o st k ∧ Q (.int (st.length : Nat)) H
theorem ok_len (T : Top K mg a) (B : PrC K C p) : FnOk P w K mg base CX0 1 p.fL p.dL ["self"] (spLen e w K C) := by
  refine B.F_L.ok sc_Propagation_len (fun vs H Q E h => ?_) (fun cdv A' outer s H vs Q E hr h => ?_)
  · obtain ⟨_, _, _, rfl, _⟩ := h
    rfl
  · obtain ⟨o, st, k, rfl, ⟨dx, t, lt, ld, ho, hst, _⟩, q⟩ := h
    refine ⟨_, (pss_one (ps_ret (pe_callB (CallR.or call_len_str call_len_seq) (by rfl) T.z_len (by decide +kernel) (pa_cons (pe_fld (pv 0) (by rfl)) pa_nil)))), ?_⟩
    obtain ⟨xs, hx, lx⟩ := st_len hst
    refine ⟨.ref o, rfl, o, C, dx, _, _, rfl, ho, B.ins.cl, B.nS, lkS _ _ _ _, .inr ⟨t, xs, rfl, .inr hx, ?_⟩⟩
    rw [lx]
    exact q
def spIter (K : PySem.W.Frag) (C : Addr) : Sp := fun vs H Q _ => ∃ (o dx t lt ld : Addr) (k : Nat) (xs : List V), vs = [.ref o] ∧ H o = some (.ins C dx (pfs t lt ld k)) ∧ SqT K H lt xs ∧ ∀ it, H it = none → Q (.ref it) (upd H it (RI.ItTO lt it))
theorem ok_iter (T : Top K mg a) (B : PrC K C p) : FnOk P w K mg base CX0 1 p.fT p.dT ["self"] (spIter K C) := by
  refine B.F_T.ok sc_Propagation_iter (fun vs H Q E h => ?_) (fun cdv A' outer s H vs Q E hr h => ?_)
  · obtain ⟨_, _, _, _, _, _, _, rfl, _⟩ := h
    rfl
  · obtain ⟨o, dx, t, lt, ld, k, xs, rfl, ho, hx, q⟩ := h
    refine ⟨_, (pss_one (ps_ret (pe_callB RI.call_iterT (by rfl) T.z_iter (by decide +kernel) (pa_cons (pe_fld (pv 0) (by rfl)) pa_nil)))), ?_⟩
    exact ⟨.ref o, rfl, o, C, dx, _, _, rfl, ho, B.ins.cl, B.nL, lkL _ _ _ _, lt, xs, rfl, hx, q⟩
def spCont (e : Nat → PyData) (w : World) (K : PySem.W.Frag) (C : Addr) : Sp := fun vs H Q _ => ∃ (o : Addr) (st : List Stp) (k : Nat) (x : V) (l : Lt), vs = [.ref o, x] ∧ PrIs e w K H C o st k ∧ In7 (hs st) ∧ l.1 < 7 ∧ Li e K H x l ∧ Q (.bl (decide (l ∈ hs st))) H
theorem ok_cont (A : AtOk e) (T : Top K mg a) (B : PrC K C p) : FnOk P w K mg base CX0 1 p.fN p.dN ["self", "x"] (spCont e w K C) := by
  refine B.F_N.ok sc_Propagation_contains (fun vs H Q E h => ?_) (fun cdv A' outer s H vs Q E hr h => ?_)
  · obtain ⟨_, _, _, _, _, rfl, _⟩ := h
    rfl
  · obtain ⟨o, st, k, x, l, rfl, ⟨dx, t, lt, ld, ho, hst, hlt, es, hd, hE⟩, h7, l7, hx, q⟩ := h
    refine ⟨_, (pss_one (ps_ret (pe_cmpR (RN.op_inN (u16 hr) rfl rfl) (pv 1) (pe_fld (pv 0) (by rfl)) rfl))), ?_⟩
    obtain ⟨b, u, rfl, _, _⟩ := li_split hx
    refine ⟨.ref b, rfl, .ref o, rfl, o, C, dx, _, _, rfl, ho, B.ins.cl, B.nD, lkD _ _ _ _, b, ld, es, nk (eL e l), rfl, rfl, hd, es_keys A h7 hE, key_li A l7 hx, ?_⟩
    simp only [Bool.false_eq_true, if_false]
    rw [es_in A l7 h7 hE]
    exact q
end
end K16


namespace K16
open PySem PySem.Spec PyProof.Rows L2 RN
/-! ### the errors -/
def initL : Stmt := inClass (topS 2) 0
def initO : Stmt := inClass (topS 4) 0
theorem sc_initL : FnScope ["self", "value"] ["self", "value"] (defScope initL) := ⟨rfl, rfl, rfl, by decide +kernel, rfl, by decide +kernel, by decide +kernel⟩
theorem sc_initO : FnScope ["self", "value"] ["self", "value"] (defScope initO) := ⟨rfl, rfl, rfl, by decide +kernel, rfl, by decide +kernel, by decide +kernel⟩
structure ErX (K : PySem.W.Frag) (C L O fI : Addr) (dI : FuncData) (qual : Str) (st : Stmt) : Prop where
  ox : OexC K C
  iC : PySem.W.findIn K (.ref C) "__init__" = some (some (.ref fI))
  tI : PySem.W.typeIn K (.ref fI) = some (.type "function")
  noV : PySem.W.findIn K (.ref C) "value" = some none
  F_init : Fun K "__init__" qual st fI dI
  b_init : Binds K dI ["self", "value"] []
  xf : XfC K C
  xc : ExcC K C
  te : PySem.W.exmOne K (.ref C) (.ref C) = some true
  su : PySem.W.kitOne K (.ref C) (.ref L) = some true
  no : PySem.W.kitOne K (.ref C) (.ref O) = some false
section
variable {P : Program} {w : World} {K : PySem.W.Frag} {mg : Str → Option Value} {base : Heap} {a : Ad} {fI : Addr} {dI : FuncData}
theorem pass0F {X : Cx} : Passes CX0 X (fun _ _ _ => False) := fun _ _ _ _ _ _ _ h => h.elim
def spErr (K : PySem.W.Frag) (C : Addr) : Sp := fun vs H Q _ => ∃ (e : Addr) (v : V), vs = [.ref e, v] ∧ H e = some (exo e C none) ∧ ∀ dx, H dx = none → dx ≠ e → Q .non (upd (upd H dx (exd dx [("value", v)])) e (exo e C (some dx)))
theorem ok_initL {C L O : Addr} (EX : ErX K C L O fI dI "BadLiteral.__init__" initL) : FnOk P w K mg base CX0 1 fI dI ["self", "value"] (spErr K C) := by
  refine EX.F_init.ok sc_initL (fun vs H Q E h => ?_) (fun cdv A outer s H vs Q E hr h => ?_)
  · obtain ⟨e, v, rfl, _⟩ := h
    rfl
  · obtain ⟨e, v, rfl, he, q⟩ := h
    refine ⟨_, pss_one (ps_ost (pv 0) (pv 1)), ?_⟩
    exact ⟨v, rfl, .ref e, rfl, e, _, rfl, EX.ox, EX.noV, .inl ⟨he, fun dx hd ne => q dx hd ne⟩⟩
theorem ok_initO {C L O : Addr} (EX : ErX K C L O fI dI "BadOrder.__init__" initO) : FnOk P w K mg base CX0 1 fI dI ["self", "value"] (spErr K C) := by
  refine EX.F_init.ok sc_initO (fun vs H Q E h => ?_) (fun cdv A outer s H vs Q E hr h => ?_)
  · obtain ⟨e, v, rfl, _⟩ := h
    rfl
  · obtain ⟨e, v, rfl, he, q⟩ := h
    refine ⟨_, pss_one (ps_ost (pv 0) (pv 1)), ?_⟩
    exact ⟨v, rfl, .ref e, rfl, e, _, rfl, EX.ox, EX.noV, .inl ⟨he, fun dx hd ne => q dx hd ne⟩⟩
/-- what is raised -/
def RaisesV (C : Addr) (H : Hp) (v : V) (E : XK) : Prop := ∀ d H', H d = none → Same H H' → H' d = some (.xd [("value", v)]) → E (.ref C) (some d) H'
theorem raise_v {C : Addr} {H : Hp} {v : V} {E : XK} {ta : TA} {σ : L2.St} (ha : ∀ Q : List V → Hp → Prop, Q [v] H → ta σ H Q) (h : RaisesV C H v E) : tMkO C (spErr K C) [] ta σ H E := by
  refine ha _ ⟨by show 1 ≤ 1000; decide, fun e ne => ⟨e, v, rfl, upd_same, fun dx hd hne => ⟨rfl, dx, [("value", v)], upd_same, ?_, ?_, ?_⟩⟩⟩
  · rw [upd_ne hne, upd_same]
  · rw [upd_ne hne] at hd; exact hd
  · rw [upd_ne hne] at hd
    refine h dx _ hd (fun b o hb => ?_) upd_same
    rw [upd_ne (ne_of_none hb hd), del_ne (ne_of_none hb ne), upd_ne (ne_of_none hb ne), upd_ne (ne_of_none hb hd), upd_ne (ne_of_none hb ne)]
    exact hb
/-! ### o[x] -/
def spGet (e : Nat → PyData) (w : World) (K : PySem.W.Frag) (C CL : Addr) : Sp := fun vs H Q E => ∃ (o : Addr) (st : List Stp) (k : Nat) (x : V) (l : Lt), vs = [.ref o, x] ∧ PrIs e w K H C o st k ∧ In7 (hs st) ∧ l.1 < 7 ∧ Li e K H x l ∧ (∀ q, st.find? (fun q => decide (q.1 = l)) = some q → Q (.int (q.2 : Int)) H) ∧ (l ∉ hs st → RaisesV CL H x E)
theorem ok_get {e : Nat → PyData} {p : Pd} {C LA OA : Addr} (A : AtOk e) (T : Top K mg a) (B : PrC K C p) (EL : ErX K a.c_BadLiteral LA OA fI dI "BadLiteral.__init__" initL) : FnOk P w K mg base (CX P w) 3 p.fG p.dG ["self", "at"] (spGet e w K C a.c_BadLiteral) := by
  have G_init := ok_initL (P := P) (w := w) (mg := mg) (base := base) EL
  refine B.F_G.okX sc_Propagation_getitem (fun vs H Q E h => ?_) (fun cdv A' outer s H vs Q E hr h => ?_)
  · obtain ⟨_, _, _, _, _, rfl, _⟩ := h
    rfl
  · obtain ⟨o, st, k, x, l, rfl, ⟨dx, t, lt, ld, ho, hst, hlt, es, hd, hE⟩, h7, l7, hx, q, r⟩ := h
    refine ⟨_, (pss_cons (ps_if (pt_cmpR (RN.op_notInN (u16 hr) rfl rfl) (pv 1) (pe_fld (pv 0) (by rfl)) rfl)
      (pss_one (ps_raise rfl (takes_of rfl rfl rfl rfl) (pmk_oex EL.ox EL.iC EL.tI G_init (hr.mono (by decide)) EL.b_init .nil pass0F (by rfl) T.m_BadLiteral (pa_cons (pv 1) pa_nil))))
      pss_nil)
    (pss_one (ps_ret (RN.pe_ixN (u16 hr) rfl rfl (pe_fld (pv 0) (by rfl)) (pv 1) (fun _ _ => rfl))))), ?_⟩
    obtain ⟨b, u, rfl, _, _⟩ := li_split hx
    have hk := key_li A l7 hx
    have hks := es_keys A h7 hE
    have hA : Ans (tTest (tOp (rInN K w true) (tVar 1) (tFld K (tVar 0) "_labels"))) [some (.ref o), some (.ref b)] H (!decide (l ∈ hs st)) := fun Q q => by
      refine ⟨.ref b, rfl, .ref o, rfl, o, C, dx, _, _, rfl, ho, B.ins.cl, B.nD, lkD _ _ _ _, b, ld, es, nk (eL e l), rfl, rfl, hd, hks, hk, _, rfl, ?_⟩
      simp only [if_true]
      rw [es_in A l7 h7 hE]
      exact q
    refine if_ans hA (fun z => ?_) (fun z => ?_)
    · have hn : l ∉ hs st := by simpa using z
      exact raise_v (fun Q q => ⟨.ref b, rfl, q⟩) (r hn)
    · have hin : l ∈ hs st := by simpa using z
      have g := es_get A l7 h7 hE
      cases f : st.find? (fun q => decide (q.1 = l)) with
      | none =>
        have i := find_in l st
        rw [f, decide_eq_true hin] at i
        cases i
      | some q0 =>
        rw [f] at g
        exact ⟨.ref o, rfl, o, C, dx, _, _, rfl, ho, B.ins.cl, B.nD, lkD _ _ _ _, .ref b, rfl, b, ld, es, nk (eL e l), .int (q0.2 : Int), rfl, rfl, hd, hks, hk, g, q q0 f⟩
end
end K16


/-! the order of the labels -/
namespace K16
open PySem PySem.Spec PyProof.Rows L2 RN
section
variable {P : Program} {w : World} {K : PySem.W.Frag} {mg : Str → Option Value} {base : Heap} {a : Ad} {fI : Addr} {dI : FuncData}
def ivN (ns : List Nat) : List V := ns.map fun n : Nat => V.int (n : Int)
def dtN (ns : List Nat) : List PyData := ns.map fun n : Nat => PyData.int (n : Int)
def srtN (ns : List Nat) : List Nat := R1.sortK (fun n : Nat => PyData.int (n : Int)) ns
theorem dp_iv {H : Hp} : ∀ ns : List Nat, DpAll K H (ivN ns) (dtN ns)
  | [] => .nil
  | n :: ns => .cons (.int _) (dp_iv ns)
theorem eqv_iv : ∀ ns ms : List Nat, PyData.eqvAll (dtN ns) (dtN ms) = decide (ns = ms)
  | [], [] => by simp [dtN, PyData.eqvAll]
  | [], _ :: _ => by simp [dtN, PyData.eqvAll]
  | _ :: _, [] => by simp [dtN, PyData.eqvAll]
  | n :: ns, m :: ms => by
    show (PyData.eqv (.int (n : Int)) (.int (m : Int)) && PyData.eqvAll (dtN ns) (dtN ms)) = _
    rw [eqv_iv ns ms]
    have : PyData.eqv (.int (n : Int)) (.int (m : Int)) = decide (n = m) := by
      show ((n : Int) == (m : Int)) = _
      rw [Bool.eq_iff_iff, beq_iff_eq, decide_eq_true_eq]; omega
    rw [this]
    by_cases h : n = m
    · subst h; simp
    · simp [h]
theorem shaped_iv (ns : List Nat) : SeqAt.shaped (.list (dtN ns)) = true := by
  have h : PyData.canLayAll0 (dtN ns) = true ∧ PyData.depthAll (dtN ns) = 0 := by
    induction ns with
    | nil => exact ⟨rfl, rfl⟩
    | cons n ns ih =>
      refine ⟨?_, ?_⟩
      · show (true && PyData.canLayAll0 (dtN ns)) = true
        rw [ih.1]; rfl
      · show max 0 (PyData.depthAll (dtN ns)) = 0
        rw [ih.2]; rfl
  have c : (PyData.list (dtN ns)).depth ≤ 64 := by
    show PyData.depthAll (dtN ns) + 1 ≤ 64
    rw [h.2]; decide
  unfold SeqAt.shaped
  rw [show (PyData.list (dtN ns)).canLay0 = true from h.1, decide_eq_true c]; rfl
theorem srtN_perm (ns : List Nat) : (srtN ns).Perm ns := List.mergeSort_perm ns _
theorem srtN_len (ns : List Nat) : (srtN ns).length = ns.length := (srtN_perm ns).length_eq
theorem sortV_iv (ns : List Nat) : R0.sortV (ivN ns) (dtN ns) = ivN (srtN ns) := by
  have h := R1.sort_al (R := fun x (n : Nat) => x = V.int (n : Int)) (enc := fun n : Nat => PyData.int (n : Int)) (xs := ivN ns) (rs := ns) ⟨by unfold ivN; simp, fun i x r a b => by
    unfold ivN at a
    rw [List.getElem?_map, b] at a
    exact (Option.some.inj a).symm⟩
  refine List.ext_getElem? fun i => ?_
  unfold ivN
  rw [List.getElem?_map]
  cases hi : (srtN ns)[i]? with
  | none =>
    rw [List.getElem?_eq_none_iff] at hi
    rw [List.getElem?_eq_none_iff.mpr]; rfl
    have := h.1
    show (R0.sortV (ivN ns) (ns.map fun n : Nat => PyData.int (n : Int))).length ≤ i
    rw [this]
    exact hi
  | some r =>
    have lt : i < (R0.sortV (ivN ns) (dtN ns)).length := by
      have := (List.getElem?_eq_some_iff.mp hi).1
      have l := h.1
      show i < (R0.sortV (ivN ns) (ns.map fun n : Nat => PyData.int (n : Int))).length
      rw [l]
      exact this
    have g := List.getElem?_eq_getElem lt
    have := h.2 i _ r g hi
    exact g.trans (congrArg some this)
/-- sorted of a list of numbers -/
theorem sorted_iv {H : Hp} {p : Addr} {ns : List Nat} {Q : VK} (h : SqL K H p (ivN ns)) (q : ∀ l, H l = none → Q (.ref l) (upd H l (.lst (ivN (srtN ns))))) : R0.rSortD K [.ref p] H Q := by
  refine ⟨p, ivN ns, dtN ns, rfl, h, dp_iv ns, fun d hd d' hd' => ?_, .inr fun d hd => ?_, fun d hd => ?_, fun l nl => ?_⟩
  · obtain ⟨n, _, rfl⟩ := List.mem_map.mp hd
    obtain ⟨m, _, rfl⟩ := List.mem_map.mp hd'
    simp [PySem.W.alike]
  · obtain ⟨n, _, rfl⟩ := List.mem_map.mp hd
    exact ⟨(fun e => nomatch e), (fun _ e => nomatch e)⟩
  · obtain ⟨n, _, rfl⟩ := List.mem_map.mp hd
    exact Nat.zero_le _
  · rw [sortV_iv]
    exact q l nl
def KsIs (kvs : List (Key × V)) (ks : List Nat) : Prop := kvs.map (·.1) = ks.map fun n : Nat => (Sum.inl (n : Int) : Key)
def spOrd (K : PySem.W.Frag) (CO : Addr) : Sp := fun vs H Q E => ∃ (cd : Addr) (kvs : List (Key × V)) (ks : List Nat) (x : V), vs = [.ref cd, x] ∧ H cd = some (.dK kvs) ∧ KsIs kvs ks ∧ ks.length ≤ 100 ∧
  ((x = .non ∧ ∀ p H', Same H H' → H p = none → H' p = some (.lst (ivN (srtN ks))) → Q (.ref p) H') ∨
   ∃ q ns, x = .ref q ∧ (SqL K H q (ivN ns) ∨ SqT K H q (ivN ns)) ∧ ns.length ≤ 100 ∧ (srtN ns = srtN ks → ∀ p H', Same H H' → H p = none → H' p = some (.lst (ivN ns)) → Q (.ref p) H') ∧ (srtN ns ≠ srtN ks → ∀ H', Same H H' → RaisesV CO H' x E))
theorem keys_iv {kvs : List (Key × V)} {ks : List Nat} (h : KsIs kvs ks) : (kvs.map fun kv => kV kv.1) = ivN ks := by
  have : (kvs.map fun kv => kV kv.1) = (kvs.map (·.1)).map kV := by rw [List.map_map]; rfl
  rw [this, h, List.map_map]
  rfl
theorem ok_order {L O : Addr} (T : Top K mg a) (EO : ErX K a.c_BadOrder L O fI dI "BadOrder.__init__" initO) (G_is_int : FnOk P w K mg base CX0 1 a.f_is_int a.d_is_int ["value"] (spIsInt K)) : FnOk P w K mg base (CX P w) 3 a.f_checked_order a.d_checked_order ["clauses", "order"] (spOrd K a.c_BadOrder) := by
  have G_init := ok_initO (P := P) (w := w) (mg := mg) (base := base) EO
  refine T.F_checked_order.okX sc_checked_order (fun vs H Q E h => ?_) (fun cdv A' outer s H vs Q E hr h => ?_)
  · obtain ⟨_, _, _, _, rfl, _⟩ := h
    rfl
  · obtain ⟨cd, kvs, ks, x, rfl, hcd, hk, hl, h⟩ := h
    refine ⟨_, (pss_cons (ps_set (i := 2) sc_checked_order.nd rfl (.inl rfl) (pe_callB (R0.cr_sortD hr.units) (by rfl) T.z_sorted (by decide +kernel) (pa_cons (pe_callTy (call_list_dK rfl) (by rfl) T.z_list (by decide +kernel) (pa_cons (pv 0) pa_nil)) pa_nil)))
    (pss_cons (ps_if (pt_cmpR op_isN (pv 1) pe_non (nomark _))
      (pss_one (ps_ret (pv 2)))
      pss_nil)
    (pss_cons (ps_if (PW.pt (pw_or (pt_not (pt_val (pe_callB (cr_all rfl) (by rfl) T.z_all (by decide +kernel) (pa_cons (pe_lc (own := [("label", 3)]) rfl sc_checked_order.nd (R1.PI.or (pi_list (pv 1)) (pi_tup (pv 1))) (blkOk_by (own := [("label", 3)]) (N := ["clauses", "order", "labels", "label"]) (sc := defScope s_checked_order) (by decide +kernel)) (fun _ _ _ _ _ => (pg_name (i := 3) sc_checked_order.nd rfl (.inl rfl))) (fun _ _ _ _ _ => pts_nil) (fun _ _ _ _ _ => (pe_call G_is_int (hr.mono (by decide)) (by rfl) T.m_is_int T.F_is_int.kp T.b_is_int .nil pass0 (pa_cons (pv 3) pa_nil)))) pa_nil)))) (pw_or1 (pt_cmpR (OpR.or op_ne (op_neD hr.units)) (pe_callB (R0.cr_sortD hr.units) (by rfl) T.z_sorted (by decide +kernel) (pa_cons (pe_callTy call_list_of (by rfl) T.z_list (by decide +kernel) (pa_cons (pv 1) pa_nil)) pa_nil)) (pv 2) (nomark _)))))
      (pss_one (ps_raise rfl (takes_of rfl rfl rfl rfl) (pmk_oex EO.ox EO.iC EO.tI G_init (hr.mono (by decide)) EO.b_init .nil pass0F (by rfl) T.m_BadOrder (pa_cons (pv 1) pa_nil))))
      pss_nil)
    (pss_one (ps_ret (pe_callTy call_list_of (by rfl) T.z_list (by decide +kernel) (pa_cons (pv 1) pa_nil))))))), ?_⟩
    refine ⟨.ref cd, rfl, cd, kvs, rfl, hcd, fun q1 n1 => ?_⟩
    rw [keys_iv hk]
    have s1 := same_upd (o := .lst (ivN ks)) n1
    dsimp only [tNil]
    refine sorted_iv (.of upd_same) fun l nl => ?_
    have s2 := s1.trans (same_upd (o := .lst (ivN (srtN ks))) nl)
    have hl2 : (upd (upd H q1 (.lst (ivN ks))) l (.lst (ivN (srtN ks)))) l = _ := upd_same
    have n2 : H l = none := s1.free nl
    generalize upd (upd H q1 (.lst (ivN ks))) l (.lst (ivN (srtN ks))) = H2 at s2 hl2 ⊢
    rcases h with ⟨rfl, q⟩ | ⟨q0, ns, rfl, hq, hn, qa, qb⟩
    · exact ⟨.non, rfl, rfl, _, rfl, iteT ⟨_, rfl, q l H2 s2 n2 hl2⟩⟩
    · refine ⟨.ref q0, rfl, rfl, _, rfl, iteF ?_⟩
      have fin : ∀ H3, Same H2 H3 → ∀ Q : Bool → Hp → Prop, (∀ H4, Same H3 H4 → Q (!decide (srtN ns = srtN ks)) H4) → (tTest (tOp (fun x y H Q => rNe x y H Q ∨ rNeD K x y H Q) (tCB (R0.rSortD K) (tCons (tCB (fun xs H Q => ∃ p ys, xs = [V.ref p] ∧ (SqL K H p ys ∨ SqT K H p ys) ∧ ∀ l, H l = none → Q (V.ref l) (upd H l (.lst ys))) (tCons (tVar 1) tNil)) tNil)) (tVar 2))) [some (.ref cd), some (.ref q0), some (.ref l), none] H3 Q := by
        intro H3 s3 Q hQ
        have hq3 : SqL K H3 q0 (ivN ns) ∨ SqT K H3 q0 (ivN ns) := hq.imp (sqL_same (s2.trans s3)) (sqT_tk (Same.tk (s2.trans s3)))
        refine ⟨.ref q0, rfl, q0, _, rfl, hq3, fun l2 nl2 => ?_⟩
        dsimp only [tNil]
        refine sorted_iv (.of upd_same) fun l3 nl3 => ?_
        have s4 : Same H3 (upd (upd H3 l2 (.lst (ivN ns))) l3 (.lst (ivN (srtN ns)))) := (same_upd nl2).trans (same_upd nl3)
        have h4 : (upd (upd H3 l2 (.lst (ivN ns))) l3 (.lst (ivN (srtN ns)))) l3 = _ := upd_same
        generalize upd (upd H3 l2 (.lst (ivN ns))) l3 (.lst (ivN (srtN ns))) = H4 at s4 h4 ⊢
        refine ⟨.ref l, rfl, .inr ⟨.list (dtN (srtN ns)), .list (dtN (srtN ks)), .lst (.of h4) (dp_iv _), .lst (.of (s4 _ _ (s3 _ _ hl2))) (dp_iv _), shaped_iv _, shaped_iv _, _, rfl, ?_⟩⟩
        rw [PyData.eqv, eqv_iv]
        exact hQ H4 s4
      have part : ∀ H3, Same H2 H3 → (!decide (srtN ns = srtN ks)) = true → RaisesV a.c_BadOrder H3 (.ref q0) E := fun H3 s3 z => qb (by simpa using z) H3 (s2.trans s3)
      have lx : (ivN ns).length = ns.length := by unfold ivN; rw [List.length_map]
      have turn : ∀ (D : Addr) (nD : H2 D = none) (u : Nat) (x : V) (H3 : Hp), u < (ivN ns).length → (Same H2 H3 ∧ H3 D = some (.lst ((ivN ns).take u |>.map fun _ => V.bl true))) → (ivN ns)[u]? = some x →
          tCall (spIsInt K) [] E0 (tCons (tVar 3) tNil) [some (.ref cd), some (.ref q0), some (.ref l), some x] H3 (fun v F5 => ∃ acc, F5 D = some (.lst acc) ∧ acc.length < sizeLine ∧ (Same H2 (upd F5 D (.lst (acc ++ [v]))) ∧ (upd F5 D (.lst (acc ++ [v]))) D = some (.lst ((ivN ns).take (u + 1) |>.map fun _ => V.bl true)))) := by
        rintro D nD u x H3 hu ⟨s3, hD⟩ hx
        obtain ⟨n, rfl⟩ : ∃ n : Nat, x = V.int (n : Int) := by
          unfold ivN at hx
          rw [List.getElem?_map] at hx
          cases g : ns[u]? with
          | none => rw [g] at hx; cases hx
          | some n => rw [g] at hx; exact ⟨n, (Option.some.inj hx).symm⟩
        have et : (ivN ns).take (u + 1) = (ivN ns).take u ++ [V.int (n : Int)] := by rw [List.take_add_one, hx]; rfl
        refine ⟨_, rfl, _, "int", true, false, rfl, .base (.int _), by decide +kernel, by decide +kernel, _, hD, ?_, K16.Same.mut s3 nD, ?_⟩
        · rw [List.length_map, List.length_take]
          exact small1000 (by omega)
        · rw [upd_same, et, List.map_append]; rfl
      have allT : (((ivN ns).map fun _ => true).all id) = true := by simp
      rcases hq with hq | hq
      · refine .inl ⟨.ref q0, rfl, q0, rfl, ⟨_, sqL_same s2 hq⟩, fun D nD => R1.walk_it (walk_list (xs := ivN ns)) (fun u H3 => Same H2 H3 ∧ H3 D = some (.lst ((ivN ns).take u |>.map fun _ => V.bl true))) ⟨same_upd nD, upd_same⟩ (fun u H3 _ h => sqL_same (s2.trans h.1) hq) (fun u x _ H3 hu h y => ?_) fun H3 h => ?_⟩
        · obtain ⟨rfl, hx⟩ := y
          exact ⟨rfl, turn D nD u x H3 hu h hx⟩
        · obtain ⟨s3, hD⟩ := h
          rw [List.take_length] at hD
          refine ⟨D, (ivN ns).map fun _ => true, rfl, SqL.of (by rw [hD, List.map_map]; rfl), ?_⟩
          rw [allT]
          refine ⟨_, rfl, iteF (fin H3 s3 _ fun H4 s4 => ?_)⟩
          by_cases h : srtN ns = srtN ks
          · rw [decide_eq_true h]
            refine iteF ⟨.ref q0, rfl, q0, _, rfl, .inl (sqL_same (s2.trans (s3.trans s4)) hq), fun r nr => qa h r _ ((s2.trans (s3.trans s4)).trans (same_upd nr)) ((s2.trans (s3.trans s4)).free nr) upd_same⟩
          · rw [decide_eq_false h]
            exact iteT (raise_v (fun Q q => ⟨_, rfl, q⟩) (part H4 (s3.trans s4) (by rw [decide_eq_false h]; rfl)))
      · refine .inr ⟨.ref q0, rfl, q0, rfl, ⟨_, sqT_tk (Same.tk s2) hq⟩, fun D nD => R1.walk_it (walk_tup (xs := ivN ns)) (fun u H3 => Same H2 H3 ∧ H3 D = some (.lst ((ivN ns).take u |>.map fun _ => V.bl true))) ⟨same_upd nD, upd_same⟩ (fun u H3 _ h => sqT_tk (Same.tk (s2.trans h.1)) hq) (fun u x _ H3 hu h y => ?_) fun H3 h => ?_⟩
        · obtain ⟨rfl, hx⟩ := y
          exact ⟨rfl, turn D nD u x H3 hu h hx⟩
        · obtain ⟨s3, hD⟩ := h
          rw [List.take_length] at hD
          refine ⟨D, (ivN ns).map fun _ => true, rfl, SqL.of (by rw [hD, List.map_map]; rfl), ?_⟩
          rw [allT]
          refine ⟨_, rfl, iteF (fin H3 s3 _ fun H4 s4 => ?_)⟩
          by_cases h : srtN ns = srtN ks
          · rw [decide_eq_true h]
            refine iteF ⟨.ref q0, rfl, q0, _, rfl, .inr (sqT_tk (Same.tk (s2.trans (s3.trans s4))) hq), fun r nr => qa h r _ ((s2.trans (s3.trans s4)).trans (same_upd nr)) ((s2.trans (s3.trans s4)).free nr) upd_same⟩
          · rw [decide_eq_false h]
            exact iteT (raise_v (fun Q q => ⟨_, rfl, q⟩) (part H4 (s3.trans s4) (by rw [decide_eq_false h]; rfl)))
end
end K16

/-! d.items() of a dict with nested keys, as an expression -/
namespace RN
open PySem PySem.Spec PyProof.Rows L2
section
variable {X : Cx} {o : Expr} {to : TE} {apos cpos : Pos}
def tItN (w : World) (to : TE) : TE := fun σ H Q => to σ H fun x H1 => rItemsN w x [] H1 Q
theorem pe_itemsN {w : World} (hW : X.w = w) (ho : PE X o to) (hb : attributeBase o "items" X.env (eval o X.env) = eval o X.env := by rfl) (hl : (apos.endLine == cpos.line) = true := by rfl) : PE X (.Call (.Attribute o "items" apos) [] [] cpos) (tItN w to) := by
  refine ⟨fun pins s σ H Q I h => wpAny_Call_method0_late hb hl (thn (ho.run pins s σ H _ I h) fun v s1 ⟨x, H1, I1, r1, q1⟩ => ?_)⟩
  have q2 := q1
  obtain ⟨d, es, rfl, _, hd, _⟩ := q2
  cases r1
  subst hW
  obtain ⟨_, _, _, _, _, _, ⟨ob, b1, b2, _⟩, _⟩ := raw_n I1 hd
  have there : ∀ c, Value.ref d = .ref c → ∃ u, s1.heap.get? c = some u ∧ u.dict = none := fun c e => by
    cases e
    exact ⟨ob, b1, b2.2.1⟩
  exact ⟨"dict", "dict.items", PySem.F.plainAttrs_dict, PySem.F.slot_dict_items, PySem.F.type_dict_items, ⟨ob, b1, b2.1⟩, there, Calls.callWith_builtin rfl (PySem.evalArgs_none (mt_itemsN rfl pins s1 σ H1 (.ref d) [] (.ref d) [] Q I1 rfl .nil q1))⟩
end
end RN


/-! propagate -/
namespace K16
open PySem PySem.Spec PyProof.Rows L2 RN
section
variable {P : Program} {w : World} {K : PySem.W.Frag} {mg : Str → Option Value} {base : Heap} {a : Ad} {fI : Addr} {dI : FuncData} {e : Nat → PyData} {p : Pd}
theorem set_dN {X : Cx} {K : PySem.W.Frag} {w : World} (hu : X.A.units + 16 < cLine) (hK : X.K = K) (hW : X.w = w) : PSet X (rSetN K w) := by subst hK hW; exact set_dictN hu
/-- different literals, in the order given -/
def dd (ls : List Lt) : List Lt := ls.foldl (fun acc l => if l ∈ acc then acc else acc ++ [l]) []
def st0 (ls : List Lt) : List Stp := (dd ls).map fun l => (l, 0)
def rowsOf (R : Nat → List Lt) (ns : List Nat) : List Row := ns.map fun n => (n, R n)
def CkIs (e : Nat → PyData) (K : PySem.W.Frag) (H : Hp) (kvs : List (Key × V)) (R : Nat → List Lt) (ks : List Nat) : Prop := ∀ n ∈ ks, ∃ c0, valV kvs (.inl (n : Int)) = some (.ref c0) ∧ ClIs e K H c0 (R n)
def SqI (K : PySem.W.Frag) (H : Hp) (q : Addr) (xs : List V) : Prop := SqL K H q xs ∨ SqT K H q xs
def spProp (e : Nat → PyData) (w : World) (K : PySem.W.Frag) (C CO : Addr) : Sp := fun vs H Q E => ∃ (cd s0 : Addr) (x : V) (kvs : List (Key × V)) (ks : List Nat) (R : Nat → List Lt) (xs : List V) (ls : List Lt), vs = [.ref cd, .ref s0, x] ∧ H cd = some (.dK kvs) ∧ KsIs kvs ks ∧ ks.length ≤ 6 ∧
  (∀ n ∈ ks, (R n).length ≤ 3 ∧ In7 (R n)) ∧ CkIs e K H kvs R ks ∧ SqI K H s0 xs ∧ R1.Al (Li e K H) xs ls ∧ In7 ls ∧ ls.length ≤ 20 ∧
  ((x = .non ∧ ∀ o H', Same H H' → H o = none → PrIs e w K H' C o (run 100 (rowsOf R (srtN ks)) (st0 ls)).1 (run 100 (rowsOf R (srtN ks)) (st0 ls)).2 → Q (.ref o) H') ∨
   ∃ q ns, x = .ref q ∧ SqI K H q (ivN ns) ∧ ns.length ≤ 100 ∧ (srtN ns = srtN ks → ∀ o H', Same H H' → H o = none → PrIs e w K H' C o (run 100 (rowsOf R ns) (st0 ls)).1 (run 100 (rowsOf R ns) (st0 ls)).2 → Q (.ref o) H') ∧
    (srtN ns ≠ srtN ks → ∀ H', Same H H' → RaisesV CO H' x E))
theorem dd_take (ls : List Lt) (u : Nat) (l : Lt) (h : ls[u]? = some l) : dd (ls.take (u + 1)) = if l ∈ dd (ls.take u) then dd (ls.take u) else dd (ls.take u) ++ [l] := by
  have et : ls.take (u + 1) = ls.take u ++ [l] := by rw [List.take_add_one, h]; rfl
  unfold dd
  rw [et, List.foldl_append]
  rfl
theorem dd_go : ∀ (ls acc : List Lt), acc.Nodup → (∀ x ∈ ls.foldl (fun acc l => if l ∈ acc then acc else acc ++ [l]) acc, x ∈ acc ∨ x ∈ ls) ∧ (ls.foldl (fun acc l => if l ∈ acc then acc else acc ++ [l]) acc).Nodup ∧ (ls.foldl (fun acc l => if l ∈ acc then acc else acc ++ [l]) acc).length ≤ acc.length + ls.length
  | [], acc, h => ⟨fun x hx => .inl hx, h, Nat.le_refl _⟩
  | l :: ls, acc, h => by
    rw [List.foldl_cons]
    by_cases c : l ∈ acc
    · rw [if_pos c]
      obtain ⟨a1, a2, a3⟩ := dd_go ls acc h
      refine ⟨fun x hx => (a1 x hx).imp id fun z => List.mem_cons_of_mem _ z, a2, by rw [List.length_cons]; omega⟩
    · rw [if_neg c]
      have nd : (acc ++ [l]).Nodup := by
        refine List.nodup_append.mpr ⟨h, by simp, fun x hx y hy z => ?_⟩
        rw [List.mem_singleton.mp hy] at z
        subst z
        exact c hx
      obtain ⟨a1, a2, a3⟩ := dd_go ls (acc ++ [l]) nd
      refine ⟨fun x hx => ?_, a2, by rw [List.length_append] at a3; simp at a3 ⊢; omega⟩
      rcases a1 x hx with z | z
      · rcases List.mem_append.mp z with z | z
        · exact .inl z
        · rw [List.mem_singleton.mp z]; exact .inr List.mem_cons_self
      · exact .inr (List.mem_cons_of_mem _ z)
theorem dd_sub {ls : List Lt} {x : Lt} (h : x ∈ dd ls) : x ∈ ls := ((dd_go ls [] List.nodup_nil).1 x h).elim (fun z => nomatch z) id
theorem dd_nodup (ls : List Lt) : (dd ls).Nodup := (dd_go ls [] List.nodup_nil).2.1
theorem dd_len (ls : List Lt) : (dd ls).length ≤ ls.length := by
  have h := (dd_go ls [] List.nodup_nil).2.2
  rw [List.length_nil, Nat.zero_add] at h
  exact h
theorem hs_st0 (ls : List Lt) : hs (st0 ls) = dd ls := by unfold hs st0; rw [List.map_map]; exact List.map_id _
theorem es_new (A : AtOk e) {H : Hp} {l : Lt} {n : Nat} {b : Addr} {es : List Ent} {st : List Stp} (hl : l.1 < 7) (h7 : In7 (hs st)) (hn : l ∉ hs st) (r : EsIs e K H es st) (hb : Li e K H (.ref b) l) : EsIs e K H (putN es (nk (eL e l)) b (.int (n : Int))) (st ++ [(l, n)]) := by
  have g := es_in A hl h7 r
  rw [decide_eq_false hn] at g
  unfold putN
  rw [g, if_neg (by decide)]
  exact Paired.snoc r ⟨rfl, hb, rfl⟩
theorem es_old (A : AtOk e) {H : Hp} {l : Lt} {b : Addr} {es : List Ent} {st : List Stp} (hl : l.1 < 7) (h7 : In7 (hs st)) (hn : l ∈ hs st) (hz : ∀ q ∈ st, q.2 = 0) (r : EsIs e K H es st) : putN es (nk (eL e l)) b (.int 0) = es := by
  have g := es_in A hl h7 r
  rw [decide_eq_true hn] at g
  unfold putN
  rw [g, if_pos rfl]
  clear g hn h7
  induction r with
  | nil => rfl
  | @cons p q ps qs z t ih =>
    rw [List.map_cons, ih fun q hq => hz q (List.mem_cons_of_mem _ hq)]
    congr 1
    have z0 := hz q List.mem_cons_self
    have v0 : p.2.2 = .int 0 := by rw [z.2.2, z0]; rfl
    by_cases c : p.1 = nk (eL e l)
    · rw [if_pos c]
      exact Prod.ext rfl (Prod.ext rfl v0.symm)
    · rw [if_neg c]
theorem lbs_rows (R : Nat → List Lt) (ns : List Nat) : lbs (rowsOf R ns) = ivN ns := by unfold lbs rowsOf ivN; rw [List.map_map]; rfl
theorem rows_ok {R : Nat → List Lt} {ks ns : List Nat} (hR : ∀ n ∈ ks, (R n).length ≤ 3 ∧ In7 (R n)) (hl : ks.length ≤ 6) (pm : ns.Perm ks) : RsOk (rowsOf R ns) := by
  refine ⟨by unfold rowsOf; rw [List.length_map, pm.length_eq]; omega, fun r hr => ?_⟩
  obtain ⟨n, hn, rfl⟩ := List.mem_map.mp hr
  have := hR n (pm.mem_iff.mp hn)
  exact ⟨by show (R n).length ≤ 60; omega, this.2⟩
theorem ck_cd {H : Hp} {kvs : List (Key × V)} {R : Nat → List Lt} {ks ns : List Nat} (h : CkIs e K H kvs R ks) (pm : ns.Perm ks) : CdIs e K H kvs (rowsOf R ns) := fun r hr => by
  obtain ⟨n, hn, rfl⟩ := List.mem_map.mp hr
  exact h n (pm.mem_iff.mp hn)
theorem flat_le {α β : Type} (f : α → List β) (m : Nat) : ∀ l : List α, (∀ x ∈ l, (f x).length ≤ m) → (l.flatMap f).length ≤ m * l.length
  | [], _ => by simp
  | x :: l, h => by
    have a := h x List.mem_cons_self
    have b := flat_le f m l fun y hy => h y (List.mem_cons_of_mem _ hy)
    rw [List.flatMap_cons, List.length_append, List.length_cons, Nat.mul_succ]
    omega
theorem pot_le {R : Nat → List Lt} {ks ns : List Nat} (hR : ∀ n ∈ ks, (R n).length ≤ 3 ∧ In7 (R n)) (hl : ks.length ≤ 6) (pm : ns.Perm ks) (st : List Stp) : pot (rowsOf R ns) st ≤ 18 := by
  have a : ((rowsOf R ns).flatMap (·.2)).length ≤ 3 * (rowsOf R ns).length := flat_le _ 3 _ fun r hr => by
    obtain ⟨n, hn, rfl⟩ := List.mem_map.mp hr
    exact (hR n (pm.mem_iff.mp hn)).1
  have b : (rowsOf R ns).length ≤ 6 := by unfold rowsOf; rw [List.length_map, pm.length_eq]; exact hl
  have c : pot (rowsOf R ns) st ≤ ((rowsOf R ns).flatMap (·.2)).length := List.length_filter_le _ _
  omega
theorem srtN_pm {ns ks : List Nat} (h : srtN ns = srtN ks) : ns.Perm ks := (srtN_perm ns).symm.trans (h ▸ srtN_perm ks)
theorem in7_step {rows : List Row} (ok : RsOk rows) {st : List Stp} {r : Row} {l : Lt} {ls : List Lt} (h7 : In7 (hs st)) (h : chosen rows (hs st) = some r) (hl : left r.2 (hs st) = l :: ls) : l.1 < 7 ∧ l ∉ hs st ∧ In7 (hs (st ++ [(l, r.1)])) := by
  obtain ⟨hr, hf⟩ := chosen_mem h
  obtain ⟨_, hn⟩ := fires_one hf hl
  have hc : l ∈ r.2 := by
    have : l ∈ left r.2 (hs st) := by rw [hl]; exact List.mem_cons_self
    exact (List.mem_filter.mp this).1
  have l7 := (ok.2 r hr).2 l hc
  refine ⟨l7, hn, fun x hx => ?_⟩
  rw [hs_snoc] at hx
  rcases List.mem_append.mp hx with hx | hx
  · exact h7 x hx
  · rw [List.mem_singleton.mp hx]; exact l7
theorem run_step {rows : List Row} {st : List Stp} {r : Row} {l : Lt} {ls : List Lt} (h : chosen rows (hs st) = some r) (hl : left r.2 (hs st) = l :: ls) : run (pot rows st + 1) rows st = run (pot rows (st ++ [(l, r.1)]) + 1) rows (st ++ [(l, r.1)]) := by
  have lt := pot_lt h hl
  have e1 : run (pot rows st + 1) rows st = run (pot rows st) rows (st ++ [(l, r.1)]) := by
    conv => lhs; unfold run
    simp only [h, hl]
  rw [e1]
  exact run_more _ _ _ lt (Nat.lt_succ_self _)

theorem ok_prop {L O : Addr} (A : AtOk e) (T : Top K mg a) (B : PrC K a.c_Propagation p) (EO : ErX K a.c_BadOrder L O fI dI "BadOrder.__init__" initO) (G_is_int : FnOk P w K mg base CX0 1 a.f_is_int a.d_is_int ["value"] (spIsInt K))
    (G_next_step : FnOk P w K mg base CX0 3 a.f_next_step a.d_next_step ["clauses", "order", "held"] (spNext e w K)) : FnOk P w K mg base (CX P w) 5 a.f_propagate a.d_propagate ["clauses", "start", "order"] (spProp e w K a.c_Propagation a.c_BadOrder) := by
  have G_checked_order := ok_order (P := P) (w := w) (base := base) T EO G_is_int
  have G_init := ok_init (P := P) (w := w) (mg := mg) (base := base) A T B
  refine T.F_propagate.ok sc_propagate (fun vs H Q E h => ?_) (fun cdv A' outer s H vs Q E hr h => ?_)
  · obtain ⟨_, _, _, _, _, _, _, _, rfl, _⟩ := h
    rfl
  · obtain ⟨cd, s0, x, kvs, ks, R, xs, ls, rfl, hcd, hks, hkl, hR, hC, hs0, hA, h7, hl, h⟩ := h
    refine ⟨_, (pss_cons (ps_set (i := 3) sc_propagate.nd rfl (.inl rfl) (pe_call G_checked_order (hr.mono (by decide)) (by rfl) T.m_checked_order T.F_checked_order.kp T.b_checked_order .nil (passes_call (takes_of rfl rfl rfl rfl) (fun _ _ _ _ h => h)) (pa_cons (pv 0) (pa_cons (pv 2) pa_nil))))
    (C8.pss_cut (RN.ps_setDcN (own := [("literal", 6)]) (i := 4) rfl rfl (R1.sw_trueD rfl rfl rfl (by decide +kernel)) hr.units rfl sc_propagate.nd (R1.PI.or (pi_list (pv 1)) (pi_tup (pv 1))) (blkOk_by (own := [("literal", 6)]) (N := ["clauses", "start", "order", "labels", "held", "step", "literal"]) (sc := defScope s_propagate) (by decide +kernel)) (fun _ _ _ _ _ => (pg_name (i := 6) sc_propagate.nd rfl (.inl rfl))) (fun _ _ _ _ _ => pts_nil) (fun _ _ _ _ _ => (pv 6)) (fun _ _ _ _ _ => pe_int))
    (pss_cons (ps_set (i := 5) sc_propagate.nd rfl (.inl rfl) (pe_call G_next_step (hr.mono (by decide)) (by rfl) T.m_next_step T.F_next_step.kp T.b_next_step .nil pass0 (pa_cons (pv 0) (pa_cons (pv 3) (pa_cons (pv 4) pa_nil)))))
    (pss_cons (ps_while (passes_of rfl) (PW.pt (pw_and (pt_cmpR op_notN (pv 5) pe_non (nomark _)) (pw_and1 (pt_cmpR op_notN (pe_ix ix_seq (pv 5) pe_int (fun _ _ => rfl)) pe_non (nomark _)))))
      (pss_cons (ps_asg (pe_ix ix_seq (pv 5) pe_int (fun _ _ => rfl)) (pg_sub (pv 4) (pe_ix ix_seq (pv 5) pe_int (fun _ _ => rfl)) (set_dN (K := K) (w := w) (u16 hr) rfl rfl)))
      (pss_one (ps_set (i := 5) sc_propagate.nd rfl (.inl rfl) (pe_call G_next_step (hr.mono (by decide)) (by rfl) T.m_next_step T.F_next_step.kp T.b_next_step .nil pass0 (pa_cons (pv 0) (pa_cons (pv 3) (pa_cons (pv 4) pa_nil))))))))
    (pss_one (ps_ret (pe_make B.mkr G_init (hr.mono (by decide)) (by rfl) T.m_Propagation B.b_I .nil pass0 (pa_cons (pe_callTy RN.call_tupleF (by rfl) T.z_tuple (by decide +kernel) (pa_cons (pe_callTy (RN.call_listItN (w := w) rfl rfl) (by rfl) T.z_list (by decide +kernel) (pa_cons (RN.pe_itemsN (w := w) rfl (pv 4)) pa_nil)) pa_nil)) (pa_cons (pe_ifExp (pt_cmpR op_isN (pv 5) pe_non (nomark _)) pe_int (pe_ix ix_seq (pv 5) pe_int (fun _ _ => rfl))) pa_nil))))))))), ?_⟩
    have key : ∀ Q' : VK, (∀ (ns : List Nat) (lp : Addr) (H1 : Hp), Same H H1 → H lp = none → H1 lp = some (.lst (ivN ns)) → ns.Perm ks → (∀ o H', Same H H' → H o = none → PrIs e w K H' a.c_Propagation o (run 100 (rowsOf R ns) (st0 ls)).1 (run 100 (rowsOf R ns) (st0 ls)).2 → Q (.ref o) H') → Q' (.ref lp) H1) →
        spOrd K a.c_BadOrder [.ref cd, x] H Q' E := by
      intro Q' k
      refine ⟨cd, kvs, ks, x, rfl, hcd, hks, by omega, ?_⟩
      rcases h with ⟨rfl, q⟩ | ⟨q0, ns, rfl, hq, hn, qa, qb⟩
      · exact .inl ⟨rfl, fun lp H1 s1 np hp => k _ lp H1 s1 np hp (srtN_perm ks) q⟩
      · exact .inr ⟨q0, ns, rfl, hq, hn, fun hh lp H1 s1 np hp => k ns lp H1 s1 np hp (srtN_pm hh) (qa hh), qb⟩
    refine ⟨.ref cd, rfl, x, rfl, ?_⟩
    dsimp only [tNil, List.cons_append, List.nil_append]
    refine key _ fun ns lp H1 s1 np hp pm q => ?_
    clear key h
    have t1 := Same.tk s1
    have hA1 := al_tk A h7 t1 hA
    have xl : xs.length = ls.length := hA.1
    -- the start
    have rok := rows_ok hR hkl pm
    have st7 : ∀ u, In7 (hs (st0 (ls.take u))) := fun u l hl2 => by
      rw [hs_st0] at hl2
      exact h7 l (List.mem_of_mem_take (dd_sub hl2))
    have z0 : ∀ u, ∀ q ∈ st0 (ls.take u), q.2 = 0 := fun u q hq => by
      obtain ⟨l, _, rfl⟩ := List.mem_map.mp hq
      rfl
    have turn : ∀ (D : Addr) (_ : H1 D = none) (u : Nat) (y : V) (H2 : Hp), u < xs.length → (Same H1 H2 ∧ ∃ es, H2 D = some (dN w D es) ∧ EsIs e K H2 es (st0 (ls.take u))) → xs[u]? = some y →
        ∃ es k b, y = .ref b ∧ KeyAt K H2 k b ∧ H2 D = some (dN w D es) ∧ KeysAt K H2 es ∧ es.length < sizeLine ∧ (Same H1 (upd H2 D (dN w D (putN es k b (.int 0)))) ∧ ∃ es', (upd H2 D (dN w D (putN es k b (.int 0)))) D = some (dN w D es') ∧ EsIs e K (upd H2 D (dN w D (putN es k b (.int 0)))) es' (st0 (ls.take (u + 1)))) := by
      rintro D nD u y H2 hu ⟨sm, es, hD, hE⟩ hy
      obtain ⟨l, hl2, hli⟩ := hA1.at hy
      have l7 : l.1 < 7 := h7 l (List.mem_of_getElem? hl2)
      have hli2 := hli.tk A l7 (Same.tk sm)
      obtain ⟨b, u0, rfl, _, _⟩ := li_split hli2
      have tD : Tk H2 (upd H2 D (dN w D (putN es (nk (eL e l)) b (.int 0)))) := tk_upd hD True.intro
      have el : es.length = (st0 (ls.take u)).length := Paired.length hE
      refine ⟨es, nk (eL e l), b, rfl, key_li A l7 hli2, hD, es_keys A (st7 u) hE, ?_, K16.Same.mut sm nD, _, upd_same, ?_⟩
      · rw [el]
        unfold st0
        rw [List.length_map]
        have := dd_len (ls.take u)
        rw [List.length_take] at this
        exact small1000 (by omega)
      · have hd := dd_take ls u l hl2
        refine es_tk A tD (st7 (u + 1)) ?_
        by_cases c : l ∈ dd (ls.take u)
        · rw [if_pos c] at hd
          rw [es_old A l7 (st7 u) (by rw [hs_st0]; exact c) (z0 u) hE]
          unfold st0
          rw [hd]
          exact hE
        · rw [if_neg c] at hd
          have := es_new A (n := 0) l7 (st7 u) (by rw [hs_st0]; exact c) hE hli2
          unfold st0
          rw [hd, List.map_append]
          exact this
    refine ⟨fun σ' H2 => ∃ D, σ' = [some (.ref cd), some (.ref s0), some x, some (.ref lp), some (.ref D), none, none] ∧ H1 D = none ∧ Same H1 H2 ∧ ∃ es, H2 D = some (dN w D es) ∧ EsIs e K H2 es (st0 ls), ?_, ?_⟩
    · have h0 : ∀ D, H1 D = none → Same H1 (upd H1 D (dN w D [])) ∧ ∃ es, (upd H1 D (dN w D [])) D = some (dN w D es) ∧ EsIs e K (upd H1 D (dN w D [])) es (st0 (ls.take 0)) := fun D nD => ⟨same_upd nD, [], upd_same, .nil⟩
      rcases hs0 with hs0 | hs0
      · refine .inl ⟨.ref s0, rfl, s0, rfl, ⟨_, sqL_same s1 hs0⟩, fun D nD => R1.walk_it (walk_list (xs := xs)) (fun u H2 => Same H1 H2 ∧ ∃ es, H2 D = some (dN w D es) ∧ EsIs e K H2 es (st0 (ls.take u))) (h0 D nD) (fun u H2 _ h => sqL_same (s1.trans h.1) hs0) (fun u y _ H2 hu h z => ?_) fun H2 h => ?_⟩
        · obtain ⟨rfl, hy⟩ := z
          exact ⟨rfl, _, rfl, turn D nD u y H2 hu h hy⟩
        · rw [xl, List.take_length] at h
          exact ⟨D, rfl, nD, h.1, h.2⟩
      · refine .inr ⟨.ref s0, rfl, s0, rfl, ⟨_, sqT_tk t1 hs0⟩, fun D nD => R1.walk_it (walk_tup (xs := xs)) (fun u H2 => Same H1 H2 ∧ ∃ es, H2 D = some (dN w D es) ∧ EsIs e K H2 es (st0 (ls.take u))) (h0 D nD) (fun u H2 _ h => sqT_tk (Same.tk (s1.trans h.1)) hs0) (fun u y _ H2 hu h z => ?_) fun H2 h => ?_⟩
        · obtain ⟨rfl, hy⟩ := z
          exact ⟨rfl, _, rfl, turn D nD u y H2 hu h hy⟩
        · rw [xl, List.take_length] at h
          exact ⟨D, rfl, nD, h.1, h.2⟩
    clear turn z0
    rintro σ' H2 ⟨D, rfl, nD, s2, es, hD, hE⟩
    have st7' : In7 (hs (st0 ls)) := by have := st7 ls.length; rwa [List.take_length] at this
    clear st7
    have nDH : H D = none := s1.free nD
    have lpD : lp ≠ D := fun z => by rw [z, nD] at hp; cases hp
    have cdH : ∀ H3, Same H H3 → H3 cd = some (.dK kvs) := fun H3 s3 => s3 _ _ hcd
    have nxt : ∀ (H3 : Hp) (st : List Stp) (Q' : VK), Same H H3 → H3 lp = some (.lst (ivN ns)) → HeldIs e w K H3 D st → In7 (hs st) → (∀ v H', Same H3 H' → NxIs e K H' (rowsOf R ns) (hs st) v → Q' v H') → spNext e w K [.ref cd, .ref lp, .ref D] H3 Q' (fun _ _ _ => False) :=
      fun H3 st Q' s3 hl3 hh h73 k => ⟨cd, lp, D, kvs, rowsOf R ns, st, rfl, cdH H3 s3, rok, (ck_cd (kvs := kvs) (R := R) (fun n hn => by
        obtain ⟨c0, e1, e2⟩ := hC n hn
        exact ⟨c0, e1, e2.tk A (Same.tk s3) (hR n hn).2⟩) pm), .of (by rw [lbs_rows]; exact hl3), hh, h73, k⟩
    refine ⟨.ref cd, rfl, .ref lp, rfl, .ref D, rfl, nxt H2 (st0 ls) _ (s1.trans s2) (s2 _ _ hp) ⟨es, hD, hE⟩ st7' fun v H3 s3 hv => ?_⟩
    have potl := pot_le (R := R) hR hkl pm
    have len0 : (st0 ls).length ≤ 20 := by
      unfold st0
      rw [List.length_map]
      have := dd_len ls
      omega
    refine ⟨fun m σ' H' => ∃ st v, σ' = [some (.ref cd), some (.ref s0), some x, some (.ref lp), some (.ref D), some v, none] ∧ Same H H' ∧ H' lp = some (.lst (ivN ns)) ∧ HeldIs e w K H' D st ∧ In7 (hs st) ∧ (hs st).Nodup ∧ NxIs e K H' (rowsOf R ns) (hs st) v ∧
      run 100 (rowsOf R ns) (st0 ls) = run (pot (rowsOf R ns) st + 1) (rowsOf R ns) st ∧ st.length + pot (rowsOf R ns) st ≤ 38 ∧ m = pot (rowsOf R ns) st, ⟨_, st0 ls, v, rfl, (s1.trans s2).trans s3, s3 _ _ (s2 _ _ hp), ⟨es, s3 _ _ hD, es_tk A (Same.tk s3) st7' hE⟩, st7', by rw [hs_st0]; exact dd_nodup ls, hv,
      run_more _ _ _ (by have := potl (st0 ls); omega) (Nat.lt_succ_self _), by have := potl (st0 ls); omega, rfl⟩, ?_⟩
    clear hv s3 H3 v hD hE es s2 H2 len0
    rintro m σ' H' ⟨st, v, rfl, sm, hlp, hH, h73, nd, hv, hrun, hle, rfl⟩
    have notN : ∀ {v : V} {σ : L2.St} {H : Hp} {i : Nat} (b : Bool), σ[i]? = some (some v) → (!decide (v = V.non)) = b → Ans (tTest (tOp (fun x y H Q => y = V.non ∧ Q (V.bl (!decide (x = V.non))) H) (tVar i) (tC V.non))) σ H b := fun b h e Q q => ⟨_, h, rfl, _, rfl, by rw [e]; exact q⟩
    have isN : ∀ {v : V} {σ : L2.St} {H : Hp} {i : Nat} (b : Bool), σ[i]? = some (some v) → decide (v = V.non) = b → Ans (tTest (tOp (fun x y H Q => y = V.non ∧ Q (V.bl (decide (x = V.non))) H) (tVar i) (tC V.non))) σ H b := fun b h e Q q => ⟨_, h, rfl, _, rfl, by rw [e]; exact q⟩
    have notI : ∀ {p : Addr} {y z : V} {σ : L2.St} {H : Hp} (b : Bool), σ[5]? = some (some (.ref p)) → H p = some (.tup [y, z]) → (!decide (y = V.non)) = b → Ans (tTest (tOp (fun x y H Q => y = V.non ∧ Q (V.bl (!decide (x = V.non))) H) (tOp (rIx K) (tVar 5) (tC (.int 0))) (tC V.non))) σ H b := fun b h hp e Q q => ixt 0 h (.of hp) rfl (by simp) ⟨rfl, _, rfl, by rw [e]; exact q⟩
    have rN : ∀ p : Addr, decide (V.ref p = V.non) = false := fun p => decide_eq_false fun z => nomatch z
    have out : ∀ (k : Nat), (∀ (H2 : Hp) (Q2 : VK), Same H' H2 → Q2 (.int (k : Int)) H2 → tIf (tTest (tOp (fun x y H Q => y = V.non ∧ Q (V.bl (decide (x = V.non))) H) (tVar 5) (tC V.non))) (tC (.int 0)) (tOp (rIx K) (tVar 5) (tC (.int 1))) [some (.ref cd), some (.ref s0), some x, some (.ref lp), some (.ref D), some v, none] H2 Q2) →
        run 100 (rowsOf R ns) (st0 ls) = (st, k) → tMake a.c_Propagation (spInit e w K a.c_Propagation) [] E0 (tCons (tCB (fun vs H Q => ∃ p ys, vs = [V.ref p] ∧ H p = some (HO.lst ys) ∧ ∀ (l : Addr) (H' : Hp), H l = Option.none → Same H H' → FrzT H' l ys → Q (V.ref l) H') (tCons (tCB (rListItN w) (tCons (tItN w (tVar 4)) tNil)) tNil))
          (tCons (tIf (tTest (tOp (fun x y H Q => y = V.non ∧ Q (V.bl (decide (x = V.non))) H) (tVar 5) (tC V.non))) (tC (.int 0)) (tOp (rIx K) (tVar 5) (tC (.int 1)))) tNil)) [some (.ref cd), some (.ref s0), some x, some (.ref lp), some (.ref D), some v, none] H' Q := by
      intro k fin hres
      obtain ⟨es, hD, hE⟩ := hH
      have el : es.length = st.length := Paired.length hE
      refine ⟨.ref D, rfl, D, es, rfl, rfl, hD, fun pv nv => ?_⟩
      have s5 := same_upd (o := L2.DX.itemsO pv D) nv
      refine ⟨pv, D, es, rfl, upd_same, s5 _ _ hD, by omega, fun H6 l as s6 n0 hal at0 att => ?_⟩
      refine ⟨l, as.map V.ref, rfl, at0, fun t H7 nt s7 fz => ?_⟩
      have s67 := (s5.trans s6).trans s7
      refine fin H7 _ s67 ?_
      intro o dx no ndx hne
      have k8 : Kp o H7 (upd (upd H7 dx (.own o)) o (.ins a.c_Propagation dx [])) := fun b ob hb z => by
        rw [upd_ne hb, upd_ne (ne_of_none z ndx)]
        exact z
      have s8 : Same H7 (upd (upd H7 dx (.own o)) o (.ins a.c_Propagation dx [])) := fun b ob z => k8 b ob (ne_of_none z no) z
      have t8 := Same.tk (s67.trans s8)
      have ot : t ≠ o := by
        obtain ⟨ot, _, z⟩ := fz
        exact ne_of_none z no
      refine ⟨o, t, dx, k, st, rfl, upd_same, ⟨as, es, ?_, hal, fun j c q0 h1 h2 => ?_, es_tk A t8 h73 hE⟩, h73, nd, by omega, fun H9 k9 pr => ⟨rfl, ?_⟩⟩
      · obtain ⟨ob, z1, z2⟩ := fz
        exact ⟨ob, z1, s8 _ _ z2⟩
      · exact .of (s8 _ _ (s7 _ _ (att j c q0 h1 h2)))
      · have sH : Same H H9 := fun b ob z => by
          have z7 := s67 _ _ (sm _ _ z)
          exact k9 b ob (ne_of_none z7 no) (s8 _ _ z7)
        have nH : H o = none := by
          cases z : H o with
          | none => rfl
          | some ob => have := s67 _ _ (sm _ _ z); rw [no] at this; cases this
        have := q o H9 sH nH
        rw [hres] at this
        exact this pr
    cases hv with
    | none hc =>
      refine ans_and0 (notN false rfl (by simp)) _ (iteF ?_)
      refine out 0 (fun H2 Q2 _ q2 => isN true rfl (by simp) _ (iteT q2)) ?_
      rw [hrun]
      unfold run
      simp only [hc]
    | @clash pp r hc hl hpp =>
      refine ans_and (notN true rfl (by rw [rN]; rfl)) (notI false rfl hpp (by simp)) _ (iteF ?_)
      refine out r.1 (fun H2 Q2 s2 q2 => isN false rfl (rN pp) _ (iteF (ixt 1 rfl (.of (s2 _ _ hpp)) rfl (by simp) q2))) ?_
      rw [hrun]
      unfold run
      simp only [hc, hl]
    | @step pp y r l ls' hc hl hpp hy =>
      obtain ⟨l7, hn, h74⟩ := in7_step rok h73 hc hl
      obtain ⟨b, u0, rfl, _, _⟩ := li_split hy
      refine ans_and (notN true rfl (by rw [rN]; rfl)) (notI true rfl hpp (by rw [rN]; rfl)) _ ?_
      refine iteT ⟨fun σ2 H2 => ∃ m', m' < pot (rowsOf R ns) st ∧ ∃ st v, σ2 = [some (.ref cd), some (.ref s0), some x, some (.ref lp), some (.ref D), some v, none] ∧ Same H H2 ∧ H2 lp = some (.lst (ivN ns)) ∧ HeldIs e w K H2 D st ∧ In7 (hs st) ∧ (hs st).Nodup ∧ NxIs e K H2 (rowsOf R ns) (hs st) v ∧
        run 100 (rowsOf R ns) (st0 ls) = run (pot (rowsOf R ns) st + 1) (rowsOf R ns) st ∧ st.length + pot (rowsOf R ns) st ≤ 38 ∧ m' = pot (rowsOf R ns) st, fun σ2 H2 z => z, ?_⟩
      obtain ⟨es, hD, hE⟩ := hH
      have el : es.length = st.length := Paired.length hE
      refine ixt 1 rfl (.of hpp) rfl (by simp) ⟨_, rfl, ixt 0 rfl (.of hpp) rfl (by simp) ⟨b, D, es, nk (eL e l), rfl, rfl, hD, es_keys A h73 hE, key_li A l7 hy, small1000 (by omega), ?_⟩⟩
      have tD : Tk H' (upd H' D (dN w D (putN es (nk (eL e l)) b (.int (r.1 : Int))))) := tk_upd hD True.intro
      have s4 : Same H (upd H' D (dN w D (putN es (nk (eL e l)) b (.int (r.1 : Int))))) := K16.Same.mut sm nDH
      have e4 := es_tk A tD h74 (es_new A (n := r.1) l7 h73 hn hE hy)
      have lt := pot_lt hc hl
      have hlp4 : (upd H' D (dN w D (putN es (nk (eL e l)) b (.int (r.1 : Int))))) lp = some (.lst (ivN ns)) := by rw [upd_ne lpD]; exact hlp
      have hD4 : (upd H' D (dN w D (putN es (nk (eL e l)) b (.int (r.1 : Int))))) D = _ := upd_same
      generalize upd H' D (dN w D (putN es (nk (eL e l)) b (.int (r.1 : Int)))) = H4 at s4 e4 hlp4 hD4 ⊢
      refine ⟨.ref cd, rfl, .ref lp, rfl, .ref D, rfl, ?_⟩
      dsimp only [tNil, List.cons_append, List.nil_append]
      refine nxt H4 (st ++ [(l, r.1)]) _ s4 hlp4 ⟨_, hD4, e4⟩ h74 fun v H5 s5 hv => ?_
      refine ⟨_, lt, st ++ [(l, r.1)], v, rfl, s4.trans s5, s5 _ _ hlp4, ⟨_, s5 _ _ hD4, es_tk A (Same.tk s5) h74 e4⟩, h74, ?_, hv, hrun.trans (run_step hc hl), by rw [List.length_append]; simp; omega, rfl⟩
      rw [hs_snoc]
      refine List.nodup_append.mpr ⟨nd, by simp, fun x hx y hy z => ?_⟩
      rw [List.mem_singleton.mp hy] at z
      subst z
      exact hn hx
end
end K16


/-! the law's own propagation -/
namespace K16
open PySem PySem.Spec PyProof.Rows L2 RN
section
variable {P : Program} {w : World} {K : PySem.W.Frag} {mg : Str → Option Value} {base : Heap} {a : Ad} {e : Nat → PyData}
def RwIs (e : Nat → PyData) (K : PySem.W.Frag) (H : Hp) (x : V) (r : Row) : Prop := ∃ b c0, x = V.ref b ∧ H b = some (.lst [.int (r.1 : Int), .ref c0]) ∧ ClIs e K H c0 r.2
def StpV (e : Nat → PyData) (K : PySem.W.Frag) (H : Hp) (x : V) (q : Stp) : Prop := ∃ b y, x = V.ref b ∧ SqT K H b [y, .int (q.2 : Int)] ∧ Li e K H y q.1
def RwsIs (e : Nat → PyData) (K : PySem.W.Frag) (H : Hp) (p : Addr) (rows : List Row) : Prop := ∃ xs, SqL K H p xs ∧ R1.Al (RwIs e K H) xs rows
theorem RwIs.same (A : AtOk e) {H H' : Hp} {x : V} {r : Row} (h7 : In7 r.2) (s : Same H H') (h : RwIs e K H x r) : RwIs e K H' x r := by
  obtain ⟨b, c0, rfl, h1, h2⟩ := h
  exact ⟨b, c0, rfl, s _ _ h1, h2.tk A (Same.tk s) h7⟩
theorem StpV.tk (A : AtOk e) {H H' : Hp} {x : V} {q : Stp} (h7 : q.1.1 < 7) (t : Tk H H') (h : StpV e K H x q) : StpV e K H' x q := by
  obtain ⟨b, y, rfl, h1, h2⟩ := h
  exact ⟨b, y, rfl, sqT_tk t h1, h2.tk A h7 t⟩
theorem stp_tk (A : AtOk e) {H H' : Hp} {xs : List V} {st : List Stp} (h7 : In7 (hs st)) (t : Tk H H') (h : R1.Al (StpV e K H) xs st) : R1.Al (StpV e K H') xs st :=
  ⟨h.1, fun i x q a b => (h.2 i x q a b).tk A (h7 _ (by unfold hs; exact List.mem_map.mpr ⟨q, List.mem_of_getElem? b, rfl⟩)) t⟩
theorem rws_same (A : AtOk e) {H H' : Hp} {p : Addr} {rows : List Row} (ok : RsOk rows) (s : Same H H') (h : RwsIs e K H p rows) : RwsIs e K H' p rows := by
  obtain ⟨xs, h1, h2⟩ := h
  exact ⟨xs, sqL_same s h1, h2.1, fun i x r a b => (h2.2 i x r a b).same A (ok.2 r (List.mem_of_getElem? b)).2 s⟩
def ChIs (e : Nat → PyData) (K : PySem.W.Frag) (p1 p2 : Addr) (H : Hp) (held : List Lt) : Option Row → V → Prop
  | none, v => v = .non
  | some r, v => ∃ c lf ys, v = .ref c ∧ H c = some (.lst [.int (r.1 : Int), .ref lf]) ∧ H lf = some (.lst ys) ∧ R1.Al (Li e K H) ys (left r.2 held) ∧ c ≠ p1 ∧ c ≠ p2 ∧ lf ≠ p1 ∧ lf ≠ p2
theorem in7_l {c held : List Lt} (h : In7 c) : In7 (left c held) := fun m hm => h m (List.mem_filter.mp hm).1
theorem ChIs.same (A : AtOk e) {p1 p2 : Addr} {H H' : Hp} {held : List Lt} {o : Option Row} {v : V} (h7 : ∀ r, o = some r → In7 r.2) (s : Same H H') (h : ChIs e K p1 p2 H held o v) : ChIs e K p1 p2 H' held o v := by
  cases o with
  | none => exact h
  | some r =>
    obtain ⟨c, lf, ys, rfl, h1, h2, h3, h4⟩ := h
    exact ⟨c, lf, ys, rfl, s _ _ h1, s _ _ h2, al_tk A (in7_l (h7 r rfl)) (Same.tk s) h3, h4⟩
theorem run_none {rows : List Row} {st : List Stp} {n : Nat} (hn : 0 < n) (h : chosen rows (hs st) = none) : run n rows st = (st, 0) := by
  cases n with
  | zero => omega
  | succ n => unfold run; simp only [h]
theorem run_clash {rows : List Row} {st : List Stp} {n : Nat} {r : Row} (hn : 0 < n) (h : chosen rows (hs st) = some r) (hl : left r.2 (hs st) = []) : run n rows st = (st, r.1) := by
  cases n with
  | zero => omega
  | succ n => unfold run; simp only [h, hl]
theorem run_next {rows : List Row} {st : List Stp} {n : Nat} {r : Row} {l : Lt} {ls : List Lt} (h : chosen rows (hs st) = some r) (hl : left r.2 (hs st) = l :: ls) : run (n + 1) rows st = run n rows (st ++ [(l, r.1)]) := by
  conv => lhs; unfold run
  simp only [h, hl]
theorem chosen_some {rows : List Row} {held : List Lt} {j : Nat} {r r0 : Row} (hr : rows[j]? = some r0) (h : chosen (rows.take j) held = some r) : chosen (rows.take (j + 1)) held = some r := by
  have et : rows.take (j + 1) = rows.take j ++ [r0] := by rw [List.take_add_one, hr]; rfl
  unfold chosen at h ⊢
  rw [et, List.find?_append, h]
  rfl
theorem chosen_new {rows : List Row} {held : List Lt} {j : Nat} {r : Row} (hr : rows[j]? = some r) (h : chosen (rows.take j) held = none) (f : fires r.2 held = true) : chosen (rows.take (j + 1)) held = some r := by
  have et : rows.take (j + 1) = rows.take j ++ [r] := by rw [List.take_add_one, hr]; rfl
  unfold chosen at h ⊢
  rw [et, List.find?_append, h]
  simp [f]
def spPg (e : Nat → PyData) (K : PySem.W.Frag) : Sp := fun vs H Q _ => ∃ (rl s0 : Addr) (rows : List Row) (xs : List V) (ls : List Lt), vs = [.ref rl, .ref s0] ∧ RwsIs e K H rl rows ∧ RsOk rows ∧ SqI K H s0 xs ∧ R1.Al (Li e K H) xs ls ∧ In7 ls ∧ ls.length ≤ 20 ∧
  ∀ p sl ys H', Same H H' → H p = none → H' p = some (.lst [.ref sl, .int ((run 100 rows (st0 ls)).2 : Int)]) → H' sl = some (.lst ys) → R1.Al (StpV e K H') ys (run 100 rows (st0 ls)).1 → Q (.ref p) H'
theorem ok_pg (A : AtOk e) (T : Top K mg a) (G_l_left : FnOk P w K mg base CX0 2 a.f_l_left a.d_l_left ["_law_clause_here", "_law_held"] (spLeft e K)) : FnOk P w K mg base CX0 3 a.f_l_propagated a.d_l_propagated ["_law_rows", "_law_start"] (spPg e K) := by
  refine T.F_l_propagated.ok sc_l_propagated (fun vs H Q E h => ?_) (fun cdv A' outer s H vs Q E hr h => ?_)
  · obtain ⟨_, _, _, _, _, rfl, _⟩ := h
    rfl
  · obtain ⟨rl, s0, rows, xs, ls, rfl, hrw, rok, hs0, hA, h7, hl, q⟩ := h
    refine ⟨_, (pss_cons (ps_set (i := 2) sc_l_propagated.nd rfl (.inl rfl) (pe_lst pa_nil))
    (pss_cons (ps_set (i := 3) sc_l_propagated.nd rfl (.inl rfl) (pe_lst pa_nil))
    (C8.pss_cut (ps_for PassesOwn.never rfl (R1.PI.or (pi_list (pv 1)) (pi_tup (pv 1))) (pg_name (i := 4) sc_l_propagated.nd rfl (.inl rfl))
      (pss_one (ps_if (pt_cmpR (op_notInDK (u65 hr) rfl) (pv 4) (pv 2) rfl)
        (pss_cons (ps_expr (pe_bm PySem.F.plainAttrs_list PySem.F.slot_list_append PySem.F.type_list_append mt_append (pv 2) (pa_cons (pv 4) pa_nil)))
        (pss_one (ps_expr (pe_bm PySem.F.plainAttrs_list PySem.F.slot_list_append PySem.F.type_list_append mt_append (pv 3) (pa_cons (pe_tup (pa_cons (pv 4) (pa_cons pe_int pa_nil))) pa_nil)))))
        pss_nil)))
    (pss_cons (ps_for PassesOwn.never rfl (pi_range1 (by rfl) T.z_range (pa_cons pe_int pa_nil)) (pg_name (i := 5) sc_l_propagated.nd rfl (.inl rfl))
      (pss_cons (ps_set (i := 6) sc_l_propagated.nd rfl (.inl rfl) pe_non)
      (pss_cons (ps_for PassesOwn.never rfl (R1.PI.or (pi_list (pv 0)) (pi_tup (pv 0))) (pg_name (i := 7) sc_l_propagated.nd rfl (.inl rfl))
        (pss_cons (ps_set (i := 8) sc_l_propagated.nd rfl (.inl rfl) (pe_call G_l_left (hr.mono (by decide)) (by rfl) T.m_l_left T.F_l_left.kp T.b_l_left .nil pass0 (pa_cons (pe_ix ix_seq (pv 7) pe_int (fun _ _ => rfl)) (pa_cons (pv 2) pa_nil))))
        (pss_one (ps_if (PW.pt (pw_and (pt_cmpR op_isN (pv 6) pe_non (nomark _)) (pw_and1 (PW.pt (pw_or (pt_cmpR (OpR.or op_eq (op_eqD hr.units)) (pe_callB (CallR.or call_len_str call_len_seq) (by rfl) T.z_len (by decide +kernel) (pa_cons (pv 8) pa_nil)) pe_int (nomark _)) (pw_or1 (PW.pt (pw_and (pt_cmpR (OpR.or op_eq (op_eqD hr.units)) (pe_callB (CallR.or call_len_str call_len_seq) (by rfl) T.z_len (by decide +kernel) (pa_cons (pv 8) pa_nil)) pe_int (nomark _)) (pw_and1 (pt_cmpR (op_notInDK (u65 hr) rfl) (pe_ix ix_seq (pv 8) pe_int (fun _ _ => rfl)) (pv 2) rfl))))))))))
          (pss_one (ps_set (i := 6) sc_l_propagated.nd rfl (.inl rfl) (pe_lst (pa_cons (pe_ix ix_seq (pv 7) pe_int (fun _ _ => rfl)) (pa_cons (pv 8) pa_nil)))))
          pss_nil))))
      (pss_cons (ps_if (pt_cmpR op_isN (pv 6) pe_non (nomark _))
        (pss_one (ps_ret (pe_lst (pa_cons (pv 3) (pa_cons pe_int pa_nil)))))
        pss_nil)
      (pss_cons (ps_if (pt_cmpR (OpR.or op_eq (op_eqD hr.units)) (pe_callB (CallR.or call_len_str call_len_seq) (by rfl) T.z_len (by decide +kernel) (pa_cons (pe_ix ix_seq (pv 6) pe_int (fun _ _ => rfl)) pa_nil)) pe_int (nomark _))
        (pss_one (ps_ret (pe_lst (pa_cons (pv 3) (pa_cons (pe_ix ix_seq (pv 6) pe_int (fun _ _ => rfl)) pa_nil)))))
        pss_nil)
      (pss_cons (ps_expr (pe_bm PySem.F.plainAttrs_list PySem.F.slot_list_append PySem.F.type_list_append mt_append (pv 2) (pa_cons (pe_ix ix_seq (pe_ix ix_seq (pv 6) pe_int (fun _ _ => rfl)) pe_int (fun _ _ => rfl)) pa_nil)))
      (pss_one (ps_expr (pe_bm PySem.F.plainAttrs_list PySem.F.slot_list_append PySem.F.type_list_append mt_append (pv 3) (pa_cons (pe_tup (pa_cons (pe_ix ix_seq (pe_ix ix_seq (pv 6) pe_int (fun _ _ => rfl)) pe_int (fun _ _ => rfl)) (pa_cons (pe_ix ix_seq (pv 6) pe_int (fun _ _ => rfl)) pa_nil))) pa_nil))))))))))
    (pss_one (ps_ret (pe_lst (pa_cons (pv 3) (pa_cons pe_int pa_nil))))))))), ?_⟩
    refine ⟨Nat.zero_le _, fun hl0 nh => ⟨Nat.zero_le _, fun sl ns => ?_⟩⟩
    have sA : Same H (upd H hl0 (.lst [])) := same_upd nh
    have sB : Same H (upd (upd H hl0 (.lst [])) sl (.lst [])) := sA.trans (same_upd ns)
    have hlA : (upd (upd H hl0 (.lst [])) sl (.lst [])) hl0 = some (.lst []) := (same_upd ns) _ _ upd_same
    have hlB : (upd (upd H hl0 (.lst [])) sl (.lst [])) sl = some (.lst []) := upd_same
    have nsH : H sl = none := sA.free ns
    have hne : sl ≠ hl0 := fun z => by rw [z] at ns; rw [upd_same] at ns; cases ns
    generalize upd (upd H hl0 (.lst [])) sl (.lst []) = H1 at sB hlA hlB ⊢
    -- what the two lists are
    let Two : Hp → List Stp → Prop := fun H2 st => Same H H2 ∧ ∃ hx sx, H2 hl0 = some (.lst hx) ∧ R1.Al (Li e K H2) hx (hs st) ∧ H2 sl = some (.lst sx) ∧ R1.Al (StpV e K H2) sx st
    have two_same : ∀ {H2 H3 : Hp} {st : List Stp}, In7 (hs st) → Same H2 H3 → Two H2 st → Two H3 st := by
      rintro H2 H3 st h73 s3 ⟨s2, hx, sx, a1, a2, a3, a4⟩
      exact ⟨s2.trans s3, hx, sx, s3 _ _ a1, al_tk A h73 (Same.tk s3) a2, s3 _ _ a3, stp_tk A h73 (Same.tk s3) a4⟩
    have st7 : ∀ u, In7 (hs (st0 (ls.take u))) := fun u l hl2 => by
      rw [hs_st0] at hl2
      exact h7 l (List.mem_of_mem_take (dd_sub hl2))
    have xl : xs.length = ls.length := hA.1
    -- a literal more: held.append, steps.append
    have push : ∀ {H2 : Hp} {st : List Stp} {x : V} {l : Lt} (n : Nat) {hx sx : List V}, Same H H2 → H2 hl0 = some (.lst hx) → R1.Al (Li e K H2) hx (hs st) → H2 sl = some (.lst sx) → R1.Al (StpV e K H2) sx st → In7 (hs st) → l.1 < 7 → Li e K H2 x l →
        ∀ Tt, (upd H2 hl0 (.lst (hx ++ [x]))) Tt = none → (upd (upd H2 hl0 (.lst (hx ++ [x]))) Tt (.tup [x, .int (n : Int)])) sl = some (.lst sx) ∧ Two (upd (upd (upd H2 hl0 (.lst (hx ++ [x]))) Tt (.tup [x, .int (n : Int)])) sl (.lst (sx ++ [.ref Tt]))) (st ++ [(l, n)]) := by
      intro H2 st x l n hx sx s2 a1 a2 a3 a4 h73 l7 hli Tt nT
      have k1 : Tk H2 (upd H2 hl0 (.lst (hx ++ [x]))) := tk_upd a1 True.intro
      have b3 : (upd H2 hl0 (.lst (hx ++ [x]))) sl = some (.lst sx) := by rw [upd_ne hne]; exact a3
      have b1 : (upd H2 hl0 (.lst (hx ++ [x]))) hl0 = some (.lst (hx ++ [x])) := upd_same
      have s3 : Same H (upd H2 hl0 (.lst (hx ++ [x]))) := K16.Same.mut s2 nh
      have b2 : R1.Al (Li e K (upd H2 hl0 (.lst (hx ++ [x])))) (hx ++ [x]) (hs (st ++ [(l, n)])) := by
        rw [hs_snoc]
        exact R1.Al.snoc (al_tk A h73 k1 a2) (hli.tk A l7 k1)
      have b4 := stp_tk A h73 k1 a4
      have hli3 := hli.tk A l7 k1
      have h74 : In7 (hs (st ++ [(l, n)])) := fun y hy => by
        rw [hs_snoc] at hy
        rcases List.mem_append.mp hy with hy | hy
        · exact h73 y hy
        · rw [List.mem_singleton.mp hy]; exact l7
      generalize upd H2 hl0 (.lst (hx ++ [x])) = H3 at k1 b1 b2 b3 b4 s3 hli3 nT ⊢
      have sT : Same H3 (upd H3 Tt (.tup [x, .int (n : Int)])) := same_upd nT
      have c3 := sT _ _ b3
      have cT : (upd H3 Tt (.tup [x, .int (n : Int)])) Tt = some (.tup [x, .int (n : Int)]) := upd_same
      have c1 := sT _ _ b1
      have c2 := al_tk A h74 (Same.tk sT) b2
      have c4 := stp_tk A h73 (Same.tk sT) b4
      have c5 := hli3.tk A l7 (Same.tk sT)
      have s4 := s3.trans sT
      generalize upd H3 Tt (.tup [x, .int (n : Int)]) = H4 at sT c1 c2 c3 c4 c5 cT s4 ⊢
      have k5 : Tk H4 (upd H4 sl (.lst (sx ++ [.ref Tt]))) := tk_upd c3 True.intro
      refine ⟨c3, K16.Same.mut s4 nsH, hx ++ [x], sx ++ [.ref Tt], ?_, al_tk A h74 k5 c2, upd_same, R1.Al.snoc (stp_tk A h73 k5 c4) ⟨Tt, x, rfl, sqT_tk k5 (.of cT), c5.tk A l7 k5⟩⟩
      rw [upd_ne (Ne.symm hne)]
      exact c1
    have turn : ∀ (u : Nat) (y : V) (H2 : Hp), u < xs.length → Two H2 (st0 (ls.take u)) → xs[u]? = some y → ∃ l, ls[u]? = some l ∧ Li e K H2 y l ∧ l.1 < 7 := fun u y H2 hu h2 hy => by
      obtain ⟨l, hl2, hli⟩ := hA.at hy
      have l7 := h7 l (List.mem_of_getElem? hl2)
      exact ⟨l, hl2, hli.tk A l7 (Same.tk h2.1), l7⟩
    refine ⟨fun σ' H2 => ∃ y4, σ' = [some (.ref rl), some (.ref s0), some (.ref hl0), some (.ref sl), y4, none, none, none, none] ∧ Two H2 (st0 ls), ?_, ?_⟩
    · have h0 : Two H1 (st0 (ls.take 0)) := ⟨sB, [], [], hlA, R1.Al.nil, hlB, R1.Al.nil⟩
      rcases hs0 with hs0 | hs0
      · refine .inl ⟨.ref s0, rfl, s0, rfl, ⟨_, sqL_same sB hs0⟩, for_it (walk_list (xs := xs)) (fun u σ' H2 => ∃ y4, σ' = [some (.ref rl), some (.ref s0), some (.ref hl0), some (.ref sl), y4, none, none, none, none] ∧ Two H2 (st0 (ls.take u))) ⟨none, rfl, h0⟩ (fun u σ' H2 _ h => by obtain ⟨_, _, h2⟩ := h; exact sqL_same h2.1 hs0) (fun u y σ' _ H2 hu h z => ?_) fun σ' H2 h => ?_⟩
        · obtain ⟨y4, rfl, h2⟩ := h
          obtain ⟨rfl, hy⟩ := z
          obtain ⟨l, hl2, hli, l7⟩ := turn u y _ hu h2 hy
          obtain ⟨s2, hx, sx, a1, a2, a3, a4⟩ := h2
          have h73 := st7 u
          have ld := dd_len (ls.take u)
          rw [List.length_take] at ld
          have l1 : hx.length ≤ 1000 := by rw [a2.1, hs_st0]; omega
          have l2 : sx.length ≤ 1000 := by rw [a4.1]; unfold st0; rw [List.length_map]; omega
          have hdt := dd_take ls u l hl2
          refine ⟨y, rfl, .ref hl0, rfl, eL e l, (hs (st0 (ls.take u))).map (eL e), hli, .lst (.of a1) (al_dps a2), eL_shaped A l7, list_shaped A h73, _, rfl, ?_⟩
          rw [any_eL A l7 h73, hs_st0]
          by_cases c : l ∈ dd (ls.take u)
          · rw [decide_eq_true c]
            rw [if_pos c] at hdt
            refine iteF ⟨_, rfl, s2, hx, sx, a1, ?_, a3, ?_⟩
            · rw [hs_st0, hdt, ← hs_st0]; exact a2
            · unfold st0; rw [hdt]; exact a4
          · rw [decide_eq_false c]
            rw [if_neg c] at hdt
            refine iteT ⟨.ref hl0, rfl, .inl ⟨rfl, _, .of a1⟩, y, rfl, hl0, hx, y, rfl, rfl, a1, small1000 l1, ?_⟩
            refine ⟨.ref sl, rfl, .inl ⟨rfl, sx, .of (by rw [upd_ne hne]; exact a3)⟩, y, rfl, Nat.le_of_lt (small1000 (by simp)), fun Tt nT => ?_⟩
            obtain ⟨p1, p2⟩ := push 0 s2 a1 a2 a3 a4 h73 l7 hli Tt nT
            refine ⟨sl, sx, .ref Tt, rfl, rfl, p1, small1000 l2, _, rfl, ?_⟩
            have : st0 (ls.take (u + 1)) = st0 (ls.take u) ++ [(l, 0)] := by unfold st0; rw [hdt, List.map_append]; rfl
            rw [this]
            exact p2
        · obtain ⟨y4, rfl, h2⟩ := h
          rw [xl, List.take_length] at h2
          exact ⟨y4, rfl, h2⟩
      · refine .inr ⟨.ref s0, rfl, s0, rfl, ⟨_, sqT_tk (Same.tk sB) hs0⟩, for_it (walk_tup (xs := xs)) (fun u σ' H2 => ∃ y4, σ' = [some (.ref rl), some (.ref s0), some (.ref hl0), some (.ref sl), y4, none, none, none, none] ∧ Two H2 (st0 (ls.take u))) ⟨none, rfl, h0⟩ (fun u σ' H2 _ h => by obtain ⟨_, _, h2⟩ := h; exact sqT_tk (Same.tk h2.1) hs0) (fun u y σ' _ H2 hu h z => ?_) fun σ' H2 h => ?_⟩
        · obtain ⟨y4, rfl, h2⟩ := h
          obtain ⟨rfl, hy⟩ := z
          obtain ⟨l, hl2, hli, l7⟩ := turn u y _ hu h2 hy
          obtain ⟨s2, hx, sx, a1, a2, a3, a4⟩ := h2
          have h73 := st7 u
          have ld := dd_len (ls.take u)
          rw [List.length_take] at ld
          have l1 : hx.length ≤ 1000 := by rw [a2.1, hs_st0]; omega
          have l2 : sx.length ≤ 1000 := by rw [a4.1]; unfold st0; rw [List.length_map]; omega
          have hdt := dd_take ls u l hl2
          refine ⟨y, rfl, .ref hl0, rfl, eL e l, (hs (st0 (ls.take u))).map (eL e), hli, .lst (.of a1) (al_dps a2), eL_shaped A l7, list_shaped A h73, _, rfl, ?_⟩
          rw [any_eL A l7 h73, hs_st0]
          by_cases c : l ∈ dd (ls.take u)
          · rw [decide_eq_true c]
            rw [if_pos c] at hdt
            refine iteF ⟨_, rfl, s2, hx, sx, a1, ?_, a3, ?_⟩
            · rw [hs_st0, hdt, ← hs_st0]; exact a2
            · unfold st0; rw [hdt]; exact a4
          · rw [decide_eq_false c]
            rw [if_neg c] at hdt
            refine iteT ⟨.ref hl0, rfl, .inl ⟨rfl, _, .of a1⟩, y, rfl, hl0, hx, y, rfl, rfl, a1, small1000 l1, ?_⟩
            refine ⟨.ref sl, rfl, .inl ⟨rfl, sx, .of (by rw [upd_ne hne]; exact a3)⟩, y, rfl, Nat.le_of_lt (small1000 (by simp)), fun Tt nT => ?_⟩
            obtain ⟨p1, p2⟩ := push 0 s2 a1 a2 a3 a4 h73 l7 hli Tt nT
            refine ⟨sl, sx, .ref Tt, rfl, rfl, p1, small1000 l2, _, rfl, ?_⟩
            have : st0 (ls.take (u + 1)) = st0 (ls.take u) ++ [(l, 0)] := by unfold st0; rw [hdt, List.map_append]; rfl
            rw [this]
            exact p2
        · obtain ⟨y4, rfl, h2⟩ := h
          rw [xl, List.take_length] at h2
          exact ⟨y4, rfl, h2⟩
    · clear turn
      rintro σ1 Ha ⟨y4, rfl, h2a⟩
      have st7' : In7 (hs (st0 ls)) := by have := st7 ls.length; rwa [List.take_length] at this
      have len0 : (st0 ls).length ≤ 20 := by
        unfold st0
        rw [List.length_map]
        have := dd_len ls
        omega
      have ret : ∀ (H2 : Hp) (st : List Stp) (k : Nat), In7 (hs st) → Two H2 st → run 100 rows (st0 ls) = (st, k) → ∀ pq, H2 pq = none → Q (.ref pq) (upd H2 pq (.lst [.ref sl, .int (k : Int)])) := by
        rintro H2 st k h73 ⟨s2, hx, sx, a1, a2, a3, a4⟩ hrun pq npq
        have s3 := same_upd (o := .lst [.ref sl, .int (k : Int)]) npq
        refine q pq sl sx _ (s2.trans s3) (s2.free npq) ?_ (s3 _ _ a3) ?_
        · rw [hrun]; exact upd_same
        · rw [hrun]
          exact stp_tk A h73 (Same.tk s3) a4
      obtain ⟨rv, hrv, hAr⟩ := hrw
      have lr : rv.length = rows.length := hAr.1
      have isN : ∀ {v : V} {σ : L2.St} {H : Hp} {i : Nat} (b : Bool), σ[i]? = some (some v) → decide (v = V.non) = b → Ans (tTest (tOp (fun x y H Q => y = V.non ∧ Q (V.bl (decide (x = V.non))) H) (tVar i) (tC V.non))) σ H b := fun b h e Q q => ⟨_, h, rfl, _, rfl, by rw [e]; exact q⟩
      have rN : ∀ p : Addr, decide (V.ref p = V.non) = false := fun p => decide_eq_false fun z => nomatch z
      have c7 : ∀ {j : Nat} {held : List Lt} {r : Row}, chosen (rows.take j) held = some r → In7 r.2 := fun h => (rok.2 _ (List.mem_of_mem_take (chosen_mem h).1)).2
      refine ⟨100, rfl, by omega, by omega, for_it walk_range (fun i σ' H' => ∃ y4 y5 y6 y7 y8 st, σ' = [some (.ref rl), some (.ref s0), some (.ref hl0), some (.ref sl), y4, y5, y6, y7, y8] ∧ Two H' st ∧ In7 (hs st) ∧ st.length ≤ 20 + i ∧ run (100 - i) rows st = run 100 rows (st0 ls)) ⟨y4, none, none, none, none, st0 ls, rfl, h2a, st7', by omega, rfl⟩ (fun _ _ _ _ _ => trivial) ?_ ?_⟩
      · rintro i x σ' _ H2 hi ⟨y4, y5, y6, y7, y8, st, rfl, h2, h73, hlen, hrun⟩ ⟨rfl, rfl⟩
        have hi' : i < 100 := by omega
        refine .inl ⟨.ref rl, rfl, rl, rfl, ⟨_, sqL_same h2.1 hrv⟩, for_it (walk_list (xs := rv)) (fun j σ' H' => ∃ v6 y7 y8, σ' = [some (.ref rl), some (.ref s0), some (.ref hl0), some (.ref sl), y4, some (.int (0 + (i : Int))), some v6, y7, y8] ∧ Two H' st ∧ ChIs e K hl0 sl H' (hs st) (chosen (rows.take j) (hs st)) v6) ⟨.non, y7, y8, rfl, h2, rfl⟩ (fun j σ' H' _ h => by obtain ⟨_, _, _, _, h2, _⟩ := h; exact sqL_same h2.1 hrv) ?_ ?_⟩
        · rintro j xr σ' _ H3 hj ⟨v6, y7, y8, rfl, h3, hch⟩ ⟨rfl, hxr⟩
          obtain ⟨r, hr2, hrw⟩ := hAr.at hxr
          have rm := List.mem_of_getElem? hr2
          obtain ⟨rl60, r7⟩ := rok.2 r rm
          obtain ⟨b, c0, rfl, hb, xs0, hxs0, hA0⟩ := hrw.same A r7 h3.1
          obtain ⟨s3, hx, sx, a1, a2, a3, a4⟩ := id h3
          refine ixv 1 rfl (.of hb) rfl ⟨.ref hl0, rfl, c0, hl0, xs0, hx, r.2, hs st, rfl, hxs0, hA0, by omega, r7, .of a1, a2, h73, fun lf ys H4 s4 nlf hlf hB => ?_⟩
          have h4 := two_same h73 s4 h3
          obtain ⟨_, hx4, sx4, b1, b2, b3, b4⟩ := id h4
          have hb4 := s4 _ _ hb
          have hch4 := hch.same A (fun r hr => c7 hr) s4
          cases hc : chosen (rows.take j) (hs st) with
          | some r1 =>
            rw [hc] at hch4
            obtain ⟨c, lf1, ys1, rfl, d1, d2, d3⟩ := hch4
            refine if_ans (b := false) (ans_and0 (isN false rfl (rN c))) (fun z => nomatch z) (fun _ => ⟨_, _, _, rfl, h4, ?_⟩)
            rw [chosen_some hr2 hc]
            exact ⟨c, lf1, ys1, rfl, d1, d2, d3⟩
          | none =>
            rw [hc] at hch4
            obtain rfl : v6 = V.non := hch4
            have ly : ys.length = (left r.2 (hs st)).length := hB.1
            have len : ∀ n : Nat, Ans (tTest (tOp (rEqq K) (tCB (rLn K) (tCons (tVar 8) tNil)) (tC (.int (n : Int))))) [some (.ref rl), some (.ref s0), some (.ref hl0), some (.ref sl), y4, some (.int (0 + (i : Int))), some .non, some (.ref b), some (.ref lf)] H4 (decide ((left r.2 (hs st)).length = n)) := fun n => by
              have := len_eq (K := K) (i := 8) (n := n) (p := lf) (ys := ys) (σ := [some (.ref rl), some (.ref s0), some (.ref hl0), some (.ref sl), y4, some (.int (0 + (i : Int))), some .non, some (.ref b), some (.ref lf)]) (H := H4) rfl (.inl (.of hlf))
              rw [ly] at this
              exact this
            have inner : Ans (tOr (tTest (tOp (rEqq K) (tCB (rLn K) (tCons (tVar 8) tNil)) (tC (.int 0)))) (tAnd (tTest (tOp (rEqq K) (tCB (rLn K) (tCons (tVar 8) tNil)) (tC (.int 1)))) (tTest (tOp (rNotInD K) (tOp (rIx K) (tVar 8) (tC (.int 0))) (tVar 2)))))
                [some (.ref rl), some (.ref s0), some (.ref hl0), some (.ref sl), y4, some (.int (0 + (i : Int))), some .non, some (.ref b), some (.ref lf)] H4 (fires r.2 (hs st)) := by
              cases hL : left r.2 (hs st) with
              | nil =>
                have := len 0
                rw [hL] at this
                rw [fires_nil hL]
                exact ans_or1 this
              | cons l ls1 =>
                have l0 := len 0
                rw [hL, decide_eq_false (by simp)] at l0
                refine ans_or l0 ?_
                cases ls1 with
                | nil =>
                  have l1 := len 1
                  rw [hL, decide_eq_true (by rfl)] at l1
                  rw [fires_one' hL]
                  refine ans_and l1 fun Q' q' => ?_
                  rw [hL] at hB
                  obtain ⟨y, hy⟩ : ∃ y, ys = [y] := List.length_eq_one_iff.mp hB.1
                  subst hy
                  have l7 : l.1 < 7 := r7 l (by
                    have : l ∈ left r.2 (hs st) := by rw [hL]; exact List.mem_cons_self
                    exact (List.mem_filter.mp this).1)
                  refine ixv 0 rfl (.of hlf) rfl ⟨.ref hl0, rfl, eL e l, (hs st).map (eL e), hB.2 0 y l rfl rfl, .lst (.of b1) (al_dps b2), eL_shaped A l7, list_shaped A h73, _, rfl, ?_⟩
                  rw [any_eL A l7 h73]
                  exact q'
                | cons m ls2 =>
                  have l1 := len 1
                  rw [hL, decide_eq_false (by simp)] at l1
                  rw [fires_more hL]
                  exact ans_and0 l1
            refine if_ans (ans_and (isN true rfl (by simp)) inner) (fun z => ?_) (fun z => ⟨_, _, _, rfl, h4, ?_⟩)
            · refine ixv 0 rfl (.of hb4) rfl ⟨.ref lf, rfl, Nat.le_of_lt (small1000 (by simp)), fun c nc => ⟨_, _, _, rfl, two_same h73 (same_upd nc) h4, ?_⟩⟩
              rw [chosen_new hr2 hc z]
              have sc := same_upd (o := .lst [.int (r.1 : Int), .ref lf]) nc
              exact ⟨c, lf, ys, rfl, upd_same, sc _ _ hlf, al_tk A (in7_l r7) (Same.tk sc) hB, Ne.symm (ne_of_none b1 nc), Ne.symm (ne_of_none b3 nc), Ne.symm (ne_of_none a1 nlf), Ne.symm (ne_of_none a3 nlf)⟩
            · rw [chosen_take hr2 hc z]
              exact rfl
        · rintro σ' H3 ⟨v6, y7, y8, rfl, h3, hch⟩
          rw [lr, List.take_length] at hch
          have c7' : ∀ r, chosen rows (hs st) = some r → In7 r.2 := fun r h => (rok.2 _ (chosen_mem h).1).2
          cases hc : chosen rows (hs st) with
          | none =>
            rw [hc] at hch
            obtain rfl : v6 = V.non := hch
            refine if_ans (isN true rfl (by simp)) (fun _ => ?_) (fun z => nomatch z)
            exact ⟨.ref sl, rfl, Nat.le_of_lt (small1000 (by simp)), ret H3 st 0 h73 h3 (by rw [← hrun]; exact run_none (by omega) hc)⟩
          | some r =>
            rw [hc] at hch
            obtain ⟨c, lf, ys, rfl, d1, d2, d3, n1, n2, n3, n4⟩ := hch
            have r7 := c7' r hc
            refine if_ans (isN false rfl (rN c)) (fun z => nomatch z) (fun _ => ?_)
            have ly : ys.length = (left r.2 (hs st)).length := d3.1
            have tl : Ans (tTest (tOp (rEqq K) (tCB (rLn K) (tCons (tOp (rIx K) (tVar 6) (tC (.int 1))) tNil)) (tC (.int 0)))) [some (.ref rl), some (.ref s0), some (.ref hl0), some (.ref sl), y4, some (.int (0 + (i : Int))), some (.ref c), y7, y8] H3 (decide ((left r.2 (hs st)).length = 0)) := fun Q' q' => by
              have : decide ((ys.length : Int) = 0) = decide ((left r.2 (hs st)).length = 0) := by rw [Bool.eq_iff_iff, decide_eq_true_eq, decide_eq_true_eq]; omega
              refine ixv 1 rfl (.of d1) rfl (.inr ⟨lf, ys, rfl, .inl (.of d2), eqi ?_⟩)
              rw [this]
              exact q'
            refine if_ans tl (fun z => ?_) (fun z => ?_)
            · have hL : left r.2 (hs st) = [] := List.length_eq_zero_iff.mp (of_decide_eq_true z)
              exact ⟨.ref sl, rfl, ixv 0 rfl (.of d1) rfl ⟨Nat.le_of_lt (small1000 (by simp)), ret H3 st r.1 h73 h3 (by rw [← hrun]; exact run_clash (by omega) hc hL)⟩⟩
            · cases hL : left r.2 (hs st) with
              | nil => rw [hL] at z; cases z
              | cons l ls1 =>
                rw [hL] at d3 ly
                obtain ⟨y, ys1, rfl⟩ : ∃ y ys1, ys = y :: ys1 := by
                  cases ys with
                  | nil => simp at ly
                  | cons y ys1 => exact ⟨y, ys1, rfl⟩
                have hli := d3.2 0 y l rfl rfl
                have l7 : l.1 < 7 := r7 l (by
                  have : l ∈ left r.2 (hs st) := by rw [hL]; exact List.mem_cons_self
                  exact (List.mem_filter.mp this).1)
                obtain ⟨s3, hx, sx, a1, a2, a3, a4⟩ := h3
                have l1 : hx.length ≤ 1000 := by rw [a2.1]; unfold hs; rw [List.length_map]; omega
                have l2 : sx.length ≤ 1000 := by rw [a4.1]; omega
                refine ⟨.ref hl0, rfl, .inl ⟨rfl, _, .of a1⟩, ixv 1 rfl (.of d1) rfl (.inl ⟨lf, y :: ys1, (0 : Nat), y, rfl, rfl, .of d2, atI_nat rfl, hl0, hx, y, rfl, rfl, a1, small1000 l1, ?_⟩)⟩
                have d1b : (upd H3 hl0 (.lst (hx ++ [y]))) c = some (.lst [.int (r.1 : Int), .ref lf]) := by rw [upd_ne n1]; exact d1
                have d2b : (upd H3 hl0 (.lst (hx ++ [y]))) lf = some (.lst (y :: ys1)) := by rw [upd_ne n3]; exact d2
                refine ⟨.ref sl, rfl, .inl ⟨rfl, sx, .of (by rw [upd_ne hne]; exact a3)⟩, ixv 1 rfl (.of d1b) rfl (.inl ⟨lf, y :: ys1, (0 : Nat), y, rfl, rfl, .of d2b, atI_nat rfl, ixv 0 rfl (.of d1b) rfl ⟨Nat.le_of_lt (small1000 (by simp)), fun Tt nT => ?_⟩⟩)⟩
                obtain ⟨p1, p2⟩ := push r.1 s3 a1 a2 a3 a4 h73 l7 hli Tt nT
                refine ⟨sl, sx, .ref Tt, rfl, rfl, p1, small1000 l2, y4, some (.int (0 + (i : Int))), some (.ref c), y7, y8, st ++ [(l, r.1)], rfl, p2, ?_, by rw [List.length_append]; simp; omega, ?_⟩
                · intro m hm
                  rw [hs_snoc] at hm
                  rcases List.mem_append.mp hm with hm | hm
                  · exact h73 m hm
                  · rw [List.mem_singleton.mp hm]; exact l7
                · rw [← hrun]
                  have e100 : 100 - i = (100 - (i + 1)) + 1 := by omega
                  rw [e100]
                  exact (run_next hc hL).symm
      · rintro σ' H2 ⟨y4, y5, y6, y7, y8, st, rfl, h2, h73, hlen, hrun⟩
        exact ⟨.ref sl, rfl, Nat.le_of_lt (small1000 (by simp)), ret H2 st 0 h73 h2 (by rw [← hrun]; rfl)⟩
end
end K16


/-! the rows as a dict, the rows by label -/
namespace K16
open PySem PySem.Spec PyProof.Rows L2 RN
section
variable {P : Program} {w : World} {K : PySem.W.Frag} {mg : Str → Option Value} {base : Heap} {a : Ad} {e : Nat → PyData}
def KvIs (e : Nat → PyData) (K : PySem.W.Frag) (H : Hp) (kvs : List (Key × V)) (rows : List Row) : Prop := kvs.length = rows.length ∧ ∀ (i : Nat) (p : Key × V) (r : Row), kvs[i]? = some p → rows[i]? = some r → p.1 = Sum.inl (r.1 : Int) ∧ ∃ c0, p.2 = .ref c0 ∧ ClIs e K H c0 r.2
theorem KvIs.tk (A : AtOk e) {H H' : Hp} {kvs : List (Key × V)} {rows : List Row} (ok : RsOk rows) (t : Tk H H') (h : KvIs e K H kvs rows) : KvIs e K H' kvs rows :=
  ⟨h.1, fun i p r a b => let ⟨h1, c0, h2, h3⟩ := h.2 i p r a b; ⟨h1, c0, h2, h3.tk A t (ok.2 r (List.mem_of_getElem? b)).2⟩⟩
theorem kv_keys {H : Hp} {kvs : List (Key × V)} {rows : List Row} (h : KvIs e K H kvs rows) : KsIs kvs (rows.map (·.1)) := by
  refine List.ext_getElem? fun i => ?_
  rw [List.getElem?_map, List.map_map, List.getElem?_map]
  cases hr : rows[i]? with
  | none =>
    have : kvs[i]? = none := by
      rw [List.getElem?_eq_none_iff] at hr ⊢
      rw [h.1]; exact hr
    rw [this]; rfl
  | some r =>
    have lt := (List.getElem?_eq_some_iff.mp hr).1
    have lt2 : i < kvs.length := by rw [h.1]; exact lt
    have g : kvs[i]? = some kvs[i] := List.getElem?_eq_getElem lt2
    rw [g]
    exact congrArg some (h.2 i _ r g hr).1
theorem kv_mem {H : Hp} {kvs : List (Key × V)} {rows : List Row} (h : KvIs e K H kvs rows) : ∀ p ∈ kvs, (∃ n, p.1 = Sum.inl n) ∧ ∃ c, p.2 = .ref c := fun p hp => by
  obtain ⟨i, hi⟩ := List.mem_iff_getElem?.mp hp
  have lt := (List.getElem?_eq_some_iff.mp hi).1
  have lt2 : i < rows.length := by rw [← h.1]; exact lt
  have g : rows[i]? = some rows[i] := List.getElem?_eq_getElem lt2
  obtain ⟨h1, c0, h2, _⟩ := h.2 i p _ hi g
  exact ⟨⟨_, h1⟩, c0, h2⟩
theorem KvIs.snoc {H : Hp} {kvs : List (Key × V)} {rows : List Row} {r : Row} {c0 : Addr} (h : KvIs e K H kvs rows) (hc : ClIs e K H c0 r.2) : KvIs e K H (kvs ++ [(Sum.inl (r.1 : Int), .ref c0)]) (rows ++ [r]) := by
  refine ⟨by simp [h.1], fun i p q hp hq => ?_⟩
  by_cases lt : i < kvs.length
  · rw [List.getElem?_append_left lt] at hp
    rw [List.getElem?_append_left (by rw [← h.1]; exact lt)] at hq
    exact h.2 i p q hp hq
  · rw [List.getElem?_append_right (by omega)] at hp
    rw [List.getElem?_append_right (by rw [← h.1]; omega), ← h.1] at hq
    cases z : i - kvs.length with
    | zero => rw [z] at hp hq; cases hp; cases hq; exact ⟨rfl, c0, rfl, hc⟩
    | succ k => rw [z] at hp; simp at hp
theorem val_find (kvs : List (Key × V)) (k : Key) : valV kvs k = (kvs.find? fun kv => decide (kv.1 = k)).map (·.2) := rfl
theorem kv_find {H : Hp} : ∀ {kvs : List (Key × V)} {rows : List Row}, KvIs e K H kvs rows → (rows.map (·.1)).Nodup → ∀ r ∈ rows, ∃ c0, valV kvs (.inl (r.1 : Int)) = some (.ref c0) ∧ ClIs e K H c0 r.2
  | [], [], _, _, r, hr => nomatch hr
  | [], _ :: _, h, _, _, _ => by have := h.1; simp at this
  | _ :: _, [], _, _, r, hr => nomatch hr
  | p :: kvs, r0 :: rows, h, nd, r, hr => by
    obtain ⟨h1, c0, h2, h3⟩ := h.2 0 p r0 rfl rfl
    have tl : KvIs e K H kvs rows := ⟨Nat.succ.inj h.1, fun i q s a b => h.2 (i + 1) q s (by simpa using a) (by simpa using b)⟩
    rw [List.map_cons, List.nodup_cons] at nd
    rw [val_find, List.find?_cons]
    rcases List.mem_cons.mp hr with rfl | hr
    · rw [h1]
      simp only [decide_true]
      exact ⟨c0, by rw [← h2]; rfl, h3⟩
    · have ne : ¬ p.1 = Sum.inl (r.1 : Int) := fun z => by
        rw [h1] at z
        have z2 : (r0.1 : Int) = (r.1 : Int) := Sum.inl.inj z
        exact nd.1 (List.mem_map.mpr ⟨r, hr, by omega⟩)
      simp only [ne, decide_false]
      obtain ⟨c1, e1, e2⟩ := kv_find tl nd.2 r hr
      exact ⟨c1, by rw [← e1, val_find], e2⟩
def spDict (e : Nat → PyData) (K : PySem.W.Frag) : Sp := fun vs H Q _ => ∃ (rl : Addr) (rows : List Row), vs = [.ref rl] ∧ RwsIs e K H rl rows ∧ RsOk rows ∧ (rows.map (·.1)).Nodup ∧ ∀ d kvs H', Same H H' → H d = none → H' d = some (.dK kvs) → KvIs e K H' kvs rows → Q (.ref d) H'
theorem ok_dict (A : AtOk e) (T : Top K mg a) : FnOk P w K mg base CX0 1 a.f_l_dict a.d_l_dict ["_law_rows"] (spDict e K) := by
  refine T.F_l_dict.ok sc_l_dict (fun vs H Q E h => ?_) (fun cdv A' outer s H vs Q E hr h => ?_)
  · obtain ⟨_, _, rfl, _⟩ := h
    rfl
  · obtain ⟨rl, rows, rfl, ⟨rv, hrv, hAr⟩, rok, nd, q⟩ := h
    refine ⟨_, (pss_cons (ps_set (i := 1) sc_l_dict.nd rfl (.inl rfl) pe_dnewK)
    (pss_cons (ps_for PassesOwn.never rfl (R1.PI.or (pi_list (pv 0)) (pi_tup (pv 0))) (pg_name (i := 2) sc_l_dict.nd rfl (.inl rfl))
      (pss_one (ps_asg (pe_ix ix_seq (pv 2) pe_int (fun _ _ => rfl)) (pg_sub (pv 1) (pe_ix ix_seq (pv 2) pe_int (fun _ _ => rfl)) (set_dict (hu_of hr))))))
    (pss_one (ps_ret (pv 1))))), ?_⟩
    refine fun d nd' => ?_
    have lr : rv.length = rows.length := hAr.1
    have rl60 := rok.1
    refine .inl ⟨.ref rl, rfl, rl, rfl, ⟨_, sqL_same (same_upd nd') hrv⟩, for_it (walk_list (xs := rv)) (fun j σ' H' => ∃ y2 kvs, σ' = [some (.ref rl), some (.ref d), y2] ∧ Same H H' ∧ H' d = some (.dK kvs) ∧ KvIs e K H' kvs (rows.take j)) ⟨none, [], rfl, same_upd nd', upd_same, rfl, fun i p r h => by simp at h⟩ (fun j σ' H' _ h => by obtain ⟨_, _, _, s2, _⟩ := h; exact sqL_same s2 hrv) ?_ ?_⟩
    · rintro j xr σ' _ H2 hj ⟨y2, kvs, rfl, s2, hd, hK⟩ ⟨rfl, hxr⟩
      obtain ⟨r, hr2, hrw⟩ := hAr.at hxr
      have rm := List.mem_of_getElem? hr2
      obtain ⟨b, c0, rfl, hb, hc⟩ := hrw.same A (rok.2 r rm).2 s2
      have kl : kvs.length ≤ 60 := by rw [hK.1, List.length_take]; omega
      refine ixv 1 rfl (.of hb) rfl ⟨.ref d, rfl, ixv 0 rfl (.of hb) rfl ⟨d, upd H2 d (.dK (putK kvs (.inl (r.1 : Int)) (.ref c0))), rfl, DPut.k (k := Sum.inl (r.1 : Int)) hd (small1000 (by omega)), _, _, rfl, K16.Same.mut s2 nd', upd_same, ?_⟩⟩
      have ks := kv_keys hK
      have fresh : (kvs.any fun kv => decide (kv.1 = Sum.inl (r.1 : Int))) = false := by
        rw [List.any_eq_false]
        intro p hp z
        have z2 := of_decide_eq_true z
        have m : (Sum.inl (r.1 : Int) : Key) ∈ kvs.map (·.1) := List.mem_map.mpr ⟨p, hp, z2⟩
        rw [ks] at m
        obtain ⟨n, hn, e1⟩ := List.mem_map.mp m
        have e2 : (n : Int) = (r.1 : Int) := Sum.inl.inj e1
        obtain ⟨r1, hr1, e3⟩ := List.mem_map.mp hn
        have lt := (List.getElem?_eq_some_iff.mp hr2).1
        have g : (rows.map (·.1)) = (rows.take j).map (·.1) ++ (rows.drop j).map (·.1) := by rw [← List.map_append, List.take_append_drop]
        rw [g] at nd
        have dj := (List.nodup_append.mp nd).2.2
        refine dj r1.1 (List.mem_map.mpr ⟨r1, hr1, rfl⟩) r.1 ?_ (by omega)
        have : rows.drop j = rows[j] :: rows.drop (j + 1) := List.drop_eq_getElem_cons lt
        rw [this]
        have gj : rows[j] = r := (List.getElem?_eq_some_iff.mp hr2).2
        rw [gj]
        exact List.mem_cons_self
      have pk : putK kvs (.inl (r.1 : Int)) (.ref c0) = kvs ++ [(.inl (r.1 : Int), .ref c0)] := by
        unfold putK
        rw [fresh, if_neg (by decide)]
      have et : rows.take (j + 1) = rows.take j ++ [r] := by rw [List.take_add_one, hr2]; rfl
      have tD : Tk H2 (upd H2 d (.dK (putK kvs (.inl (r.1 : Int)) (.ref c0)))) := tk_upd hd True.intro
      rw [et]
      have okt : RsOk (rows.take j) := ⟨by rw [List.length_take]; omega, fun r hr => rok.2 r (List.mem_of_mem_take hr)⟩
      have := (hK.tk A okt tD).snoc (r := r) (c0 := c0) (hc.tk A tD (rok.2 r rm).2)
      rw [← pk] at this
      exact this
    · rintro σ' H2 ⟨y2, kvs, rfl, s2, hd, hK⟩
      rw [lr, List.take_length] at hK
      exact ⟨_, rfl, q d kvs H2 s2 nd' hd hK⟩
end
end K16


/-! the rows by label -/
namespace R1
theorem ix_seqK {X : L2.Cx} {K : PySem.W.Frag} (hK : X.K = K) : L2.IxR X (L2.rIx K) := by subst hK; exact L2.ix_seq
end R1
namespace K16
open PySem PySem.Spec PyProof.Rows L2 RN
section
variable {P : Program} {w : World} {K : PySem.W.Frag} {mg : Str → Option Value} {base : Heap} {a : Ad} {e : Nat → PyData}
def Rof (rows : List Row) (n : Nat) : List Lt := ((rows.find? fun r => decide (r.1 = n)).map (·.2)).getD []
theorem Rof_mem : ∀ {rows : List Row}, (rows.map (·.1)).Nodup → ∀ r ∈ rows, Rof rows r.1 = r.2
  | [], _, r, hr => nomatch hr
  | r0 :: rows, nd, r, hr => by
    rw [List.map_cons, List.nodup_cons] at nd
    unfold Rof
    rw [List.find?_cons]
    rcases List.mem_cons.mp hr with rfl | hr
    · simp
    · have ne : ¬ r0.1 = r.1 := fun z => nd.1 (List.mem_map.mpr ⟨r, hr, z.symm⟩)
      simp only [ne, decide_false]
      exact Rof_mem nd.2 r hr
theorem rows_of {rows : List Row} (nd : (rows.map (·.1)).Nodup) : rowsOf (Rof rows) (rows.map (·.1)) = rows := by
  unfold rowsOf
  rw [List.map_map]
  have : ∀ l : List Row, (∀ r ∈ l, r ∈ rows) → l.map ((fun n => (n, Rof rows n)) ∘ (·.1)) = l := by
    intro l
    induction l with
    | nil => intro _; rfl
    | cons r l ih =>
      intro h
      rw [List.map_cons, ih fun x hx => h x (List.mem_cons_of_mem _ hx)]
      congr 1
      exact Prod.ext rfl (Rof_mem nd r (h r List.mem_cons_self))
  exact this rows fun _ h => h
/-- a row stays one while a list of rows grows -/
theorem rw_upd (A : AtOk e) {H : Hp} {D : Addr} {acc ys : List V} {rows : List Row} (hD : H D = some (.lst acc)) (hA : R1.Al (RwIs e K H) acc rows) {x : V} {r : Row} (h7 : In7 r.2) (h : RwIs e K H x r) : RwIs e K (upd H D (.lst ys)) x r := by
  obtain ⟨b, c0, rfl, h1, h2⟩ := h
  refine ⟨b, c0, rfl, ?_, h2.tk A (tk_upd hD True.intro) h7⟩
  rw [upd_ne fun z => ?_]
  · exact h1
  · rw [z, hD] at h1
    cases h1
    obtain ⟨r1, _, b1, c1, e1, _⟩ := hA.at (i := 0) (x := .int (r.1 : Int)) rfl
    cases e1
def spBy (e : Nat → PyData) (K : PySem.W.Frag) : Sp := fun vs H Q _ => ∃ (rl : Addr) (rows : List Row), vs = [.ref rl] ∧ RwsIs e K H rl rows ∧ RsOk rows ∧ (rows.map (·.1)).Nodup ∧ ∀ p H', Same H H' → H p = none → RwsIs e K H' p (rowsOf (Rof rows) (srtN (rows.map (·.1)))) → Q (.ref p) H'
theorem ok_by (A : AtOk e) (T : Top K mg a) (G_l_dict : FnOk P w K mg base CX0 1 a.f_l_dict a.d_l_dict ["_law_rows"] (spDict e K)) : FnOk P w K mg base CX0 2 a.f_l_by_label a.d_l_by_label ["_law_rows"] (spBy e K) := by
  refine T.F_l_by_label.ok sc_l_by_label (fun vs H Q E h => ?_) (fun cdv A' outer s H vs Q E hr h => ?_)
  · obtain ⟨_, _, rfl, _⟩ := h
    rfl
  · obtain ⟨rl, rows, rfl, hrw, rok, nd, q⟩ := h
    refine ⟨_, (pss_cons (ps_set (i := 1) sc_l_by_label.nd rfl (.inr rfl) (pe_call G_l_dict (hr.mono (by decide)) (by rfl) T.m_l_dict T.F_l_dict.kp T.b_l_dict .nil pass0 (pa_cons (pv 0) pa_nil)))
    (pss_one (ps_ret (pe_lc (own := [("_law_label", 2)]) rfl sc_l_by_label.nd (R1.PI.or (pi_list (pe_callB (R0.cr_sortD hr.units) (by rfl) T.z_sorted (by decide +kernel) (pa_cons (pe_lc (own := [("_law_row", 3)]) rfl sc_l_by_label.nd (R1.PI.or (pi_list (pv 0)) (pi_tup (pv 0))) (blkOk_by (own := [("_law_row", 3)]) (N := ["_law_rows", "_law_table", "_law_label", "_law_row"]) (sc := defScope s_l_by_label) (by decide +kernel)) (fun _ _ _ _ _ => (pg_name (i := 3) sc_l_by_label.nd rfl (.inl rfl))) (fun _ _ _ _ _ => pts_nil) (fun _ _ _ _ _ => (pe_ix (R1.ix_seqK (K := K) rfl) (pv 3) pe_int (fun _ _ => rfl)))) pa_nil))) (pi_tup (pe_callB (R0.cr_sortD hr.units) (by rfl) T.z_sorted (by decide +kernel) (pa_cons (pe_lc (own := [("_law_row", 3)]) rfl sc_l_by_label.nd (R1.PI.or (pi_list (pv 0)) (pi_tup (pv 0))) (blkOk_by (own := [("_law_row", 3)]) (N := ["_law_rows", "_law_table", "_law_label", "_law_row"]) (sc := defScope s_l_by_label) (by decide +kernel)) (fun _ _ _ _ _ => (pg_name (i := 3) sc_l_by_label.nd rfl (.inl rfl))) (fun _ _ _ _ _ => pts_nil) (fun _ _ _ _ _ => (pe_ix (R1.ix_seqK (K := K) rfl) (pv 3) pe_int (fun _ _ => rfl)))) pa_nil)))) (blkOk_by (own := [("_law_label", 2)]) (N := ["_law_rows", "_law_table", "_law_label", "_law_row"]) (sc := defScope s_l_by_label) (by decide +kernel)) (fun _ _ _ _ _ => (pg_name (i := 2) sc_l_by_label.nd rfl (.inl rfl))) (fun _ _ _ _ _ => pts_nil) (fun _ _ _ _ _ => (pe_lst (pa_cons (pv 2) (pa_cons (pe_dget (hu_of hr) (pv 1) (pv 2) (fun _ _ => rfl)) pa_nil)))))))), ?_⟩
    refine ⟨.ref rl, rfl, rl, rows, rfl, hrw, rok, nd, fun d kvs H1 s1 nd1 hd hK => ?_⟩
    obtain ⟨rv, hrv, hAr⟩ := rws_same A rok s1 hrw
    have lr : rv.length = rows.length := hAr.1
    have rl60 := rok.1
    refine .inl (.inl ⟨.ref rl, rfl, rl, rfl, ⟨_, hrv⟩, fun D nD => R1.walk_it (walk_list (xs := rv)) (fun u H2 => Same H1 H2 ∧ H2 D = some (.lst (ivN ((rows.map (·.1)).take u)))) ⟨same_upd nD, upd_same⟩ (fun u H2 _ h => sqL_same h.1 hrv) ?_ ?_⟩)
    · rintro u x _ H2 hu ⟨s2, hD⟩ ⟨rfl, hx⟩
      obtain ⟨r, hr2, b, c0, rfl, hb, _⟩ := hAr.at hx
      have et : (rows.map (·.1)).take (u + 1) = (rows.map (·.1)).take u ++ [r.1] := by rw [List.take_add_one, List.getElem?_map, hr2]; rfl
      refine ⟨rfl, .ref b, rfl, .inl ⟨b, _, (0 : Nat), .int (r.1 : Int), rfl, rfl, .of (s2 _ _ hb), atI_nat rfl, _, hD, ?_, K16.Same.mut s2 nD, ?_⟩⟩
      · unfold ivN
        rw [List.length_map, List.length_take]
        exact small1000 (by omega)
      · rw [upd_same, et]
        unfold ivN
        rw [List.map_append]; rfl
    · rintro H2 ⟨s2, hD⟩
      rw [lr] at hD
      have e1 : (rows.map (·.1)).take rows.length = rows.map (·.1) := by
        have : rows.length = (rows.map (·.1)).length := by rw [List.length_map]
        rw [this, List.take_length]
      rw [e1] at hD
      dsimp only [tNil]
      refine sorted_iv (.of hD) fun l nl => ?_
      have s3 := s2.trans (same_upd (o := .lst (ivN (srtN (rows.map (·.1))))) nl)
      have hl3 : (upd H2 l (.lst (ivN (srtN (rows.map (·.1)))))) l = _ := upd_same
      generalize upd H2 l (.lst (ivN (srtN (rows.map (·.1))))) = H3 at s3 hl3 ⊢
      obtain ⟨ks, hks⟩ : ∃ ks, ks = srtN (rows.map (·.1)) := ⟨_, rfl⟩
      rw [← hks] at hl3
      have kl : ks.length ≤ 60 := by rw [hks, srtN_len, List.length_map]; exact rl60
      have kmem : ∀ n ∈ ks, ∃ r ∈ rows, r.1 = n := fun n hn => by
        rw [hks] at hn
        obtain ⟨r, h1, h2⟩ := List.mem_map.mp ((srtN_perm _).mem_iff.mp hn)
        exact ⟨r, h1, h2⟩
      refine ⟨l, rfl, ⟨_, .of hl3⟩, fun D2 nD2 => R1.walk_it (walk_list (xs := ivN ks)) (fun u H4 => Same H3 H4 ∧ ∃ acc, H4 D2 = some (.lst acc) ∧ R1.Al (RwIs e K H4) acc ((rowsOf (Rof rows) ks).take u)) ⟨same_upd nD2, [], upd_same, R1.Al.nil⟩ (fun u H4 _ h => sqL_same h.1 (.of hl3)) ?_ ?_⟩
      · rintro u x _ H4 hu ⟨s4, acc, hD4, hB⟩ ⟨rfl, hx⟩
        obtain ⟨n, hn, rfl⟩ : ∃ n : Nat, ks[u]? = some n ∧ x = V.int (n : Int) := by
          unfold ivN at hx
          rw [List.getElem?_map] at hx
          cases g : ks[u]? with
          | none => rw [g] at hx; cases hx
          | some n => rw [g] at hx; exact ⟨n, rfl, (Option.some.inj hx).symm⟩
        obtain ⟨r, rm, rfl⟩ := kmem n (List.mem_of_getElem? hn)
        have s14 := s3.trans s4
        obtain ⟨c0, hv, hc⟩ := kv_find (hK.tk A rok (Same.tk s14)) nd r rm
        have gr : (rowsOf (Rof rows) ks)[u]? = some r := by
          unfold rowsOf
          rw [List.getElem?_map, hn]
          exact congrArg some (Prod.ext rfl (Rof_mem nd r rm))
        have et : (rowsOf (Rof rows) ks).take (u + 1) = (rowsOf (Rof rows) ks).take u ++ [r] := by rw [List.take_add_one, gr]; rfl
        have la : acc.length ≤ 1000 := by
          have := hB.1
          rw [List.length_take] at this
          unfold rowsOf at this
          rw [List.length_map] at this
          omega
        refine ⟨rfl, .int (r.1 : Int), rfl, .ref d, rfl, .int (r.1 : Int), rfl, d, .ref c0, rfl, .inl ⟨kvs, .inl (r.1 : Int), .inl (s14 _ _ hd), rfl, hv.symm⟩, Nat.le_of_lt (small1000 (by simp)), fun b nb => ?_⟩
        have s5 := same_upd (o := .lst [.int (r.1 : Int), .ref c0]) nb
        have hD5 := s5 _ _ hD4
        have hb5 : (upd H4 b (.lst [.int (r.1 : Int), .ref c0])) b = _ := upd_same
        have bD : b ≠ D2 := fun z => by rw [z, hD4] at nb; cases nb
        refine ⟨acc, hD5, small1000 la, K16.Same.mut (s4.trans s5) nD2, _, upd_same, ?_⟩
        have hB5 : R1.Al (RwIs e K (upd H4 b (.lst [.int (r.1 : Int), .ref c0]))) acc ((rowsOf (Rof rows) ks).take u) := ⟨hB.1, fun i x q a1 a2 => (hB.2 i x q a1 a2).same A (by
          have qm : q ∈ rowsOf (Rof rows) ks := List.mem_of_mem_take (List.mem_of_getElem? a2)
          obtain ⟨n1, hn1, rfl⟩ := List.mem_map.mp qm
          obtain ⟨r1, rm1, rfl⟩ := kmem n1 hn1
          show In7 (Rof rows r1.1)
          rw [Rof_mem nd r1 rm1]
          exact (rok.2 r1 rm1).2) s5⟩
        have hc5 := hc.tk A (Same.tk s5) (rok.2 r rm).2
        have nb1 : ∀ (x : V) (q : Row), RwIs e K (upd H4 b (.lst [.int (r.1 : Int), .ref c0])) x q → True := fun _ _ _ => trivial
        rw [et]
        generalize upd H4 b (.lst [.int (r.1 : Int), .ref c0]) = H5 at hD5 hb5 hB5 hc5 s5 ⊢
        have q7 : ∀ (i : Nat) (q : Row), ((rowsOf (Rof rows) ks).take u)[i]? = some q → In7 q.2 := fun i q a2 => by
          obtain ⟨n1, hn1, rfl⟩ := List.mem_map.mp (List.mem_of_mem_take (List.mem_of_getElem? a2))
          obtain ⟨r1, rm1, rfl⟩ := kmem n1 hn1
          show In7 (Rof rows r1.1)
          rw [Rof_mem nd r1 rm1]
          exact (rok.2 r1 rm1).2
        refine R1.Al.snoc ⟨hB5.1, fun i x q a1 a2 => rw_upd A hD5 hB5 (q7 i q a2) (hB5.2 i x q a1 a2)⟩ (rw_upd A hD5 hB5 (rok.2 r rm).2 ⟨b, c0, rfl, hb5, hc5⟩)
      · rintro H4 ⟨s4, acc, hD4, hB⟩
        have e2 : (rowsOf (Rof rows) ks).take (ivN ks).length = rowsOf (Rof rows) ks := by
          have : (ivN ks).length = (rowsOf (Rof rows) ks).length := by unfold ivN rowsOf; rw [List.length_map, List.length_map]
          rw [this, List.take_length]
        rw [e2, hks] at hB
        have s04 := (s1.trans s3).trans s4
        exact q D2 H4 s04 ((s1.trans s3).free nD2) ⟨acc, .of hD4, hB⟩
end
end K16


/-! drawn clauses and starts -/
namespace K16
open PySem PySem.Spec PyProof.Rows L2 RN
section
variable {P : Program} {w : World} {K : PySem.W.Frag} {mg : Str → Option Value} {base : Heap} {a : Ad} {e : Nat → PyData}
def In6 (ls : List Lt) : Prop := ∀ l ∈ ls, l.1 < 6
theorem In6.to7 {ls : List Lt} (h : In6 ls) : In7 ls := fun l hl => by have := h l hl; omega
def AtsIs (e : Nat → PyData) (K : PySem.W.Frag) (H : Hp) (al : Addr) (n : Nat) : Prop := ∃ xs, H al = some (.lst xs) ∧ xs.length = n ∧ ∀ (i : Nat) x, xs[i]? = some x → Dp K H x (e i)
theorem sta_tk {H H' : Hp} {sc st : Addr} (S : Sta sc H st) (k : Kp st H H') : Tk H H' := by
  obtain ⟨ns, i, b, s, l, hne, hst, _⟩ := S.ex
  exact kp_tk hst True.intro k
theorem sqL_kp {H H' : Hp} {sc st p : Addr} {xs : List V} (S : Sta sc H st) (k : Kp st H H') (n : ∀ i, xs[1]? ≠ some (.int i)) (h : SqL K H p xs) : SqL K H' p xs := by
  obtain ⟨ns, i, b, s, l, hne, hst, _⟩ := S.ex
  by_cases z : p = st
  · subst z
    rcases h with (h | ⟨o, h⟩) | h
    · rw [hst] at h; cases h; exact absurd rfl (n i)
    · rw [hst] at h; cases h
    · exact .inr h
  · rcases h with (h | ⟨o, h⟩) | h
    · exact .inl (.inl (k _ _ z h))
    · exact .inl (.inr ⟨o, k _ _ z h⟩)
    · exact .inr h
theorem AtsIs.sq {H : Hp} {al : Addr} {n : Nat} (h : AtsIs e K H al n) : ∃ xs, SqL K H al xs ∧ xs.length = n ∧ ∀ (i : Nat) x, xs[i]? = some x → Dp K H x (e i) := let ⟨xs, h1, h2⟩ := h; ⟨xs, .of h1, h2⟩
theorem ats_tk (A : AtOk e) {H H' : Hp} {al : Addr} {n : Nat} (h3 : n ≤ 7) (k : Tk H H') (ho : ∀ xs, H al = some (.lst xs) → H' al = some (.lst xs)) (h : AtsIs e K H al n) : AtsIs e K H' al n := by
  obtain ⟨xs, h1, h2, h4⟩ := h
  exact ⟨xs, ho xs h1, h2, fun i x hx => by
    have := (List.getElem?_eq_some_iff.mp hx).1
    exact dp_tk k _ _ (h4 i x hx) (A.kb i (by omega))⟩
theorem ats_same (A : AtOk e) {H H' : Hp} {al : Addr} {n : Nat} (h3 : n ≤ 7) (s : Same H H') (h : AtsIs e K H al n) : AtsIs e K H' al n := ats_tk A h3 (Same.tk s) (fun _ q => s _ _ q) h
theorem ats_kp (A : AtOk e) {H H' : Hp} {sc st al : Addr} {n : Nat} (h3 : n ≤ 7) (S : Sta sc H st) (k : Kp st H H') (h : AtsIs e K H al n) : AtsIs e K H' al n := by
  refine ats_tk A h3 (sta_tk S k) (fun xs q => k _ _ (fun z => ?_) q) h
  obtain ⟨xs2, h1, h2, h4⟩ := h
  rw [q] at h1
  cases h1
  obtain ⟨ns, i, b, s, l, hne, hst, _⟩ := S.ex
  rw [z, hst] at q
  cases q
  have d := h4 1 (.int i) rfl
  obtain ⟨u, ds, e1⟩ := A.tup 1 (by omega)
  rw [e1] at d
  cases d
theorem rwal_kp (A : AtOk e) {H H' : Hp} {sc st : Addr} {xs : List V} {rows : List Row} (ok : RsOk rows) (S : Sta sc H st) (k : Kp st H H') (h2 : R1.Al (RwIs e K H) xs rows) : R1.Al (RwIs e K H') xs rows := by
  have T := sta_tk S k
  refine ⟨h2.1, fun i x r a b => ?_⟩
  obtain ⟨b1, c1, rfl, h3, h4⟩ := h2.2 i x r a b
  refine ⟨b1, c1, rfl, k _ _ (fun z => ?_) h3, h4.tk A T (ok.2 r (List.mem_of_getElem? b)).2⟩
  obtain ⟨ns, i, b, s, l, hne, hst, _⟩ := S.ex
  rw [z, hst] at h3
  cases h3
theorem rws_kp (A : AtOk e) {H H' : Hp} {sc st rl : Addr} {rows : List Row} (ok : RsOk rows) (S : Sta sc H st) (k : Kp st H H') (h : RwsIs e K H rl rows) : RwsIs e K H' rl rows := by
  obtain ⟨xs, h1, h2⟩ := h
  refine ⟨xs, sqL_kp S k (fun i z => ?_) h1, rwal_kp A ok S k h2⟩
  obtain ⟨r, _, b1, c1, e1, _⟩ := h2.at z
  cases e1
theorem kp_free {H H' : Hp} {sc st p : Addr} (S : Sta sc H' st) (k : Kp st H H') (h : H' p = none) : H p = none := by
  by_cases z : p = st
  · subst z
    obtain ⟨ns, i, b, s, l, hne, hst, _⟩ := S.ex
    rw [hst] at h; cases h
  · cases q : H p with
    | none => rfl
    | some o => rw [k _ _ z q] at h; cases h
theorem Sta.same {H H' : Hp} {sc st : Addr} (S : Sta sc H st) (s : Same H H') : Sta sc H' st := by
  obtain ⟨ns, i, b, s1, l, hne, hst, hsc, r⟩ := S.ex
  exact ⟨ns, i, b, s1, l, hne, s _ _ hst, s _ _ hsc, r⟩
def spClause (e : Nat → PyData) (K : PySem.W.Frag) : Sp := fun vs H Q _ => ∃ (sc st al : Addr) (n m : Nat), vs = [.ref st, .ref al, .int (m : Int)] ∧ Sta sc H st ∧ AtsIs e K H al n ∧ 3 ≤ n ∧ n ≤ 6 ∧ m ≤ 3 ∧
  ∀ c0 c H', Kp st H H' → Sta sc H' st → H c0 = none → ClIs e K H' c0 c → c.length ≤ m → In6 c → c.Nodup → Q (.ref c0) H'
theorem Sta.mut {H H' : Hp} {D sc st : Addr} {o : HO} (S0 : Sta sc H st) (nD : H D = none) (S : Sta sc H' st) : Sta sc (upd H' D o) st := by
  obtain ⟨ns0, i0, b0, s0, l0, _, h1, h2, _⟩ := S0.ex
  obtain ⟨ns, i, b, s1, l, hne, hst, hsc, r⟩ := S.ex
  refine ⟨ns, i, b, s1, l, hne, ?_, ?_, r⟩
  · rw [upd_ne (ne_of_none h1 nD)]; exact hst
  · rw [upd_ne (ne_of_none h2 nD)]; exact hsc
theorem Sta.nn {H : Hp} {D sc st : Addr} (S0 : Sta sc H st) (nD : H D = none) : D ≠ st := by
  obtain ⟨ns0, i0, b0, s0, l0, _, h1, h2, _⟩ := S0.ex
  exact (ne_of_none h1 nD).symm
theorem ok_clause (A : AtOk e) (T : Top K mg a) (G_l_draw : FnOk P w K mg base CX0 1 a.f_l_draw a.d_l_draw ["_law_state_here", "_law_many"] spDraw) : FnOk P w K mg base CX0 2 a.f_l_clause a.d_l_clause ["_law_state_here", "_law_atoms", "_law_most"] (spClause e K) := by
  refine T.F_l_clause.ok sc_l_clause (fun vs H Q E h => ?_) (fun cdv A' outer s H vs Q E hr h => ?_)
  · obtain ⟨_, _, _, _, _, rfl, _⟩ := h
    rfl
  · obtain ⟨sc, st, al, n, m, rfl, S0, hat, hn3, hn6, hm, q⟩ := h
    refine ⟨_, (pss_cons (ps_set (i := 3) sc_l_clause.nd rfl (.inl rfl) (pe_lst pa_nil))
    (pss_cons (ps_if (pt_cmpR (OpR.or op_eq (op_eqD hr.units)) (pe_callB (CallR.or call_len_str call_len_seq) (by rfl) T.z_len (by decide +kernel) (pa_cons (pv 1) pa_nil)) pe_int (nomark _))
      (pss_one (ps_ret (pe_tup pa_nil)))
      pss_nil)
    (pss_cons (ps_for PassesOwn.never rfl (pi_range1 (by rfl) T.z_range (pa_cons (pe_call G_l_draw (hr.mono (by decide)) (by rfl) T.m_l_draw T.F_l_draw.kp T.b_l_draw .nil pass0 (pa_cons (pv 0) (pa_cons (pe_op (OpR.or op_add (OpR.or op_add_str (OpR.or op_cat op_catT))) (pv 2) pe_int) pa_nil))) pa_nil)) (pg_name (i := 4) sc_l_clause.nd rfl (.inl rfl))
      (pss_cons (ps_set (i := 5) sc_l_clause.nd rfl (.inl rfl) (pe_tup (pa_cons (pe_ix ix_seq (pv 1) (pe_call G_l_draw (hr.mono (by decide)) (by rfl) T.m_l_draw T.F_l_draw.kp T.b_l_draw .nil pass0 (pa_cons (pv 0) (pa_cons (pe_callB (CallR.or call_len_str call_len_seq) (by rfl) T.z_len (by decide +kernel) (pa_cons (pv 1) pa_nil)) pa_nil))) (fun _ _ => rfl)) (pa_cons (pe_cmpR (OpR.or op_eq (op_eqD hr.units)) (pe_call G_l_draw (hr.mono (by decide)) (by rfl) T.m_l_draw T.F_l_draw.kp T.b_l_draw .nil pass0 (pa_cons (pv 0) (pa_cons pe_int pa_nil))) pe_int (nomark _)) pa_nil))))
      (pss_one (ps_if (pt_cmpR (op_notInDK (u65 hr) rfl) (pv 5) (pv 3) rfl)
        (pss_one (ps_expr (pe_bm PySem.F.plainAttrs_list PySem.F.slot_list_append PySem.F.type_list_append mt_append (pv 3) (pa_cons (pv 5) pa_nil))))
        pss_nil))))
    (pss_one (ps_ret (pe_callTy call_tuple_of (by rfl) T.z_tuple (by decide +kernel) (pa_cons (pe_callB (R0.cr_sortD hr.units) (by rfl) T.z_sorted (by decide +kernel) (pa_cons (pv 3) pa_nil)) pa_nil))))))), ?_⟩
    refine ⟨Nat.zero_le _, fun D nD => ?_⟩
    have k1 : Kp st H (upd H D (.lst [])) := (Kp.refl _ _).new nD
    have S1 : Sta sc (upd H D (.lst [])) st := S0.mut nD S0
    have hD1 : (upd H D (.lst [])) D = some (.lst []) := upd_same
    have hat1 := ats_kp A (by omega) S0 k1 hat
    have nDs := S0.nn nD
    generalize upd H D (.lst []) = H1 at k1 S1 hD1 hat1 ⊢
    obtain ⟨xs, hx, lx, hxd⟩ := hat1.sq
    have z0 : decide ((xs.length : Int) = 0) = false := decide_eq_false (by omega)
    refine ⟨.ref al, rfl, .inr ⟨al, xs, rfl, .inl hx, eqi ?_⟩⟩
    rw [z0]
    refine iteF ?_
    refine ⟨.ref st, rfl, .int (m : Int), rfl, .inl ⟨m, 1, rfl, rfl, sc, st, _, rfl, S1, by omega, by omega, fun H2 v k2 S2 v0 v1 => ?_⟩⟩
    obtain ⟨v, rfl⟩ : ∃ v' : Nat, v = v' := ⟨v.toNat, by omega⟩
    have tk12 := sta_tk S1 k2
    refine ⟨v, rfl, by omega, by omega, for_range (lo := 0) (n := v) (fun i σ' H' => ∃ y4 y5 acc ls, σ' = [some (.ref st), some (.ref al), some (.int (m : Int)), some (.ref D), y4, y5] ∧ Kp st H H' ∧ Sta sc H' st ∧ AtsIs e K H' al n ∧ H' D = some (.lst acc) ∧ R1.Al (Li e K H') acc ls ∧ ls.length ≤ i ∧ In6 ls ∧ ls.Nodup)
      ⟨_, _, [], [], rfl, k1.trans k2, S2, ats_kp A (by omega) S1 k2 hat1, k2 _ _ nDs hD1, R1.Al.nil, Nat.zero_le _, (fun l h => nomatch h), List.nodup_nil⟩ ?_ ?_⟩
    · rintro i σ' H3 hi ⟨y4, y5, acc, ls, rfl, k3, S3, hat3, hD3, hA3, hl3, h63, nd3⟩
      obtain ⟨xs3, hx3, lx3, hxd3⟩ := hat3.sq
      refine ⟨.ref al, rfl, .ref st, rfl, .ref al, rfl, .inr ⟨al, xs3, rfl, .inl hx3, sc, st, _, rfl, S3, by omega, by omega, fun H4 v1 k4 S4 a0 a1 => ?_⟩⟩
      obtain ⟨j, rfl⟩ : ∃ v' : Nat, v1 = v' := ⟨v1.toNat, by omega⟩
      obtain ⟨xs4, hx4, lx4, hxd4⟩ := (ats_kp A (by omega) S3 k4 hat3).sq
      have g4 : xs4[j]? = some (xs4[j]'(by omega)) := List.getElem?_eq_getElem (by omega)
      refine .inl ⟨al, xs4, (j : Int), _, rfl, rfl, hx4, atI_nat g4, ?_⟩
      refine ⟨.ref st, rfl, sc, st, 2, rfl, S4, by decide, by decide, fun H5 v2 k5 S5 b0 b1 => ?_⟩
      refine .inl ⟨rfl, Nat.le_of_lt (small1000 (by simp)), fun p np => ?_⟩
      have hj : j < 6 := by omega
      have t45 := sta_tk S4 k5
      have k35 := k4.trans k5
      have dj := dp_tk t45 _ _ (hxd4 j _ g4) (A.kb j (by omega))
      generalize decide (V.int v2 = V.int 0) = b
      have hD5 := k35 _ _ nDs hD3
      have h7 : In7 ls := h63.to7
      have hA5 := al_tk A h7 (sta_tk S3 k35) hA3
      have s6 := same_upd (o := .tup [xs4[j]'(by omega), .bl b]) np
      have hL : Li e K (upd H5 p (.tup [xs4[j]'(by omega), .bl b])) (.ref p) (j, b) := li_mk (l := (j, b)) (.of upd_same) (dp_tk (tk_new np) _ _ dj (A.kb j (by omega)))
      have k6 := k5.same s6
      have S6 := S5.same s6
      have hD6 := s6 _ _ hD5
      have hA6 := al_tk A h7 (Same.tk s6) hA5
      have k06 := k3.trans (k4.trans k6)
      have hat6 := ats_kp A (by omega) S3 (k4.trans k6) hat3
      generalize upd H5 p (.tup [xs4[j]'(by omega), .bl b]) = H6 at hL k6 S6 hD6 hA6 k06 hat6 ⊢
      have hin : Ans (tTest (tOp (rNotInD K) (tVar 5) (tVar 3))) [some (.ref st), some (.ref al), some (.int (m : Int)), some (.ref D), some (.int (0 + (i : Int))), some (.ref p)] H6 (!decide ((j, b) ∈ ls)) := fun Q' q' => by
        refine ⟨.ref p, rfl, .ref D, rfl, eL e (j, b), ls.map (eL e), hL, .lst (.of hD6) (al_dps hA6), eL_shaped A (show j < 7 by omega), list_shaped A h7, _, rfl, ?_⟩
        rw [any_eL A (l := (j, b)) (show j < 7 by omega) h7]
        exact q'
      refine if_ans hin (fun z => ?_) (fun z => ⟨_, _, acc, ls, rfl, k06, S6, hat6, hD6, hA6, by omega, h63, nd3⟩)
      have la : acc.length ≤ 1000 := by rw [hA3.1]; omega
      refine ⟨.ref D, rfl, .inl ⟨rfl, acc, .of hD6⟩, .ref p, rfl, D, acc, .ref p, rfl, rfl, hD6, small1000 la, ?_⟩
      have tD : Tk H6 (upd H6 D (.lst (acc ++ [.ref p]))) := tk_upd hD6 True.intro
      refine ⟨_, _, acc ++ [.ref p], ls ++ [(j, b)], rfl, k06.mut nD, S0.mut nD S6, ?_, upd_same, (al_tk A h7 tD hA6).snoc (hL.tk A (show j < 7 by omega) tD), by simp; omega, fun l hl => ?_, ?_⟩
      · obtain ⟨ys, y1, y2, y3⟩ := hat
        have kk := k06.mut (o := .lst (acc ++ [.ref p])) nD
        exact ats_kp A (by omega) S0 kk ⟨ys, y1, y2, y3⟩
      · rcases List.mem_append.mp hl with hl | hl
        · exact h63 l hl
        · rw [List.mem_singleton.mp hl]; exact hj
      · refine List.nodup_append.mpr ⟨nd3, by simp, fun x hx y hy zz => ?_⟩
        rw [List.mem_singleton.mp hy] at zz
        subst zz
        simp only [Bool.not_eq_true', decide_eq_false_iff_not] at z
        exact z hx
    · rintro σ' H3 ⟨y4, y5, acc, ls, rfl, k3, S3, hat3, hD3, hA3, hl3, h63, nd3⟩
      obtain ⟨g1, g2, g3⟩ := sort_ok A h63
      refine ⟨.ref D, rfl, ⟨D, acc, ls.map (eL e), rfl, .of hD3, al_dps hA3, g1, g2, g3, fun l nl => ?_⟩⟩
      have hs3 : R1.Al (Li e K H3) (R0.sortV acc (ls.map (eL e))) (srt e ls) := R1.sort_al (eL e) hA3
      have h7s : In7 (srt e ls) := fun l hl => by have := h63 l ((srt_perm ls).mem_iff.mp hl); omega
      have s4 := same_upd (o := .lst (R0.sortV acc (ls.map (eL e)))) nl
      refine ⟨l, _, rfl, .inl ⟨.of upd_same, fun p np => ?_⟩⟩
      have s5 := s4.trans (same_upd (o := .tup (R0.sortV acc (ls.map (eL e)))) np)
      refine q p (srt e ls) _ (k3.same s5) (S3.same s5) (kp_free S3 k3 (s4.free np)) ⟨_, .of upd_same, al_tk A h7s (Same.tk s5) hs3⟩ ?_ ?_ ?_
      · rw [(srt_perm ls).length_eq]; omega
      · exact fun l hl => h63 l ((srt_perm ls).mem_iff.mp hl)
      · exact (srt_perm ls).nodup_iff.mpr nd3
/-! ### the clauses under labels -/
def Rows6 (rows : List Row) : Prop := rows.length ≤ 6 ∧ (rows.map (·.1)).Nodup ∧ ∀ r ∈ rows, 1 ≤ r.1 ∧ r.1 ≤ 997 ∧ r.2.length ≤ 3 ∧ In6 r.2 ∧ r.2.Nodup
theorem Rows6.ok {rows : List Row} (h : Rows6 rows) : RsOk rows := ⟨by have := h.1; omega, fun r hr => ⟨by have := (h.2.2 r hr).2.2.1; omega, (h.2.2 r hr).2.2.2.1.to7⟩⟩
def spClauses (e : Nat → PyData) (K : PySem.W.Frag) : Sp := fun vs H Q _ => ∃ (sc st al : Addr) (n : Nat), vs = [.ref st, .ref al, .int 6, .int 3] ∧ Sta sc H st ∧ AtsIs e K H al n ∧ 3 ≤ n ∧ n ≤ 6 ∧
  ∀ rl rows H', Kp st H H' → Sta sc H' st → H rl = none → RwsIs e K H' rl rows → Rows6 rows → Q (.ref rl) H'
def lab (s j : Nat) : Nat := 1 + (s + 337 * j) % 997
theorem lab_ne {s j k : Nat} (h : lab s j = lab s k) (hj : j < 6) (hk : k < 6) : j = k := by unfold lab at h; omega
theorem labs_nd (s : Nat) : ∀ m, m ≤ 6 → ((List.range m).map (lab s)).Nodup
  | 0, _ => List.nodup_nil
  | m + 1, h => by
    rw [List.range_succ, List.map_append]
    refine List.nodup_append.mpr ⟨labs_nd s m (by omega), by simp, fun x hx y hy z => ?_⟩
    obtain ⟨j, hj, rfl⟩ := List.mem_map.mp hx
    have hy' : y = lab s m := List.mem_singleton.mp hy
    rw [hy'] at z
    have := List.mem_range.mp hj
    have := lab_ne z (by omega) (by omega)
    omega
theorem ok_clauses (A : AtOk e) (T : Top K mg a) (G_l_draw : FnOk P w K mg base CX0 1 a.f_l_draw a.d_l_draw ["_law_state_here", "_law_many"] spDraw) (G_l_clause : FnOk P w K mg base CX0 2 a.f_l_clause a.d_l_clause ["_law_state_here", "_law_atoms", "_law_most"] (spClause e K)) : FnOk P w K mg base CX0 3 a.f_l_clauses a.d_l_clauses ["_law_state_here", "_law_atoms", "_law_many", "_law_most"] (spClauses e K) := by
  refine T.F_l_clauses.ok sc_l_clauses (fun vs H Q E h => ?_) (fun cdv A' outer s H vs Q E hr h => ?_)
  · obtain ⟨_, _, _, _, rfl, _⟩ := h
    rfl
  · obtain ⟨sc, st, al, n, rfl, S0, hat, hn3, hn6, q⟩ := h
    refine ⟨_, (pss_cons (ps_set (i := 4) sc_l_clauses.nd rfl (.inl rfl) (pe_call G_l_draw (hr.mono (by decide)) (by rfl) T.m_l_draw T.F_l_draw.kp T.b_l_draw .nil pass0 (pa_cons (pv 0) (pa_cons pe_int pa_nil))))
    (pss_cons (ps_set (i := 5) sc_l_clauses.nd rfl (.inl rfl) (pe_lst pa_nil))
    (pss_cons (ps_for PassesOwn.never rfl (pi_range1 (by rfl) T.z_range (pa_cons (pe_call G_l_draw (hr.mono (by decide)) (by rfl) T.m_l_draw T.F_l_draw.kp T.b_l_draw .nil pass0 (pa_cons (pv 0) (pa_cons (pe_op (OpR.or op_add (OpR.or op_add_str (OpR.or op_cat op_catT))) (pv 2) pe_int) pa_nil))) pa_nil)) (pg_name (i := 6) sc_l_clauses.nd rfl (.inl rfl))
      (pss_one (ps_expr (pe_bm PySem.F.plainAttrs_list PySem.F.slot_list_append PySem.F.type_list_append mt_append (pv 5) (pa_cons (pe_lst (pa_cons (pe_op (OpR.or op_add (OpR.or op_add_str (OpR.or op_cat op_catT))) pe_int (pe_op op_mod (pe_callTy (CallR.or call_int1 call_int_str) (by rfl) T.z_int (by decide +kernel) (pa_cons (pe_op (OpR.or op_add (OpR.or op_add_str (OpR.or op_cat op_catT))) (pv 4) (pe_op (OpR.or op_mul op_mulW) pe_int (pv 6))) pa_nil)) pe_int)) (pa_cons (pe_call G_l_clause (hr.mono (by decide)) (by rfl) T.m_l_clause T.F_l_clause.kp T.b_l_clause .nil pass0 (pa_cons (pv 0) (pa_cons (pv 1) (pa_cons (pv 3) pa_nil)))) pa_nil))) pa_nil)))))
    (pss_one (ps_ret (pv 5)))))), ?_⟩
    refine ⟨.ref st, rfl, sc, st, 997, rfl, S0, by decide, by decide, fun H1 v k1 S1 v0 v1 => ?_⟩
    obtain ⟨sh, rfl⟩ : ∃ v' : Nat, v = v' := ⟨v.toNat, by omega⟩
    refine ⟨Nat.zero_le _, fun D nD => ?_⟩
    have nDH := kp_free S1 k1 nD
    have nDs := S0.nn nDH
    have k2 := k1.new (o := .lst []) nD
    have S2 := S0.mut (o := .lst []) nDH S1
    have hD2 : (upd H1 D (.lst [])) D = some (.lst []) := upd_same
    have hat2 := ats_kp A (by omega) S0 k2 hat
    generalize upd H1 D (.lst []) = H2 at k2 S2 hD2 hat2 ⊢
    refine ⟨.ref st, rfl, .int 6, rfl, .inl ⟨6, 1, rfl, rfl, sc, st, _, rfl, S2, by decide, by decide, fun H3 v k3 S3 v0 v1 => ?_⟩⟩
    obtain ⟨m, rfl⟩ : ∃ v' : Nat, v = v' := ⟨v.toNat, by omega⟩
    refine ⟨m, rfl, by omega, by omega, for_range (lo := 0) (n := m) (fun i σ' H' => ∃ y6 acc rows, σ' = [some (.ref st), some (.ref al), some (.int 6), some (.int 3), some (.int (sh : Int)), some (.ref D), y6] ∧ Kp st H H' ∧ Sta sc H' st ∧ AtsIs e K H' al n ∧ H' D = some (.lst acc) ∧ R1.Al (RwIs e K H') acc rows ∧ rows.map (·.1) = (List.range i).map (lab sh) ∧ ∀ r ∈ rows, r.2.length ≤ 3 ∧ In6 r.2 ∧ r.2.Nodup)
      ⟨_, [], [], rfl, k2.trans k3, S3, ats_kp A (by omega) S2 k3 hat2, k3 _ _ nDs hD2, R1.Al.nil, rfl, fun l h => nomatch h⟩ ?_ ?_⟩
    · rintro i σ' H4 hi ⟨y6, acc, rows, rfl, k4, S4, hat4, hD4, hA4, hl4, h64⟩
      have lr : rows.length = i := by
        have := congrArg List.length hl4
        rw [List.length_map, List.length_map, List.length_range] at this
        exact this
      refine ⟨.ref D, rfl, .inl ⟨rfl, acc, .of hD4⟩, ?_⟩
      refine ⟨.int (sh : Int), rfl, .int (0 + (i : Int)), rfl, .inl ⟨337, _, rfl, rfl, .inl ⟨by decide, by decide⟩, .inl ⟨_, _, rfl, rfl, .inl (.inl ⟨_, rfl, _, 997, rfl, rfl, by (show (0 : Int) < _; decide), .inl ⟨1, _, rfl, rfl, ?_⟩⟩)⟩⟩⟩
      refine ⟨.ref st, rfl, .ref al, rfl, .int 3, rfl, sc, st, al, n, 3, rfl, S4, hat4, hn3, hn6, by decide, fun c0 c H5 k5 S5 nc hc hcl h6 ndc => ?_⟩
      refine ⟨Nat.le_of_lt (small1000 (by simp)), fun b nb => ?_⟩
      have hlab : (1 : Int) + ((sh : Int) + 337 * (0 + (i : Int))) % 997 = ((lab sh i : Nat) : Int) := by unfold lab; omega
      have s6 := same_upd (o := .lst [.int (1 + ((sh : Int) + 337 * (0 + (i : Int))) % 997), .ref c0]) nb
      have rokA : RsOk rows := ⟨by omega, fun r hr => ⟨by have := (h64 r hr).1; omega, (h64 r hr).2.1.to7⟩⟩
      have hb6 : (upd H5 b (.lst [.int (1 + ((sh : Int) + 337 * (0 + (i : Int))) % 997), .ref c0])) b = _ := upd_same
      have hR6 : RwIs e K (upd H5 b (.lst [.int (1 + ((sh : Int) + 337 * (0 + (i : Int))) % 997), .ref c0])) (.ref b) (lab sh i, c) := ⟨b, c0, rfl, by rw [← hlab]; exact hb6, hc.tk A (Same.tk s6) h6.to7⟩
      have hD5 := k5 _ _ nDs hD4
      have hA5 := rwal_kp A rokA S4 k5 hA4
      have hD6 := s6 _ _ hD5
      have hA6 : R1.Al (RwIs e K (upd H5 b (.lst [.int (1 + ((sh : Int) + 337 * (0 + (i : Int))) % 997), .ref c0]))) acc rows := ⟨hA5.1, fun i x r a b => (hA5.2 i x r a b).same A (rokA.2 r (List.mem_of_getElem? b)).2 s6⟩
      have k6 := k4.trans (k5.same s6)
      have S6 := S5.same s6
      have bD : b ≠ D := fun z => by rw [z, hD5] at nb; cases nb
      generalize upd H5 b (.lst [.int (1 + ((sh : Int) + 337 * (0 + (i : Int))) % 997), .ref c0]) = H6 at hb6 hR6 hD6 hA6 k6 S6 ⊢
      have la : acc.length ≤ 1000 := by rw [hA4.1]; omega
      refine ⟨D, acc, .ref b, rfl, rfl, hD6, small1000 la, ?_⟩
      have tD : Tk H6 (upd H6 D (.lst (acc ++ [.ref b]))) := tk_upd hD6 True.intro
      have kk := k6.mut (o := .lst (acc ++ [.ref b])) nDH
      refine ⟨_, acc ++ [.ref b], rows ++ [(lab sh i, c)], rfl, kk, S0.mut nDH S6, ats_kp A (by omega) S0 kk hat, upd_same, ?_, ?_, fun r hr => ?_⟩
      · refine R1.Al.snoc ⟨hA6.1, fun i x q a1 a2 => rw_upd A hD6 hA6 (rokA.2 q (List.mem_of_getElem? a2)).2 (hA6.2 i x q a1 a2)⟩ (rw_upd A hD6 hA6 h6.to7 hR6)
      · rw [List.map_append, hl4, List.range_succ, List.map_append]; rfl
      · rcases List.mem_append.mp hr with hr | hr
        · exact h64 r hr
        · rw [List.mem_singleton.mp hr]; exact ⟨hcl, h6, ndc⟩
    · rintro σ' H4 ⟨y6, acc, rows, rfl, k4, S4, hat4, hD4, hA4, hl4, h64⟩
      have lr : rows.length = m := by
        have := congrArg List.length hl4
        rw [List.length_map, List.length_map, List.length_range] at this
        exact this
      refine ⟨_, rfl, q D rows H4 k4 S4 nDH ⟨acc, .of hD4, hA4⟩ ⟨by omega, ?_, fun r hr => ?_⟩⟩
      · rw [hl4]
        exact labs_nd sh m (by omega)
      · have mr : r.1 ∈ rows.map (·.1) := List.mem_map.mpr ⟨r, hr, rfl⟩
        rw [hl4] at mr
        obtain ⟨j, _, e1⟩ := List.mem_map.mp mr
        unfold lab at e1
        exact ⟨by omega, by omega, (h64 r hr).1, (h64 r hr).2⟩
end
end K16

/-! the drawn atoms -/
namespace K16
open PySem PySem.Spec PyProof.Rows L2 RN
section
variable {P : Program} {w : World} {K : PySem.W.Frag} {mg : Str → Option Value} {base : Heap} {a : Ad}
def spAtoms (K : PySem.W.Frag) : Sp := fun vs H Q _ => ∃ (sc st : Addr) (n : Nat), vs = [.ref st, .int (n : Int)] ∧ Sta sc H st ∧ n ≤ 6 ∧
  ∀ al sy sh H', sy < 6 → sh < 6 → Kp st H H' → Sta sc H' st → H al = none → AtsIs (eA sy sh) K H' al n → Q (.ref al) H'
theorem sgc : ∀ r : Fin 6, atI (PySem.Str.ofString "abcdef").cps.toList ((r : Nat) : Int) = some (97 + (r : Nat)) := by decide +kernel
theorem l9 : ∀ k : Fin 6, ((9 : Int) - (0 + ((k : Nat) : Int))).natAbs.log2 < 1920 := by decide +kernel
theorem l9s : ∀ k : Fin 6, (⟨#[97]⟩ : Str).length + (PySem.Str.ofString (toString ((9 : Int) - (0 + ((k : Nat) : Int))))).length ≤ sizeLine := by decide +kernel
theorem eA_0 (sh : Nat) {k : Nat} (h : k < 6) : eA 0 sh k = .tuple [.str "o", .str "word", .str (sg sh k ++ toString (9 - (k : Int)))] := by unfold eA; rw [if_neg (by omega), if_pos rfl]
theorem eA_1 (sh : Nat) {k : Nat} (h : k < 6) : eA 1 sh k = .tuple [.str (sg sh k), .str "word", .str "w"] := by unfold eA; rw [if_neg (by omega), if_neg (by decide), if_pos rfl]
theorem eA_2 (sh : Nat) {k : Nat} (h : k < 6) : eA 2 sh k = .tuple [.str "t", .str "below", .str "x", .str (sg sh k)] := by unfold eA; rw [if_neg (by omega), if_neg (by decide), if_neg (by decide), if_pos rfl]
theorem eA_3 (sh : Nat) {k : Nat} (h : k < 6) : eA 3 sh k = .tuple [.str (sg sh k ++ "1"), .str "turn", .str "x", .str "y", .int ((k : Int) % 3)] := by unfold eA; rw [if_neg (by omega), if_neg (by decide), if_neg (by decide), if_neg (by decide), if_pos rfl]
theorem eA_4 (sh : Nat) {k : Nat} (h : k < 6) : eA 4 sh k = .tuple [.str "", .str "same", .str (sg sh k), .str "x"] := by unfold eA; rw [if_neg (by omega), if_neg (by decide), if_neg (by decide), if_neg (by decide), if_neg (by decide), if_pos rfl]
theorem eA_5 (sh : Nat) {k : Nat} (h : k < 6) : eA 5 sh k = .tuple [.str "u", .str "equal", .tuple [.str (sg sh k)], .tuple [.str "g", .tuple [.str "x"]]] := by unfold eA; rw [if_neg (by omega), if_neg (by decide), if_neg (by decide), if_neg (by decide), if_neg (by decide), if_neg (by decide)]
theorem ok_atoms (T : Top K mg a) (G_l_draw : FnOk P w K mg base CX0 1 a.f_l_draw a.d_l_draw ["_law_state_here", "_law_many"] spDraw) : FnOk P w K mg base CX0 2 a.f_l_atom_row a.d_l_atom_row ["_law_state_here", "_law_count"] (spAtoms K) := by
  refine T.F_l_atom_row.ok sc_l_atom_row (fun vs H Q E h => ?_) (fun cdv A' outer s H vs Q E hr h => ?_)
  · obtain ⟨_, _, _, rfl, _⟩ := h
    rfl
  · obtain ⟨sc, st, n, rfl, S0, hn6, q⟩ := h
    refine ⟨_, (pss_cons (ps_set (i := 2) sc_l_atom_row.nd rfl (.inl rfl) (pe_call G_l_draw (hr.mono (by decide)) (by rfl) T.m_l_draw T.F_l_draw.kp T.b_l_draw .nil pass0 (pa_cons (pv 0) (pa_cons pe_int pa_nil))))
    (pss_cons (ps_set (i := 3) sc_l_atom_row.nd rfl (.inl rfl) (pe_call G_l_draw (hr.mono (by decide)) (by rfl) T.m_l_draw T.F_l_draw.kp T.b_l_draw .nil pass0 (pa_cons (pv 0) (pa_cons pe_int pa_nil))))
    (pss_cons (ps_set (i := 4) sc_l_atom_row.nd rfl (.inl rfl) (pe_lst pa_nil))
    (pss_cons (ps_for PassesOwn.never rfl (pi_range1 (by rfl) T.z_range (pa_cons (pv 1) pa_nil)) (pg_name (i := 5) sc_l_atom_row.nd rfl (.inl rfl))
      (pss_cons (ps_set (i := 6) sc_l_atom_row.nd rfl (.inl rfl) (pe_ix ix_seq pe_str (pe_op op_mod (pe_callTy (CallR.or call_int1 call_int_str) (by rfl) T.z_int (by decide +kernel) (pa_cons (pe_op (OpR.or op_add (OpR.or op_add_str (OpR.or op_cat op_catT))) (pv 5) (pv 3)) pa_nil)) pe_int) (fun _ _ => rfl)))
      (pss_one (ps_if (pt_cmpR (OpR.or op_eq (op_eqD hr.units)) (pv 2) pe_int (nomark _))
        (pss_one (ps_expr (pe_bm PySem.F.plainAttrs_list PySem.F.slot_list_append PySem.F.type_list_append mt_append (pv 4) (pa_cons (pe_tup (pa_cons pe_str (pa_cons pe_str (pa_cons (pe_op (OpR.or op_add (OpR.or op_add_str (OpR.or op_cat op_catT))) (pv 6) (pe_callTy call_str_int (by rfl) T.z_str (by decide +kernel) (pa_cons (pe_op op_sub pe_int (pv 5)) pa_nil))) pa_nil)))) pa_nil))))
        (pss_one (ps_if (pt_cmpR (OpR.or op_eq (op_eqD hr.units)) (pv 2) pe_int (nomark _))
          (pss_one (ps_expr (pe_bm PySem.F.plainAttrs_list PySem.F.slot_list_append PySem.F.type_list_append mt_append (pv 4) (pa_cons (pe_tup (pa_cons (pv 6) (pa_cons pe_str (pa_cons pe_str pa_nil)))) pa_nil))))
          (pss_one (ps_if (pt_cmpR (OpR.or op_eq (op_eqD hr.units)) (pv 2) pe_int (nomark _))
            (pss_one (ps_expr (pe_bm PySem.F.plainAttrs_list PySem.F.slot_list_append PySem.F.type_list_append mt_append (pv 4) (pa_cons (pe_tup (pa_cons pe_str (pa_cons pe_str (pa_cons pe_str (pa_cons (pv 6) pa_nil))))) pa_nil))))
            (pss_one (ps_if (pt_cmpR (OpR.or op_eq (op_eqD hr.units)) (pv 2) pe_int (nomark _))
              (pss_one (ps_expr (pe_bm PySem.F.plainAttrs_list PySem.F.slot_list_append PySem.F.type_list_append mt_append (pv 4) (pa_cons (pe_tup (pa_cons (pe_op (OpR.or op_add (OpR.or op_add_str (OpR.or op_cat op_catT))) (pv 6) pe_str) (pa_cons pe_str (pa_cons pe_str (pa_cons pe_str (pa_cons (pe_op op_mod (pe_callTy (CallR.or call_int1 call_int_str) (by rfl) T.z_int (by decide +kernel) (pa_cons (pv 5) pa_nil)) pe_int) pa_nil)))))) pa_nil))))
              (pss_one (ps_if (pt_cmpR (OpR.or op_eq (op_eqD hr.units)) (pv 2) pe_int (nomark _))
                (pss_one (ps_expr (pe_bm PySem.F.plainAttrs_list PySem.F.slot_list_append PySem.F.type_list_append mt_append (pv 4) (pa_cons (pe_tup (pa_cons pe_str (pa_cons pe_str (pa_cons (pv 6) (pa_cons pe_str pa_nil))))) pa_nil))))
                (pss_one (ps_expr (pe_bm PySem.F.plainAttrs_list PySem.F.slot_list_append PySem.F.type_list_append mt_append (pv 4) (pa_cons (pe_tup (pa_cons pe_str (pa_cons pe_str (pa_cons (pe_tup (pa_cons (pv 6) pa_nil)) (pa_cons (pe_tup (pa_cons pe_str (pa_cons (pe_tup (pa_cons pe_str pa_nil)) pa_nil))) pa_nil))))) pa_nil))))))))))))))))
    (pss_one (ps_ret (pv 4))))))), ?_⟩
    refine ⟨.ref st, rfl, sc, st, 6, rfl, S0, by decide, by decide, fun H1 v k1 S1 v0 v1 => ?_⟩
    obtain ⟨sy, rfl⟩ : ∃ v' : Nat, v = v' := ⟨v.toNat, by omega⟩
    refine ⟨.ref st, rfl, sc, st, 6, rfl, S1, by decide, by decide, fun H2 v k2 S2 w0 w1 => ?_⟩
    obtain ⟨sh, rfl⟩ : ∃ v' : Nat, v = v' := ⟨v.toNat, by omega⟩
    have A := at_ok (st := sy) (sh := sh) (by omega) (by omega)
    refine ⟨Nat.zero_le _, fun D nD => ?_⟩
    have nDH : H D = none := kp_free S2 (k1.trans k2) nD
    have nDs := S0.nn nDH
    have k3 := (k1.trans k2).new (o := .lst []) nD
    have S3 := S0.mut (o := .lst []) nDH S2
    have hD3 : (upd H2 D (.lst [])) D = some (.lst []) := upd_same
    generalize upd H2 D (.lst []) = H3 at k3 S3 hD3 ⊢
    refine ⟨.int (n : Int), rfl, n, rfl, by omega, by omega, for_range (lo := 0) (n := n) (fun i σ' H' => ∃ y5 y6 acc, σ' = [some (.ref st), some (.int (n : Int)), some (.int (sy : Int)), some (.int (sh : Int)), some (.ref D), y5, y6] ∧ Kp st H H' ∧ Sta sc H' st ∧ H' D = some (.lst acc) ∧ acc.length = i ∧ ∀ (j : Nat) x, acc[j]? = some x → Dp K H' x (eA sy sh j))
      ⟨_, _, [], rfl, k3, S3, hD3, rfl, fun j x h => by simp at h⟩ ?_ ?_⟩
    · rintro i σ' H4 hi ⟨y5, y6, acc, rfl, k4, S4, hD4, hl4, hA4⟩
      have la : acc.length ≤ 1000 := by omega
      have fin : ∀ H5 x y5 y6, Same H4 H5 → Dp K H5 x (eA sy sh i) → rAppend (.ref D) [x] H5 (fun _ H6 => ∃ y5' y6' acc, ([some (.ref st), some (.int (n : Int)), some (.int (sy : Int)), some (.int (sh : Int)), some (.ref D), y5, y6] : L2.St) = [some (.ref st), some (.int (n : Int)), some (.int (sy : Int)), some (.int (sh : Int)), some (.ref D), y5', y6'] ∧ Kp st H H6 ∧ Sta sc H6 st ∧ H6 D = some (.lst acc) ∧ acc.length = i + 1 ∧ ∀ (j : Nat) x, acc[j]? = some x → Dp K H6 x (eA sy sh j)) := by
        intro H5 x y5 y6 s5 hx
        have hD5 := s5 _ _ hD4
        have tD : Tk H5 (upd H5 D (.lst (acc ++ [x]))) := tk_upd hD5 True.intro
        refine ⟨D, acc, x, rfl, rfl, hD5, small1000 la, y5, y6, acc ++ [x], rfl, (k4.same s5).mut nDH, S0.mut nDH (S4.same s5), upd_same, by simp; omega, fun j y hj => ?_⟩
        by_cases lt : j < acc.length
        · rw [List.getElem?_append_left lt] at hj
          exact dp_tk tD _ _ (dp_tk (Same.tk s5) _ _ (hA4 j y hj) (A.kb j (by omega))) (A.kb j (by omega))
        · rw [List.getElem?_append_right (by omega)] at hj
          have ej : j = i := by
            have := (List.getElem?_eq_some_iff.mp hj).1
            simp at this
            omega
          subst ej
          rw [hl4, Nat.sub_self] at hj
          cases hj
          exact dp_tk tD _ _ hx (A.kb j (by omega))
      have hm : ((0 : Int) + (i : Int) + (sh : Int)) % 6 = (((i + sh) % 6 : Nat) : Int) := by omega
      have hc := sgc ⟨(i + sh) % 6, by omega⟩
      refine ⟨.int (0 + (i : Int)), rfl, .int (sh : Int), rfl, .inl ⟨_, _, rfl, rfl, .inl (.inl ⟨_, rfl, _, 6, rfl, rfl, by (show (0 : Int) < _; decide), ?_⟩)⟩⟩
      refine .inr (.inr ⟨_, _, _, rfl, rfl, by decide +kernel, by rw [hm]; exact hc, ?_⟩)
      refine ⟨.int (sy : Int), rfl, eqi (ite2 (fun e0 => ?_) (fun e0 => ?_))⟩
      · obtain rfl : sy = 0 := by have := of_decide_eq_true e0; omega
        refine ⟨.ref D, rfl, .inl ⟨rfl, acc, .of hD4⟩, ?_⟩
        refine ⟨_, rfl, .int (0 + (i : Int)), rfl, 9, _, rfl, rfl, _, rfl, l9 ⟨i, by omega⟩, .inr (.inl ⟨_, _, rfl, rfl, ?_, ?_⟩)⟩
        · have := l9s ⟨i, by omega⟩
          exact this
        · refine ⟨Nat.le_of_lt (small1000 (by simp)), fun p np => fin _ (.ref p) _ _ (same_upd np) ?_⟩
          rw [eA_0 sh (by omega)]
          have := Dp.tup (K := K) (.of (upd_same (a := p) (H := H4))) (.cons (.str "o") (.cons (.str "word") (.cons (.str (sg sh i ++ toString (9 - (i : Int)))) .nil)))
          rw [Int.zero_add]
          exact this
      refine ⟨.int (sy : Int), rfl, eqi (ite2 (fun e1 => ?_) (fun e1 => ?_))⟩
      · obtain rfl : sy = 1 := by have := of_decide_eq_true e1; omega
        refine ⟨.ref D, rfl, .inl ⟨rfl, acc, .of hD4⟩, _, rfl, Nat.le_of_lt (small1000 (by simp)), fun p np => fin _ (.ref p) _ _ (same_upd np) ?_⟩
        rw [eA_1 sh (by omega)]
        exact .tup (.of upd_same) (.cons (.str _) (.cons (.str _) (.cons (.str _) .nil)))
      refine ⟨.int (sy : Int), rfl, eqi (ite2 (fun e2 => ?_) (fun e2 => ?_))⟩
      · obtain rfl : sy = 2 := by have := of_decide_eq_true e2; omega
        refine ⟨.ref D, rfl, .inl ⟨rfl, acc, .of hD4⟩, _, rfl, Nat.le_of_lt (small1000 (by simp)), fun p np => fin _ (.ref p) _ _ (same_upd np) ?_⟩
        rw [eA_2 sh (by omega)]
        exact .tup (.of upd_same) (.cons (.str _) (.cons (.str _) (.cons (.str _) (.cons (.str _) .nil))))
      refine ⟨.int (sy : Int), rfl, eqi (ite2 (fun e3 => ?_) (fun e3 => ?_))⟩
      · obtain rfl : sy = 3 := by have := of_decide_eq_true e3; omega
        refine ⟨.ref D, rfl, .inl ⟨rfl, acc, .of hD4⟩, _, rfl, .inr (.inl ⟨_, _, rfl, rfl, (by show 1 + 1 ≤ sizeLine; decide), .int (0 + (i : Int)), rfl, .inl (.inl ⟨_, rfl, _, 3, rfl, rfl, by (show (0 : Int) < _; decide), ?_⟩)⟩)⟩
        refine ⟨Nat.le_of_lt (small1000 (by simp)), fun p np => fin _ (.ref p) _ _ (same_upd np) ?_⟩
        rw [eA_3 sh (by omega)]
        have := Dp.tup (K := K) (.of (upd_same (a := p) (H := H4))) (.cons (.str (sg sh i ++ "1")) (.cons (.str "turn") (.cons (.str "x") (.cons (.str "y") (.cons (.int ((i : Int) % 3)) .nil)))))
        rw [Int.zero_add]
        exact this
      refine ⟨.int (sy : Int), rfl, eqi (ite2 (fun e4 => ?_) (fun e4 => ?_))⟩
      · obtain rfl : sy = 4 := by have := of_decide_eq_true e4; omega
        refine ⟨.ref D, rfl, .inl ⟨rfl, acc, .of hD4⟩, _, rfl, Nat.le_of_lt (small1000 (by simp)), fun p np => fin _ (.ref p) _ _ (same_upd np) ?_⟩
        rw [eA_4 sh (by omega)]
        exact .tup (.of upd_same) (.cons (.str _) (.cons (.str _) (.cons (.str _) (.cons (.str _) .nil))))
      · obtain rfl : sy = 5 := by
          have := of_decide_eq_false (Bool.eq_false_iff.mpr e0)
          have := of_decide_eq_false (Bool.eq_false_iff.mpr e1)
          have := of_decide_eq_false (Bool.eq_false_iff.mpr e2)
          have := of_decide_eq_false (Bool.eq_false_iff.mpr e3)
          have := of_decide_eq_false (Bool.eq_false_iff.mpr e4)
          omega
        have sm : ∀ {n : Nat}, n ≤ 4 → n ≤ sizeLine := fun h => Nat.le_of_lt (small1000 (by omega))
        refine ⟨.ref D, rfl, .inl ⟨rfl, acc, .of hD4⟩, _, rfl, sm (by simp), fun p1 n1 => ⟨sm (by simp), fun p2 n2 => ⟨sm (by simp), fun p3 n3 => ⟨sm (by simp), fun p np => fin _ (.ref p) _ _ ((same_upd n1).trans ((same_upd n2).trans ((same_upd n3).trans (same_upd np)))) ?_⟩⟩⟩⟩
        rw [eA_5 sh (by omega)]
        have s34 := same_upd (o := .tup [.str "u", .str "equal", .ref p1, .ref p3]) np
        have s23 := (same_upd (o := .tup [.str "g", .ref p2]) n3).trans s34
        have s12 := (same_upd (o := .tup [.str "x"]) n2).trans s23
        exact .tup (.of upd_same) (.cons (.str _) (.cons (.str _) (.cons (.tup (.of (s12 _ _ upd_same)) (.cons (.str _) .nil)) (.cons (.tup (.of (s34 _ _ upd_same)) (.cons (.str _) (.cons (.tup (.of (s23 _ _ upd_same)) (.cons (.str _) .nil)) .nil))) .nil))))
    · rintro σ' H4 ⟨y5, y6, acc, rfl, k4, S4, hD4, hl4, hA4⟩
      refine ⟨_, rfl, q D sy sh H4 (by omega) (by omega) k4 S4 nDH ⟨acc, hD4, hl4, hA4⟩⟩
end
end K16

/-! within a try: o[k] by the class's own __getitem__; a call with keywords -/
namespace R1
open PySem PySem.Spec PyProof.Rows L2
section
variable {X : Cx} {CX : CXT} {n : Nat} {C g : Addr} {sp : Sp} {E : L2.St → XK} {o i : Expr} {to ti : TE} {pos : Pos}
def tIxOS (C : Addr) (sp : Sp) (E : L2.St → XK) (to ti : TE) : TE := fun σ H Q => to σ H fun x H1 => ti σ H1 fun y H2 => rIxO C sp (E σ) x y H2 Q
theorem run_fnR1S {pins : List (Addr × Obj)} {σ : L2.St} {H : Hp} {s : Shared} {Q : VK} {us : List Value} {vs : List V} (F : FnR X.prog X.w X.K X.mg X.base CX n g sp) (hr : Room (n + 1) X.A) (hx : PassesAt CX X σ (E σ)) (I : Inv X pins σ H s) (r : Vals vs us) (h : sp vs H Q (E σ)) :
    codeAny (model X.prog X.w) X.A.in1 (.call (.ref g) ⟨us, []⟩) (fun r s' => match r with | .ok (.ret v) => EP X pins σ Q v s' | .ok _ => False | .error e => X.xe e s') s := by
  refine codeAny_mono (F X.A.in1 X.stack s H us vs Q (E σ) hr.in1 I.env0.in1 r h) fun r s' hq => ?_
  cases r with
  | error e => exact hx pins H s e s' I hq
  | ok fl =>
    cases fl with
    | ret u => exact I.after hq
    | next => exact False.elim hq
    | brk => exact False.elim hq
    | cont => exact False.elim hq
theorem pe_ixOS (ho : PE X o to) (hi : PE X i ti) (hs : PySem.W.findIn X.K (.ref C) "__getitem__" = some (some (.ref g))) (hf : PySem.W.fnIn X.K g = true) (hfn : PySem.W.isFn X.K (.ref g) = true) (F : FnR X.prog X.w X.K X.mg X.base CX n g sp) (hr : Room (n + 1) X.A) (hx : ∀ σ, PassesAt CX X σ (E σ))
    (hsl : ∀ (x : Addr) (v : Value), subscripted i true (.ref x) v = runValue (.builtin "lifetime.subscript" ⟨[.ref x, v], []⟩)) : PE X (.Subscript o i pos) (tIxOS C sp E to ti) := by
  refine ⟨fun pins s σ H Q I h => Subscript_ (thn (ho.run pins s σ H _ I h) fun u s1 ⟨x, H1, I1, rx, q1⟩ => thn (hi.run pins s1 σ H1 _ I1 q1) fun iv s2 ⟨y, H2, I2, ry, a, dx, fs, ex, ha, q⟩ => ?_)⟩
  subst ex
  cases rx
  obtain ⟨mA, J, _⟩ := ins_get I2.hok ha
  obtain ⟨od, J, _⟩ := J.look
  obtain ⟨m, hF⟩ := I2.fr
  exact PySem.W.sub_K hF I2.ok.mod.kin J hs hf hfn (wpAny_call (run_fnR1S (us := [.ref a, iv]) (vs := [.ref a, y]) F hr (hx σ) I2 (.cons rfl (.cons ry .nil)) q)) (hsl a iv)
end
def tCallNS (n m : Nat) (sp : Sp) (gV : List V → List V → List V) (E : L2.St → XK) (t tk : TA) : TE := fun σ H Q => t σ H fun vs H1 => tk σ H1 fun zs H2 => vs.length = n ∧ zs.length = m ∧ sp (gV vs zs) H2 Q (E σ)
section
variable {X : Cx} {CX : CXT} {k n : Nat} {f : Addr} {fd : FuncData} {ps ks : List Str} {sp : Sp} {E : L2.St → XK} {x : Str} {p pos : Pos} {e : Expr} {es : List Expr} {kws : List Keyword} {t tk : TA} {g : List Value → List Value → List Value} {gV : List V → List V → List V}
theorem pe_callNS (F : FnOk X.prog X.w X.K X.mg X.base CX k f fd ps sp) (hr : Room k X.A) (hg : Gl X x) (hm : X.mg x = some (.ref f)) (hk : PySem.W.keepIn X.K (.ref f) = true) (hb : KBn X.K fd ps n ks g gV) (hx : ∀ σ, PassesAt CX X σ (E σ))
    (ha : PA X (e :: es) t) (hkw : PK X kws tk) (hall : (backToKw pos (keywordEach kws X.env)).all (·.1.isSome) = true := by rfl) (hks : (backToKw pos (keywordEach kws X.env)).filterMap (·.1) = ks := by rfl)
    (hdb : (x == ("__debug__" : Str)) = false := by decide) (he : starEach (e :: es) X.env = (false, eval e X.env) :: starEach es X.env := by rfl)
    (hpl : ((backTo pos (starEach (e :: es) X.env)).any (·.1) || (backToKw pos (keywordEach kws X.env)).any (·.1.isNone)) = false := by rfl) :
    PE X (.Call (.Name x p) (e :: es) kws pos) (tCallNS n ks.length sp gV E t tk) := by
  refine ⟨fun pins s σ H Q I h => wpAny_Call_Name_kw (ld_glob I hg hm ?_ hdb)⟩
  refine PySem.W.callWith_KW (h₀ := X.base) I.ok.mod.kin hk hall (thn (ha.run pos pins s σ H _ I h) fun us s1 ⟨vs, H1, I1, r, q⟩ => ?_) hpl he
  refine thn (hkw.run pos pins s1 σ H1 _ I1 q) fun ws s2 ⟨zs, H2, I2, rz, l1, l2, q2⟩ => ⟨I2.kIn, ?_⟩
  rw [hks]
  have rr := hb.rel r rz
  refine wpAny_call (codeAny_mono (F.run X.A X.stack s2 H2 ⟨us, ks.zip ws⟩ (g us ws) (gV vs zs) Q (E σ) hr I2.env0 (hb.to s2 us ws I2.kIn (r.length.symm.trans l1) (rz.length.symm.trans l2)) rr q2) fun rs s' hq => ?_)
  cases rs with
  | error er => exact hx σ pins H2 s2 er s' I2 hq
  | ok fl =>
    cases fl with
    | ret u => exact I2.after hq
    | next => exact False.elim hq
    | brk => exact False.elim hq
    | cont => exact False.elim hq
end
end R1

/-! for x in d.values(), d with nested keys, locked -/
namespace RN
open PySem PySem.Spec PyProof.Rows L2
section
variable {X : Cx} {pins : List (Addr × Obj)} {σ : L2.St} {H : Hp} {s : Shared} {d : Addr} {o : Obj} {es : List Ent} {P : Program} {w : World} {K : PySem.W.Frag} {tg e : Expr} {td : TE} {apos cpos : Pos}
def ItdN (w : World) (d : Addr) (o : Obj) (es : List Ent) : It :=
  ⟨fun i H => H d = some (.frz o (dN w d es)) ∧ i < es.length, fun i H x H' => H' = H ∧ ∃ p, es[i]? = some p ∧ x = p.2.2, fun i H => H d = some (.frz o (dN w d es)) ∧ es.length ≤ i⟩
theorem frz_n (I : Inv X pins σ H s) (h : H d = some (.frz o (dN X.w d es))) : (d == sysModules) = false ∧ s.heap.get? d = some o ∧ o.ExactDict ∧ ∃ xs arr ep, RE es xs ∧ o.data = .dict arr ep ∧ s.heap.DictRaw d arr ep ∧ arr.toList = xs.map fun x => (⟨x.1.hash X.w, .ref x.2.1, x.2.2⟩ : DictEntry) := by
  obtain ⟨hd, ⟨⟨a1, a2, xs, a3, a4, o', arr, ep, b1, b2, b3, b4⟩, _, _⟩⟩ := I.hok d _ h
  rw [hd] at b1
  cases b1
  exact ⟨a2, hd, b2, xs, arr, ep, a3, b3, ⟨o, hd, b2, b3⟩, b4⟩
theorem arr_at {es : List Ent} {xs : List (NestedKey × Addr × Value)} {arr : Array DictEntry} (re : RE es xs) (ha : arr.toList = xs.map fun x => (⟨x.1.hash w, .ref x.2.1, x.2.2⟩ : DictEntry)) : arr.size = es.length ∧ ∀ (i : Nat) (p : Ent) (hi : i < arr.size), es[i]? = some p → RelV p.2.2 arr[i].val := by
  have l1 : xs.length = es.length := (Paired.length re).symm
  have l2 : arr.size = es.length := by rw [← Array.length_toList, ha, List.length_map, l1]
  refine ⟨l2, fun i p hi hp => ?_⟩
  obtain ⟨q, hq, _, _, r⟩ := re_at re i p hp
  have z : arr.toList[i]? = some arr[i] := by rw [Array.getElem?_toList]; exact Array.getElem?_eq_getElem hi
  rw [ha, List.getElem?_map, hq] at z
  have := Option.some.inj z
  rw [← this]
  exact r
theorem turn_valsN {arr : Array DictEntry} {ep : Nat} (it : Addr) (hod : o.data = .dict arr ep) : Turn P w K tg (ItdN w d o es) [it] it (fun i h => h.IsValIter it d i es.length ep) where
  mem := by simp
  obj := fun i h st b hb => by
    have e : b = it := by simpa using hb
    subst e
    obtain ⟨oi, e, c, dd⟩ := st
    exact ⟨oi, e, fun v z => by rw [dd] at z; cases z⟩
  keep := fun i h h' st k => st.at fun oi e => k it (by simp) oi e
  item := by
    intro X hP hw hK hc i pins s σ H E I hf st hg
    subst hP hw hK
    obtain ⟨hd, hi⟩ := hg
    obtain ⟨f0, f1, f2, f3, f4, f5⟩ := hf it (by simp)
    obtain ⟨_, _, _, xs, arr', ep', re, hdt, raw, ha⟩ := frz_n I hd
    rw [hod] at hdt
    cases hdt
    obtain ⟨l2, av⟩ := arr_at re ha
    have gp : es[i]? = some es[i] := List.getElem?_eq_getElem hi
    have hi2 : i < arr.size := by omega
    rw [← l2] at st
    refine PySem.wpAny_pyNext_values_item_raw st raw hi2 fun h' st' sb => ?_
    have I1 : Inv X pins σ H { s with heap := h' } := I.turned (t' := s.toks) (fun b ob hb e => (sb.2 b hb).trans e) f0 f1 f3 f4 f5
    obtain ⟨oi, e, c, dd⟩ := id st'
    refine ⟨arr[i].val, rfl, go_of (s := { s with heap := h' }) e c dd (by decide) ⟨es[i].2.2, H, I1, av i _ hi2 gp, ⟨rfl, es[i], gp, rfl⟩, ?_, fun b hb => (hf b hb).1⟩⟩
    show h'.IsValIter it d (i + 1) es.length _
    rw [← l2]
    exact st'
  done := by
    intro X hP hw hK hc i pins s σ H E I hf st hg
    subst hP hw hK
    obtain ⟨hd, hi⟩ := hg
    obtain ⟨f0, f1, f2, f3, f4, f5⟩ := hf it (by simp)
    obtain ⟨_, _, _, xs, arr', ep', re, hdt, raw, ha⟩ := frz_n I hd
    rw [hod] at hdt
    cases hdt
    obtain ⟨l2, _⟩ := arr_at re ha
    rw [← l2] at st
    exact PySem.wpAny_pyNext_values_end_raw (I.ok.hd hc) st raw (by omega) fun h' eb => ⟨rfl, I.turned (t' := s.toks) (fun b ob hb e => eb b ob hb e) f0 f1 f3 f4 f5⟩
  self := fun A i s Q E st h => wpAny_pyIter_valiter st h
/-- the dict is locked (tLock, or by the caller) -/
def iValsN (w : World) (td : TE) : TI := fun σ H R => td σ H fun x H1 => ∃ d o es, x = .ref d ∧ H1 d = some (.frz o (dN w d es)) ∧ R (ItdN w d o es) H1
theorem pi_valuesN (hW : X.w = w) (he : PE X e td) (hbase : attributeBase e "values" X.env (eval e X.env) = eval e X.env := by rfl) (hline : (apos.endLine == cpos.line) = true := by rfl) : PI X tg (.Call (.Attribute e "values" apos) [] [] cpos) (iValsN w td) := by
  subst hW
  refine ⟨fun pins s σ H R I h => ?_⟩
  refine wpAny_Call_method (T := "dict") (id := "dict.values") hbase rfl hline PySem.F.plainAttrs_dict PySem.F.slot_dict_values PySem.F.type_dict_values (thn (he.run pins s σ H _ I h) fun u s1 ⟨x, H1, I1, rx, d, o, es, ex, hd, q⟩ => ?_)
  subst ex
  obtain rfl : u = Value.ref d := rx
  obtain ⟨hs, hgd, hx, xs, arr, ep, re, hdt, raw, ha⟩ := frz_n I1 hd
  obtain ⟨l2, _⟩ := arr_at re ha
  have ty : s1.TypeIs (.ref d) "dict" := ⟨o, hgd, hx.1⟩
  refine ⟨ty, fun c e => ?_, ?_⟩
  · cases e
    exact ⟨o, hgd, hx.2.1⟩
  have I2 : Inv X pins σ H1 { s1 with heap := s1.heap.push { cls := .type "dict_values", data := .fields #[.ref d] } } := I1.kept (t' := s1.toks) fun b ob q => Heap.get?_push_of_some _ q
  have raw2 : (s1.heap.push { cls := .type "dict_values", data := .fields #[.ref d] }).DictRaw d arr ep := by
    obtain ⟨o1, h1, h2, h3⟩ := raw
    exact ⟨o1, Heap.get?_push_of_some _ h1, h2, h3⟩
  have fin : wpAny (model X.prog X.w) X.A (pyIter (.ref s1.heap.objs.size)) (PIE X pins σ tg R) X.xe { s1 with heap := s1.heap.push { cls := .type "dict_values", data := .fields #[.ref d] } } := by
    refine PySem.wpAny_pyIter_values_raw (d := d) ⟨_, Heap.get?_push_size _ rfl, rfl, rfl⟩ raw2 (pi_one (tk := s1.toks) I2 _ (turn_valsN _ hdt) ⟨_, Heap.get?_push_size _ rfl, rfl, ?_⟩ q)
    rw [l2] <;> rfl
  show wpAny _ _ (callWith cpos (.builtin "dict.values") [.ref d] [] []) _ X.xe s1
  exact method_meetsIn PySem.F.slot_dict_values PySem.F.entry_dict_values rfl (PySem.evalArgs_none ⟨rfl, ty, PySem.F.args_dict_values_1 _, _, PySem.meets_dict_values_raw d hs, ⟨⟨arr, ep, raw⟩, fin⟩⟩)
end
end RN


/-! whether a step is right -/
namespace K16
open PySem PySem.Spec PyProof.Rows L2 RN
/-- a step behind earlier ones -/
def rightB (rows : List Row) (st : List Stp) (q : Stp) : Bool :=
  !decide (q.1 ∈ hs st) && (if q.2 = 0 then st.all fun z => decide (z.2 = 0) else match rows.find? fun r => decide (r.1 = q.2) with
    | some r => decide (left r.2 (hs st) = [q.1])
    | none => false)
section
variable {P : Program} {w : World} {K : PySem.W.Frag} {mg : Str → Option Value} {base : Heap} {a : Ad} {e : Nat → PyData}
def spRst (e : Nat → PyData) (w : World) (K : PySem.W.Frag) : Sp := fun vs H Q _ => ∃ (cd b hd : Addr) (kvs : List (Key × V)) (rows : List Row) (st : List Stp) (q : Stp), vs = [.ref cd, .ref b, .int (q.2 : Int), .ref hd] ∧ H cd = some (.dK kvs) ∧ KvIs e K H kvs rows ∧ RsOk rows ∧ (rows.map (·.1)).Nodup ∧
  q.1.1 < 7 ∧ Li e K H (.ref b) q.1 ∧ HeldIs e w K H hd st ∧ In7 (hs st) ∧ st.length ≤ 500 ∧ ∀ H', Same H H' → Q (.bl (rightB rows st q)) H'
theorem ans_or2 {t u : TT} {σ : L2.St} {H : Hp} {b1 b2 : Bool} (h1 : Ans t σ H b1) (h2 : Ans u σ H b2) : Ans (tOr t u) σ H (b1 || b2) := by
  cases b1 with
  | true => exact ans_or1 h1
  | false => exact ans_or h1 h2
theorem es_vals {H : Hp} {es : List Ent} {st : List Stp} (h : EsIs e K H es st) : es.map (fun p => p.2.2) = st.map fun q => V.int (q.2 : Int) := by
  induction h with
  | nil => rfl
  | cons z t ih => rw [List.map_cons, List.map_cons, ih, z.2.2]
theorem walk_valsN {w : World} {d : Addr} {o : Obj} {es : List Ent} {xs : List V} (hx : es.map (fun p => p.2.2) = xs) : Walk (RN.ItdN w d o es) xs.length (fun H => H d = some (.frz o (dN w d es))) (YAt xs) := by
  subst hx
  refine ⟨fun i H hi q => ⟨q, by simpa using hi⟩, fun H q => ⟨q, by simp⟩, fun i H x H' hi q y => ⟨y.1, ?_⟩⟩
  obtain ⟨p, hp, e1⟩ := y.2
  rw [List.getElem?_map, hp, e1]; rfl
theorem kv_none {H : Hp} : ∀ {kvs : List (Key × V)} {rows : List Row}, KvIs e K H kvs rows → ∀ n : Nat, (∀ r ∈ rows, r.1 ≠ n) → valV kvs (.inl (n : Int)) = none
  | [], _, _, _, _ => rfl
  | _ :: _, [], h, _, _ => by have := h.1; simp at this
  | p :: kvs, r0 :: rows, h, n, hn => by
    obtain ⟨h1, _⟩ := h.2 0 p r0 rfl rfl
    have tl : KvIs e K H kvs rows := ⟨Nat.succ.inj h.1, fun i q s a b => h.2 (i + 1) q s (by simpa using a) (by simpa using b)⟩
    rw [val_find, List.find?_cons]
    have ne : ¬ p.1 = Sum.inl (n : Int) := fun z => by
      rw [h1] at z
      have z2 : (r0.1 : Int) = (n : Int) := Sum.inl.inj z
      exact hn r0 List.mem_cons_self (by omega)
    simp only [ne, decide_false]
    rw [← val_find]
    exact kv_none tl n fun r hr => hn r (List.mem_cons_of_mem _ hr)
theorem ok_rst (A : AtOk e) (T : Top K mg a) (G_is_int : FnOk P w K mg base CX0 1 a.f_is_int a.d_is_int ["value"] (spIsInt K)) (G_undenied : FnOk P w K mg base CX0 2 a.f_undenied a.d_undenied ["clause", "held"] (spUnd e w K)) : FnOk P w K mg base CX0 3 a.f_is_right_step a.d_is_right_step ["clauses", "literal", "label", "held"] (spRst e w K) := by
  refine T.F_is_right_step.ok sc_is_right_step (fun vs H Q E h => ?_) (fun cdv A' outer s H vs Q E hr h => ?_)
  · obtain ⟨_, _, _, _, _, _, _, rfl, _⟩ := h
    rfl
  · obtain ⟨cd, b, hd, kvs, rows, st, q0, rfl, hcd, hK, rok, nd, h7q, hL, hH, h7, hlen, q⟩ := h
    refine ⟨_, (pss_cons (ps_if (PW.pt (pw_or (pt_cmpR (RN.op_inN (u16 hr) rfl rfl) (pv 1) (pv 3) rfl) (pw_or1 (pt_not (pt_val (pe_call G_is_int (hr.mono (by decide)) (by rfl) T.m_is_int T.F_is_int.kp T.b_is_int .nil pass0 (pa_cons (pv 2) pa_nil)))))))
      (pss_one (ps_ret pe_bl))
      pss_nil)
    (pss_cons (ps_if (pt_cmpR (OpR.or op_eq (op_eqD hr.units)) (pv 2) pe_int (nomark _))
      (pss_one (ps_ret (pe_callB (cr_all rfl) (by rfl) T.z_all (by decide +kernel) (pa_cons (pe_lock (pe_lc (own := [("earlier", 4)]) rfl sc_is_right_step.nd (RN.pi_valuesN (w := w) rfl (pv 3)) (blkOk_by (own := [("earlier", 4)]) (N := ["clauses", "literal", "label", "held", "earlier"]) (sc := defScope s_is_right_step) (by decide +kernel)) (fun _ _ _ _ _ => (pg_name (i := 4) sc_is_right_step.nd rfl (.inl rfl))) (fun _ _ _ _ _ => pts_nil) (fun _ _ _ _ _ => (pe_cmpR op_eq (pv 4) pe_int (nomark _))))) pa_nil))))
      pss_nil)
    (pss_one (ps_ret (pe_and (pe_cmp (pc_din (hu_of hr) (pv 2) (pv 0))) (pe_one (pe_cmpR (OpR.or op_eq (op_eqD hr.units)) (pe_call G_undenied (hr.mono (by decide)) (by rfl) T.m_undenied T.F_undenied.kp T.b_undenied .nil pass0 (pa_cons (pe_dget (hu_of hr) (pv 0) (pv 2) (fun _ _ => rfl)) (pa_cons (pv 3) pa_nil))) (pe_lst (pa_cons (pv 1) pa_nil)) (nomark _)))))))), ?_⟩
    obtain ⟨es, hes, hE⟩ := id hH
    have hks := es_keys A h7 hE
    have hk := key_li A h7q hL
    have hin : Ans (tTest (tOp (rInN K w false) (tVar 1) (tVar 3))) [some (.ref cd), some (.ref b), some (.int (q0.2 : Int)), some (.ref hd), none] H (decide (q0.1 ∈ hs st)) := fun Q' q' => by
      refine ⟨.ref b, rfl, .ref hd, rfl, b, hd, es, nk (eL e q0.1), rfl, rfl, hes, hks, hk, _, rfl, ?_⟩
      simp only [Bool.false_eq_true, if_false]
      rw [es_in A h7q h7 hE]
      exact q'
    have isi : Ans (tNot (tB (tCall (spIsInt K) [] E0 (tCons (tVar 2) tNil)))) [some (.ref cd), some (.ref b), some (.int (q0.2 : Int)), some (.ref hd), none] H false := fun Q' q' =>
      ⟨_, rfl, _, "int", true, false, rfl, .base (.int _), by decide +kernel, by decide +kernel, _, rfl, q'⟩
    refine if_ans (ans_or2 hin isi) (fun z => ?_) (fun z => ?_)
    · have r0 : rightB rows st q0 = false := by
        have : decide (q0.1 ∈ hs st) = true := by simpa using z
        unfold rightB
        rw [this]; rfl
      have := q H (Same.refl _)
      rw [r0] at this
      exact this
    have nin : decide (q0.1 ∈ hs st) = false := by simpa using z
    have eq0 : decide (V.int (q0.2 : Int) = V.int 0) = decide (q0.2 = 0) := by
      rw [Bool.eq_iff_iff, decide_eq_true_eq, decide_eq_true_eq]
      exact ⟨fun z => by have := V.int.inj z; omega, fun z => by rw [z]; rfl⟩
    refine ⟨.int (q0.2 : Int), rfl, eqi (ite2 (fun c => ?_) (fun c => ?_))⟩
    · have c0 : q0.2 = 0 := by have := of_decide_eq_true c; omega
      have nd1 : Mut (some (dN w hd es)) := True.intro
      refine ⟨hd, dN w hd es, hes, nd1, fun od => ?_⟩
      obtain ⟨lv, hlv⟩ : ∃ lv, lv = st.map fun q => V.int (q.2 : Int) := ⟨_, rfl⟩
      have hv := (es_vals hE).trans hlv.symm
      have nH : ∀ {D : Addr}, (upd H hd (.frz od (dN w hd es))) D = none → D ≠ hd ∧ H D = none := fun {D} h => by
        have ne : D ≠ hd := fun z => by rw [z, upd_same] at h; cases h
        rw [upd_ne ne] at h
        exact ⟨ne, h⟩
      have ll : lv.length = st.length := by rw [hlv, List.length_map]
      have k0 : Kp hd H (upd H hd (.frz od (dN w hd es))) := (Kp.refl _ _).put
      refine ⟨.ref hd, rfl, hd, od, es, rfl, upd_same, fun D nD => R1.walk_it (walk_valsN hv) (fun u H1 => H1 hd = some (.frz od (dN w hd es)) ∧ Kp hd H H1 ∧ H1 D = some (.lst ((st.take u).map fun q => V.bl (decide (q.2 = 0))))) ⟨?_, ?_, upd_same⟩ (fun u H1 _ h => h.1) ?_ ?_⟩
      · rw [upd_ne (nH nD).1.symm]
        exact upd_same
      · exact k0.new nD
      · rintro u x _ H1 hu ⟨hf, kk, hD⟩ ⟨rfl, hx⟩
        obtain ⟨q1, g1, rfl⟩ : ∃ q1, st[u]? = some q1 ∧ x = V.int (q1.2 : Int) := by
          rw [hlv, List.getElem?_map] at hx
          cases g : st[u]? with
          | none => rw [g] at hx; cases hx
          | some q1 => rw [g] at hx; exact ⟨q1, rfl, (Option.some.inj hx).symm⟩
        have et : st.take (u + 1) = st.take u ++ [q1] := by rw [List.take_add_one, g1]; rfl
        have eqx : decide (V.int (q1.2 : Int) = V.int 0) = decide (q1.2 = 0) := by
          rw [Bool.eq_iff_iff, decide_eq_true_eq, decide_eq_true_eq]
          exact ⟨fun z => by have := V.int.inj z; omega, fun z => by rw [z]; rfl⟩
        refine ⟨rfl, .int (q1.2 : Int), rfl, rfl, _, hD, ?_, ?_, ?_, ?_⟩
        · rw [List.length_map, List.length_take]
          exact small1000 (by omega)
        · rw [upd_ne (nH nD).1.symm]; exact hf
        · exact kk.mut (nH nD).2
        · rw [upd_same, et, List.map_append, eqx]; rfl
      · rintro H1 ⟨hf, kk, hD⟩
        rw [ll, List.take_length] at hD
        refine ⟨hf, D, st.map fun q => decide (q.2 = 0), rfl, .of ?_, ?_⟩
        · rw [upd_ne (nH nD).1, hD, List.map_map]; rfl
        · have sm : Same H (upd H1 hd (dN w hd es)) := fun b o hb => by
            by_cases z : b = hd
            · subst z
              rw [upd_same]
              rw [hes] at hb
              exact hb
            · rw [upd_ne z]; exact kk b o z hb
          have r1 : rightB rows st q0 = (st.map fun q => decide (q.2 = 0)).all id := by
            unfold rightB
            rw [nin, if_pos c0, List.all_map]; rfl
          have := q _ sm
          rw [r1] at this
          exact this
    · have c0 : q0.2 ≠ 0 := fun z => c (decide_eq_true (by omega))
      have r1 : rightB rows st q0 = match rows.find? fun r => decide (r.1 = q0.2) with
          | some r => decide (left r.2 (hs st) = [q0.1])
          | none => false := by
        unfold rightB
        rw [nin, if_neg c0]; rfl
      cases f : rows.find? fun r => decide (r.1 = q0.2) with
      | none =>
        have hn : ∀ r ∈ rows, r.1 ≠ q0.2 := fun r hr => by simpa using List.find?_eq_none.mp f r hr
        have v0 := kv_none hK q0.2 hn
        refine ⟨.int (q0.2 : Int), rfl, .ref cd, rfl, cd, none, rfl, .inl ⟨kvs, .inl (q0.2 : Int), .inl hcd, rfl, v0.symm⟩, _, rfl, ?_⟩
        have := q H (Same.refl _)
        rw [r1, f] at this
        exact this
      | some r =>
        have rm := List.mem_of_find?_eq_some f
        have rq : r.1 = q0.2 := by have := List.find?_some f; simpa using this
        obtain ⟨c0', hv, xs, hc1, hc2⟩ := kv_find hK nd r rm
        rw [rq] at hv
        refine ⟨.int (q0.2 : Int), rfl, .ref cd, rfl, cd, some (.ref c0'), rfl, .inl ⟨kvs, .inl (q0.2 : Int), .inl hcd, rfl, hv.symm⟩, _, rfl, ?_⟩
        refine ⟨.ref cd, rfl, .int (q0.2 : Int), rfl, cd, .ref c0', rfl, .inl ⟨kvs, .inl (q0.2 : Int), .inl hcd, rfl, hv.symm⟩, .ref hd, rfl, c0', hd, xs, r.2, st, rfl, hc1, hc2, ?_, (rok.2 r rm).2, hH, h7, ?_⟩
        · have := (rok.2 r rm).1
          omega
        · intro pl ys H1 s1 npl hpl hys
          refine ⟨.ref b, rfl, Nat.le_of_lt (small1000 (by simp)), fun p2 np2 => ?_⟩
          have s2 := same_upd (o := .lst [.ref b]) np2
          have h7l : In7 (left r.2 (hs st)) := fun m hm => (rok.2 r rm).2 m (List.mem_filter.mp hm).1
          have h7o : In7 [q0.1] := fun m hm => by rw [List.mem_singleton.mp hm]; exact h7q
          refine .inr ⟨.list ((left r.2 (hs st)).map (eL e)), .list ([q0.1].map (eL e)), .lst (.of (s2 _ _ hpl)) (al_dps (al_tk A h7l (Same.tk s2) hys)), .lst (.of upd_same) (.cons (hL.tk A h7q (Same.tk (s1.trans s2))) .nil), list_shaped A h7l, list_shaped A h7o, ?_⟩
          rw [PyData.eqv, list_eqv A h7l h7o]
          have := q _ (s1.trans s2)
          rw [r1, f] at this
          exact this
end
end K16

/-! min with default -/
namespace R0
open PySem PySem.Spec PyProof.Rows L2
section
variable {X : Cx}
/-! ### min(t, default=d), t a tuple or a list of ints -/
def minL (d : Int) : List Int → Int
  | [] => d
  | x :: r => r.foldl (fun a y => if y < a then y else a) x
theorem minOf_int (x : Int) (r : List Int) : PySem.W.minOf x r = minL 0 (x :: r) := by
  unfold PySem.W.minOf minL
  congr 1
  funext a y
  by_cases h : y < a
  · rw [if_pos h, if_pos (show PySem.W.DatumOrd.lt y a = true from decide_eq_true h)]
  · rw [if_neg h, if_neg (fun z : PySem.W.DatumOrd.lt y a = true => h (of_decide_eq_true z))]
def rMinD (K : PySem.W.Frag) : List V → List V → Hp → VK → Prop := fun vs zs H Q => ∃ (a : Addr) (ns : List Int) (d : Int), vs = [.ref a] ∧ zs = [.int d] ∧ (SqT K H a (ns.map V.int) ∨ SqL K H a (ns.map V.int)) ∧ Q (.int (minL d ns)) H
theorem ck_minD (hc : X.calm = true) (hu : X.A.units + 64 < cLine) : CallRK X (.builtin "min") ["default"] (rMinD X.K) := by
  intro pins s σ H xs zs us ws Q I r rz h
  obtain ⟨a, ns, d, rfl, rfl, hs, q⟩ := h
  obtain ⟨u, rfl, ru⟩ := vals1 r
  obtain rfl : u = Value.ref a := ru
  obtain ⟨w1, rfl, rw1⟩ := vals1 rz
  have fin : ∀ (i : Nat) (v : Value) (h' : Heap) (tk : Nat) (y : Int) (ys : List Int), ns = y :: ys → PySem.W.Holds h' v (PySem.W.minOf y ys) → (∀ b o, s.heap.get? b = some o → h'.get? b = some o) → EP X pins σ Q v { s with heap := h', toks := tk } := fun i v h' tk y ys e hv k => by
    obtain ⟨as, hv⟩ := hv
    subst e
    have hv' : Reads h' v (.int (PySem.W.minOf y ys)) as := hv
    cases hv'
    refine ⟨.int (PySem.W.minOf y ys), H, I.kept k, ⟨_, rfl⟩, ?_⟩
    rw [minOf_int]
    exact q
  have fin0 : ns = [] → ∀ (h' : Heap) (tk : Nat), (∀ b o, s.heap.get? b = some o → h'.get? b = some o) → EP X pins σ Q w1 { s with heap := h', toks := tk } := fun e h' tk k => by
    subst e
    exact ⟨.int d, H, I.kept k, rw1, q⟩
  rcases hs with hs | hs
  · obtain ⟨its, rv, ht, hz⟩ := I.tuple hs
    refine PySem.W.min_tuple_datum_default (xs := ns) (vs := its.toArray) (I.ok.hd hc) ht ?_ ?_ fin0 fun y ys i v h' tk e _ hv k => fin i v h' tk y ys e hv k
    · simpa using hold_ints (h := s.heap) rv
    · show X.A.units + 1 + 0 < cLine
      omega
  · obtain ⟨its, rv, pl, hz⟩ := I.list hs
    refine PySem.W.min_list_datum_default (xs := ns) (vs := its.toArray) (I.ok.hd hc) pl.isList ?_ ?_ fin0 fun y ys i v h' tk e _ hv k => fin i v h' tk y ys e hv k
    · simpa using hold_ints (h := s.heap) rv
    · show X.A.units + 1 + 0 < cLine
      omega
end
end R0

/-! {} that is to have nested keys -/
namespace RN
open PySem PySem.Spec PyProof.Rows L2
section
variable {X : Cx} {pos : Pos}
def tDNewN (w : World) : TE := fun _ H Q => ∀ p, H p = none → Q (.ref p) (upd H p (dN w p []))
theorem pe_dnewN {w : World} (hW : X.w = w) : PE X (.Dict [] [] pos) (tDNewN w) := by
  subst hW
  exact ⟨fun pins s σ H Q I h => wpAny_Dict_empty ⟨.ref s.heap.objs.size, _, I.laid (a := s.heap.objs.size) (o := dN X.w s.heap.objs.size []) (t' := s.toks) (fun _ _ q => Heap.get?_push_of_some _ q) (Nat.le_refl _) (dN_empty s.heap I.big), rfl, h _ (I.hok.fresh (Nat.le_refl _))⟩⟩
end
end RN


/-! steps replayed -/
namespace K16
open PySem PySem.Spec PyProof.Rows L2 RN
def initS : Stmt := inClass (topS 3) 0
theorem sc_initS : FnScope ["self", "index"] ["self", "index"] (defScope initS) := ⟨rfl, rfl, rfl, by decide +kernel, rfl, by decide +kernel, by decide +kernel⟩
abbrev s_Propagation_replayed : Stmt := inClass (topS 13) 1
theorem sc_Propagation_replayed : FnScope ["clauses", "steps", "held", "index", "literal", "label", "denied"] ["clauses", "steps"] (defScope s_Propagation_replayed) := ⟨rfl, rfl, rfl, by decide +kernel, rfl, by decide +kernel, by decide +kernel⟩
structure ErS (K : PySem.W.Frag) (C L fI : Addr) (dI : FuncData) : Prop where
  ox : OexC K C
  iC : PySem.W.findIn K (.ref C) "__init__" = some (some (.ref fI))
  tI : PySem.W.typeIn K (.ref fI) = some (.type "function")
  noV : PySem.W.findIn K (.ref C) "index" = some none
  F_init : Fun K "__init__" "BadStep.__init__" initS fI dI
  b_init : Binds K dI ["self", "index"] []
  xf : XfC K C
  xc : ExcC K C
  te : PySem.W.exmOne K (.ref C) (.ref C) = some true
  su : PySem.W.kitOne K (.ref C) (.ref L) = some true
theorem call_lenK {X : Cx} {K : PySem.W.Frag} (hK : X.K = K) : CallR X (.builtin "len") (fun xs H Q => ∃ p ys, xs = [V.ref p] ∧ (SqL K H p ys ∨ SqT K H p ys) ∧ Q (V.int ys.length) H) := by subst hK; exact call_len_seq
section
variable {P : Program} {w : World} {K : PySem.W.Frag} {mg : Str → Option Value} {base : Heap} {a : Ad} {e : Nat → PyData} {p : Pd} {fI fR : Addr} {dI dR : FuncData}
def spErrI (K : PySem.W.Frag) (C : Addr) : Sp := fun vs H Q _ => ∃ (e : Addr) (v : V), vs = [.ref e, v] ∧ H e = some (exo e C none) ∧ ∀ dx, H dx = none → dx ≠ e → Q .non (upd (upd H dx (exd dx [("index", v)])) e (exo e C (some dx)))
theorem ok_initS {C L : Addr} (EX : ErS K C L fI dI) : FnOk P w K mg base CX0 1 fI dI ["self", "index"] (spErrI K C) := by
  refine EX.F_init.ok sc_initS (fun vs H Q E h => ?_) (fun cdv A outer s H vs Q E hr h => ?_)
  · obtain ⟨e, v, rfl, _⟩ := h
    rfl
  · obtain ⟨e, v, rfl, he, q⟩ := h
    refine ⟨_, pss_one (ps_ost (pv 0) (pv 1)), ?_⟩
    exact ⟨v, rfl, .ref e, rfl, e, _, rfl, EX.ox, EX.noV, .inl ⟨he, fun dx hd ne => q dx hd ne⟩⟩
def RaisesI (C : Addr) (H : Hp) (v : V) (E : XK) : Prop := ∀ d H', H d = none → Same H H' → H' d = some (.xd [("index", v)]) → E (.ref C) (some d) H'
theorem raise_i {C : Addr} {H : Hp} {v : V} {E : XK} {ta : TA} {σ : L2.St} (ha : ∀ Q : List V → Hp → Prop, Q [v] H → ta σ H Q) (h : RaisesI C H v E) : tMkO C (spErrI K C) [] ta σ H E := by
  refine ha _ ⟨by show 1 ≤ 1000; decide, fun e ne => ⟨e, v, rfl, upd_same, fun dx hd hne => ⟨rfl, dx, [("index", v)], upd_same, ?_, ?_, ?_⟩⟩⟩
  · rw [upd_ne hne, upd_same]
  · rw [upd_ne hne] at hd; exact hd
  · rw [upd_ne hne] at hd
    refine h dx _ hd (fun b o hb => ?_) upd_same
    rw [upd_ne (ne_of_none hb hd), del_ne (ne_of_none hb ne), upd_ne (ne_of_none hb ne), upd_ne (ne_of_none hb hd), upd_ne (ne_of_none hb ne)]
    exact hb
/-- the labels of the clauses all of whose literals are denied -/
def denL (rows : List Row) (held : List Lt) : List Nat := (rows.filter fun r => decide ((left r.2 held).length = 0)).map (·.1)
/-- the least of them; 0 if there is none -/
def denied (rows : List Row) (held : List Lt) : Nat := (R0.minL 0 ((denL rows held).map fun n : Nat => (n : Int))).toNat
theorem minL_nat : ∀ ns : List Nat, 0 ≤ R0.minL 0 (ns.map fun n : Nat => (n : Int))
  | [] => by show (0 : Int) ≤ 0; decide
  | n :: ns => by
    show 0 ≤ (ns.map fun n : Nat => (n : Int)).foldl (fun a y => if y < a then y else a) (n : Int)
    have key : ∀ (l : List Nat) (a : Int), 0 ≤ a → 0 ≤ (l.map fun n : Nat => (n : Int)).foldl (fun a y => if y < a then y else a) a := by
      intro l
      induction l with
      | nil => intro a h; exact h
      | cons m l ih =>
        intro a h
        rw [List.map_cons, List.foldl_cons]
        refine ih _ ?_
        split
        · omega
        · exact h
    exact key ns n (by omega)
theorem denL_snoc (rows : List Row) (r : Row) (held : List Lt) : denL (rows ++ [r]) held = if (left r.2 held).length = 0 then denL rows held ++ [r.1] else denL rows held := by
  unfold denL
  rw [List.filter_append, List.map_append]
  by_cases h : (left r.2 held).length = 0
  · have f : [r].filter (fun r => decide ((left r.2 held).length = 0)) = [r] := by rw [List.filter_cons, if_pos (decide_eq_true h)]; rfl
    rw [if_pos h, f]; rfl
  · have f : [r].filter (fun r => decide ((left r.2 held).length = 0)) = [] := by rw [List.filter_cons, if_neg (by simpa using h)]; rfl
    rw [if_neg h, f, List.map_nil, List.append_nil]
theorem denL_len (rows : List Row) (held : List Lt) : (denL rows held).length ≤ rows.length := by
  unfold denL
  rw [List.length_map]
  exact List.length_filter_le _ _
def spRep (e : Nat → PyData) (w : World) (K : PySem.W.Frag) (C CS : Addr) : Sp := fun vs H Q E => ∃ (cd sq : Addr) (kvs : List (Key × V)) (rows : List Row) (xs : List V) (sts : List Stp), vs = [.ref cd, .ref sq] ∧ H cd = some (.dK kvs) ∧ KvIs e K H kvs rows ∧ RsOk rows ∧ (rows.map (·.1)).Nodup ∧
  SqI K H sq xs ∧ R1.Al (StpV e K H) xs sts ∧ In7 (hs sts) ∧ sts.length ≤ 200 ∧
  ((∀ j q, sts[j]? = some q → rightB rows (sts.take j) q = true) → ∀ o H', Same H H' → H o = none → PrIs e w K H' C o sts (denied rows (hs sts)) → Q (.ref o) H') ∧
  (∀ k q, (∀ j q, j < k → sts[j]? = some q → rightB rows (sts.take j) q = true) → sts[k]? = some q → rightB rows (sts.take k) q = false → ∀ H', Same H H' → RaisesI CS H' (.int (k : Int)) E)
theorem ok_rep {L : Addr} (A : AtOk e) (T : Top K mg a) (B : PrC K a.c_Propagation p) (F_R : Fun K "replayed" "Propagation.replayed" s_Propagation_replayed fR dR) (ES : ErS K a.c_BadStep L fI dI) (G_is_right_step : FnOk P w K mg base CX0 3 a.f_is_right_step a.d_is_right_step ["clauses", "literal", "label", "held"] (spRst e w K))
    (G_undenied : FnOk P w K mg base CX0 2 a.f_undenied a.d_undenied ["clause", "held"] (spUnd e w K)) : FnOk P w K mg base (CX P w) 5 fR dR ["clauses", "steps"] (spRep e w K a.c_Propagation a.c_BadStep) := by
  have G_init := ok_init (P := P) (w := w) (mg := mg) (base := base) A T B
  have G_err := ok_initS (P := P) (w := w) (mg := mg) (base := base) ES
  refine F_R.okX sc_Propagation_replayed (fun vs H Q E h => ?_) (fun cdv A' outer s H vs Q E hr h => ?_)
  · obtain ⟨_, _, _, _, _, _, rfl, _⟩ := h
    rfl
  · obtain ⟨cd, sq, kvs, rows, xs, sts, rfl, hcd, hK, rok, nd, hsq, hA, h7, hl, q1, q2⟩ := h
    refine ⟨_, (pss_cons (ps_set (i := 2) sc_Propagation_replayed.nd rfl (.inr rfl) (RN.pe_dnewN (w := w) rfl))
    (C8.pss_cut (ps_for (passes_of rfl) rfl (R1.PI.or (pi_enum (by rfl) T.z_enumerate (pa_cons (pv 1) pa_nil)) (R1.pi_enumT (by rfl) T.z_enumerate (pa_cons (pv 1) pa_nil))) (pg_tup rfl (pgs_cons (pg_name (i := 3) sc_Propagation_replayed.nd rfl (.inl rfl)) (pgs_cons (pg_tup rfl (pgs_cons (pg_name (i := 4) sc_Propagation_replayed.nd rfl (.inl rfl)) (pgs_cons (pg_name (i := 5) sc_Propagation_replayed.nd rfl (.inl rfl)) pgs_nil))) pgs_nil)))
      (pss_cons (ps_if (pt_not (pt_val (pe_call G_is_right_step (hr.mono (by decide)) (by rfl) T.m_is_right_step T.F_is_right_step.kp T.b_is_right_step .nil pass0 (pa_cons (pv 0) (pa_cons (pv 4) (pa_cons (pv 5) (pa_cons (pv 2) pa_nil)))))))
        (pss_one (ps_raise rfl (takes_of rfl rfl rfl rfl) (pmk_oex ES.ox ES.iC ES.tI G_err (hr.mono (by decide)) ES.b_init .nil pass0F (by rfl) T.m_BadStep (pa_cons (pv 3) pa_nil))))
        pss_nil)
      (pss_one (ps_asg (pv 5) (pg_sub (pv 2) (pv 4) (set_dN (K := K) (w := w) (u16 hr) rfl rfl))))))
    (pss_cons (ps_lock (ps_setLc (own := [("label", 5)]) (i := 6) rfl sc_Propagation_replayed.nd rfl rfl (sw_true rfl rfl rfl (by decide +kernel)) (pi_keys (pv 0)) (blkOk_by (own := [("label", 5)]) (N := ["clauses", "steps", "held", "index", "literal", "label", "denied"]) (sc := defScope s_Propagation_replayed) (by decide +kernel)) (fun _ _ _ _ _ => (pg_name (i := 5) sc_Propagation_replayed.nd rfl (.inl rfl))) (fun _ _ _ _ _ => pts_one (pt_cmpR op_eq (pe_callB (call_lenK (K := K) rfl) (by rfl) T.z_len (by decide +kernel) (pa_cons (pe_call G_undenied (hr.mono (by decide)) (by rfl) T.m_undenied T.F_undenied.kp T.b_undenied .nil pass0 (pa_cons (pe_dget (hu_of hr) (pv 0) (pv 5) (fun _ _ => rfl)) (pa_cons (pv 2) pa_nil))) pa_nil)) pe_int (nomark _))) (fun _ _ _ _ _ => (pv 5))))
    (pss_one (ps_ret (pe_make B.mkr G_init (hr.mono (by decide)) (by rfl) T.m_Propagation B.b_I .nil pass0 (pa_cons (pe_callTy RN.call_tupleF (by rfl) T.z_tuple (by decide +kernel) (pa_cons (pe_callTy (RN.call_listItN (w := w) rfl rfl) (by rfl) T.z_list (by decide +kernel) (pa_cons (RN.pe_itemsN (w := w) rfl (pv 2)) pa_nil)) pa_nil)) (pa_cons (pe_callBK (R0.ck_minD rfl hr.units) (by rfl) T.z_min (by decide +kernel) (pa_cons (pv 6) pa_nil) (pk_cons pe_int pk_nil)) pa_nil)))))))), ?_⟩
    have lx : xs.length = sts.length := hA.1
    refine fun hd nhd => ?_
    have t1 : Same H (upd H hd (dN w hd [])) := same_upd nhd
    refine ⟨fun σ' H' => ∃ y3 y4 y5, σ' = [some (.ref cd), some (.ref sq), some (.ref hd), y3, y4, y5, none] ∧ Same H H' ∧ HeldIs e w K H' hd sts ∧ (∀ i q, sts[i]? = some q → rightB rows (sts.take i) q = true), ?_, ?_⟩
    · let Pv : Nat → L2.St → Hp → Prop := fun j σ' H' => ∃ y3 y4 y5, σ' = [some (.ref cd), some (.ref sq), some (.ref hd), y3, y4, y5, none] ∧ Same H H' ∧ HeldIs e w K H' hd (sts.take j) ∧ (∀ i q, i < j → sts[i]? = some q → rightB rows (sts.take i) q = true)
      rcases hsq with hsq | hsq
      · refine .inl ⟨.ref sq, rfl, _, xs, rfl, sqL_same t1 hsq, for_it (walk_enum (xs := xs)) Pv ⟨_, _, _, rfl, t1, ⟨[], upd_same, .nil⟩, fun i q hi => absurd hi (Nat.not_lt_zero _)⟩ (fun i σ' H' _ h => by obtain ⟨_, _, _, _, h, _⟩ := h; exact sqL_same h hsq) ?_ ?_⟩
        · rintro j x σ' H2 _ hj ⟨y3, y4, y5, rfl, s2, hH2, ok2⟩ ⟨Tt, xi, yi, rfl, nT, rfl, ex, ey⟩
          cases ex
          obtain ⟨q0, g0, b0, y0, rfl, hb0, hy0⟩ := hA.at ey
          obtain ⟨bb, _, rfl, _, _⟩ := li_split hy0
          have sT := same_upd (o := .tup [.int ((j : Nat) : Int), .ref b0]) nT
          have s3 := s2.trans sT
          have hTt : (upd H2 Tt (.tup [.int ((j : Nat) : Int), .ref b0])) Tt = _ := upd_same
          have hH3 : HeldIs e w K (upd H2 Tt (.tup [.int ((j : Nat) : Int), .ref b0])) hd (sts.take j) := by
            obtain ⟨es, e1, e2⟩ := hH2
            exact ⟨es, sT _ _ e1, es_tk A (Same.tk sT) (fun m hm => h7 m (by unfold hs at hm ⊢; rw [List.map_take] at hm; exact List.mem_of_mem_take hm)) e2⟩
          generalize upd H2 Tt (.tup [.int ((j : Nat) : Int), .ref b0]) = H3 at s3 hTt hH3 ⊢
          have l7 : q0.1.1 < 7 := h7 _ (by unfold hs; exact List.mem_map.mpr ⟨q0, List.mem_of_getElem? g0, rfl⟩)
          have t7 : In7 (hs (sts.take j)) := fun m hm => h7 m (by unfold hs at hm ⊢; rw [List.map_take] at hm; exact List.mem_of_mem_take hm)
          refine ⟨Tt, _, rfl, .of hTt, rfl, _, _, rfl, _, _, rfl, b0, _, rfl, sqT_tk (Same.tk s3) hb0, rfl, _, _, rfl, _, _, rfl, rfl, rfl, ?_⟩
          have hcd3 := s3 _ _ hcd
          have hK3 := hK.tk A rok (Same.tk s3)
          have hy3 := hy0.tk A l7 (Same.tk s3)
          refine ⟨.ref cd, rfl, .ref bb, rfl, .int (q0.2 : Int), rfl, .ref hd, rfl, cd, bb, hd, kvs, rows, sts.take j, q0, rfl, hcd3, hK3, rok, nd, l7, hy3, hH3, t7, by rw [List.length_take]; omega, fun H4 s4 => ⟨_, rfl, ?_⟩⟩
          have s34 := s3.trans s4
          cases c : rightB rows (sts.take j) q0 with
          | false => exact iteT (raise_i (fun Q q => ⟨_, rfl, q⟩) (q2 j q0 ok2 g0 c H4 s34))
          | true =>
            refine iteF ?_
            obtain ⟨es, e1, e2⟩ := hH3
            have e14 := s4 _ _ e1
            have e24 := es_tk A (Same.tk s4) t7 e2
            have hy4 := hy3.tk A l7 (Same.tk s4)
            have nin : q0.1 ∉ hs (sts.take j) := by
              unfold rightB at c
              simp only [Bool.and_eq_true, Bool.not_eq_true', decide_eq_false_iff_not] at c
              exact c.1
            have le : es.length ≤ 200 := by
              have := Paired.length e24
              rw [List.length_take] at this
              omega
            refine ⟨.int (q0.2 : Int), rfl, .ref hd, rfl, .ref bb, rfl, bb, hd, es, nk (eL e q0.1), rfl, rfl, e14, es_keys A t7 e24, key_li A l7 hy4, small1000 (by omega), ?_⟩
            have et : sts.take (j + 1) = sts.take j ++ [q0] := by rw [List.take_add_one, g0]; rfl
            have tD : Tk H4 (upd H4 hd (dN w hd (putN es (nk (eL e q0.1)) bb (.int (q0.2 : Int))))) := tk_upd e14 True.intro
            have n7 : In7 (hs (sts.take j ++ [q0])) := by
              rw [hs_snoc]
              intro m hm
              rcases List.mem_append.mp hm with hm | hm
              · exact t7 m hm
              · rw [List.mem_singleton.mp hm]; exact l7
            refine ⟨_, _, _, rfl, K16.Same.mut s34 nhd, ⟨_, upd_same, ?_⟩, fun i q hi hq => ?_⟩
            · rw [et]
              exact es_tk A tD n7 (es_new A (n := q0.2) l7 t7 nin e24 hy4)
            · by_cases lt : i < j
              · exact ok2 i q lt hq
              · obtain rfl : i = j := by omega
                rw [g0] at hq
                cases hq
                exact c
        · rintro σ' H2 ⟨y3, y4, y5, rfl, s2, hH2, ok2⟩
          rw [lx, List.take_length] at hH2
          exact ⟨_, _, _, rfl, s2, hH2, fun i q hq => ok2 i q (by have := (List.getElem?_eq_some_iff.mp hq).1; omega) hq⟩
      · refine .inr ⟨.ref sq, rfl, _, xs, rfl, sqT_tk (Same.tk t1) hsq, for_it (R1.walk_enumT (xs := xs)) Pv ⟨_, _, _, rfl, t1, ⟨[], upd_same, .nil⟩, fun i q hi => absurd hi (Nat.not_lt_zero _)⟩ (fun i σ' H' _ h => by obtain ⟨_, _, _, _, h, _⟩ := h; exact sqT_tk (Same.tk h) hsq) ?_ ?_⟩
        · rintro j x σ' H2 _ hj ⟨y3, y4, y5, rfl, s2, hH2, ok2⟩ ⟨Tt, xi, yi, rfl, nT, rfl, ex, ey⟩
          cases ex
          obtain ⟨q0, g0, b0, y0, rfl, hb0, hy0⟩ := hA.at ey
          obtain ⟨bb, _, rfl, _, _⟩ := li_split hy0
          have sT := same_upd (o := .tup [.int ((j : Nat) : Int), .ref b0]) nT
          have s3 := s2.trans sT
          have hTt : (upd H2 Tt (.tup [.int ((j : Nat) : Int), .ref b0])) Tt = _ := upd_same
          have hH3 : HeldIs e w K (upd H2 Tt (.tup [.int ((j : Nat) : Int), .ref b0])) hd (sts.take j) := by
            obtain ⟨es, e1, e2⟩ := hH2
            exact ⟨es, sT _ _ e1, es_tk A (Same.tk sT) (fun m hm => h7 m (by unfold hs at hm ⊢; rw [List.map_take] at hm; exact List.mem_of_mem_take hm)) e2⟩
          generalize upd H2 Tt (.tup [.int ((j : Nat) : Int), .ref b0]) = H3 at s3 hTt hH3 ⊢
          have l7 : q0.1.1 < 7 := h7 _ (by unfold hs; exact List.mem_map.mpr ⟨q0, List.mem_of_getElem? g0, rfl⟩)
          have t7 : In7 (hs (sts.take j)) := fun m hm => h7 m (by unfold hs at hm ⊢; rw [List.map_take] at hm; exact List.mem_of_mem_take hm)
          refine ⟨Tt, _, rfl, .of hTt, rfl, _, _, rfl, _, _, rfl, b0, _, rfl, sqT_tk (Same.tk s3) hb0, rfl, _, _, rfl, _, _, rfl, rfl, rfl, ?_⟩
          have hcd3 := s3 _ _ hcd
          have hK3 := hK.tk A rok (Same.tk s3)
          have hy3 := hy0.tk A l7 (Same.tk s3)
          refine ⟨.ref cd, rfl, .ref bb, rfl, .int (q0.2 : Int), rfl, .ref hd, rfl, cd, bb, hd, kvs, rows, sts.take j, q0, rfl, hcd3, hK3, rok, nd, l7, hy3, hH3, t7, by rw [List.length_take]; omega, fun H4 s4 => ⟨_, rfl, ?_⟩⟩
          have s34 := s3.trans s4
          cases c : rightB rows (sts.take j) q0 with
          | false => exact iteT (raise_i (fun Q q => ⟨_, rfl, q⟩) (q2 j q0 ok2 g0 c H4 s34))
          | true =>
            refine iteF ?_
            obtain ⟨es, e1, e2⟩ := hH3
            have e14 := s4 _ _ e1
            have e24 := es_tk A (Same.tk s4) t7 e2
            have hy4 := hy3.tk A l7 (Same.tk s4)
            have nin : q0.1 ∉ hs (sts.take j) := by
              unfold rightB at c
              simp only [Bool.and_eq_true, Bool.not_eq_true', decide_eq_false_iff_not] at c
              exact c.1
            have le : es.length ≤ 200 := by
              have := Paired.length e24
              rw [List.length_take] at this
              omega
            refine ⟨.int (q0.2 : Int), rfl, .ref hd, rfl, .ref bb, rfl, bb, hd, es, nk (eL e q0.1), rfl, rfl, e14, es_keys A t7 e24, key_li A l7 hy4, small1000 (by omega), ?_⟩
            have et : sts.take (j + 1) = sts.take j ++ [q0] := by rw [List.take_add_one, g0]; rfl
            have tD : Tk H4 (upd H4 hd (dN w hd (putN es (nk (eL e q0.1)) bb (.int (q0.2 : Int))))) := tk_upd e14 True.intro
            have n7 : In7 (hs (sts.take j ++ [q0])) := by
              rw [hs_snoc]
              intro m hm
              rcases List.mem_append.mp hm with hm | hm
              · exact t7 m hm
              · rw [List.mem_singleton.mp hm]; exact l7
            refine ⟨_, _, _, rfl, K16.Same.mut s34 nhd, ⟨_, upd_same, ?_⟩, fun i q hi hq => ?_⟩
            · rw [et]
              exact es_tk A tD n7 (es_new A (n := q0.2) l7 t7 nin e24 hy4)
            · by_cases lt : i < j
              · exact ok2 i q lt hq
              · obtain rfl : i = j := by omega
                rw [g0] at hq
                cases hq
                exact c
        · rintro σ' H2 ⟨y3, y4, y5, rfl, s2, hH2, ok2⟩
          rw [lx, List.take_length] at hH2
          exact ⟨_, _, _, rfl, s2, hH2, fun i q hq => ok2 i q (by have := (List.getElem?_eq_some_iff.mp hq).1; omega) hq⟩
    · rintro σ' H2 ⟨y3, y4, y5, rfl, s2, hH2, ok2⟩
      obtain ⟨es, hhd, hE⟩ := id hH2
      have hcd2 := s2 _ _ hcd
      have hK2 := hK.tk A rok (Same.tk s2)
      have hdc : hd ≠ cd := fun z => by rw [z, hcd2] at hhd; cases hhd
      refine ⟨cd, .dK kvs, hcd2, True.intro, fun od => ?_⟩
      have nH : ∀ {D : Addr}, (upd H2 cd (.frz od (.dK kvs))) D = none → D ≠ cd ∧ H2 D = none := fun {D} h => by
        have ne : D ≠ cd := fun z => by rw [z, upd_same] at h; cases h
        rw [upd_ne ne] at h
        exact ⟨ne, h⟩
      have k0 : Kp cd H2 (upd H2 cd (.frz od (.dK kvs))) := (Kp.refl _ _).put
      have lk : kvs.length = rows.length := hK.1
      refine ⟨.ref cd, rfl, cd, od, rfl, .inl ⟨kvs, upd_same, fun D nD => R1.walk_it walk_keys (fun u H3 => H3 cd = some (.frz od (.dK kvs)) ∧ Kp cd H2 H3 ∧ H3 D = some (.lst (ivN (denL (rows.take u) (hs sts))))) ⟨?_, k0.new nD, upd_same⟩ (fun u H3 _ h => h.1) ?_ ?_⟩⟩
      · rw [upd_ne (nH nD).1.symm]
        exact upd_same
      · rintro u x _ H3 hu ⟨hf, kk, hD⟩ ⟨rfl, k, v, gk, rfl⟩
        obtain ⟨r, gr⟩ : ∃ r, rows[u]? = some r := ⟨rows[u]'(by omega), List.getElem?_eq_getElem _⟩
        obtain ⟨ek, c0, ev, _⟩ := hK2.2 u _ r gk gr
        dsimp only at ek ev
        subst ek ev
        have rm := List.mem_of_getElem? gr
        have T3 : Tk H2 H3 := kp_tk hcd2 True.intro kk
        obtain ⟨c0', hv, hc⟩ := kv_find hK2 nd r rm
        obtain ⟨xs', hc1, hc2⟩ := hc.tk A T3 (rok.2 r rm).2
        have hH3 : HeldIs e w K H3 hd sts := ⟨es, kk _ _ hdc hhd, es_tk A T3 h7 hE⟩
        refine ⟨rfl, .ref cd, rfl, .int (r.1 : Int), rfl, cd, .ref c0', rfl, .inl ⟨kvs, .inl (r.1 : Int), .inr ⟨od, hf⟩, rfl, hv.symm⟩, .ref hd, rfl, c0', hd, xs', r.2, sts, rfl, hc1, hc2, ?_, (rok.2 r rm).2, hH3, h7, ?_⟩
        · have := (rok.2 r rm).1
          omega
        · intro pl ys H4 s4 npl hpl hys
          refine ⟨pl, ys, rfl, .inl (.of hpl), rfl, _, rfl, ?_⟩
          have eqd : decide (V.int (ys.length : Int) = V.int 0) = decide ((left r.2 (hs sts)).length = 0) := by
            rw [← hys.1, Bool.eq_iff_iff, decide_eq_true_eq, decide_eq_true_eq]
            exact ⟨fun z => by have := V.int.inj z; omega, fun z => by rw [z]; rfl⟩
          rw [eqd]
          have et : rows.take (u + 1) = rows.take u ++ [r] := by rw [List.take_add_one, gr]; rfl
          have hD4 := s4 _ _ hD
          have hf4 := s4 _ _ hf
          have kk4 := kk.same s4
          rw [et, denL_snoc]
          by_cases c : (left r.2 (hs sts)).length = 0
          · rw [decide_eq_true c, if_pos c]
            have la : (ivN (denL (rows.take u) (hs sts))).length ≤ 1000 := by
              have := denL_len (rows.take u) (hs sts)
              rw [List.length_take] at this
              have l60 := rok.1
              unfold ivN
              rw [List.length_map]
              omega
            refine ⟨.int (r.1 : Int), rfl, _, hD4, small1000 la, ?_, kk4.mut (nH nD).2, ?_⟩
            · rw [upd_ne (nH nD).1.symm]; exact hf4
            · rw [upd_same]
              unfold ivN
              rw [List.map_append]; rfl
          · rw [decide_eq_false c, if_neg c]
            exact ⟨hf4, kk4, hD4⟩
      · rintro H3 ⟨hf, kk, hD⟩
        rw [lk, List.take_length] at hD
        refine ⟨hf, ?_⟩
        have sm : Same H2 (upd H3 cd (.dK kvs)) := fun b o hb => by
          by_cases z : b = cd
          · subst z
            rw [upd_same]
            rw [hcd2] at hb
            exact hb
          · rw [upd_ne z]; exact kk b o z hb
        have hD5 : (upd H3 cd (.dK kvs)) D = some (.lst (ivN (denL rows (hs sts)))) := by rw [upd_ne (nH nD).1]; exact hD
        generalize upd H3 cd (.dK kvs) = H5 at sm hD5 ⊢
        have hhd5 := sm _ _ hhd
        have hE5 := es_tk A (Same.tk sm) h7 hE
        have s5 := s2.trans sm
        have el : es.length = sts.length := Paired.length hE
        have ndS : (hs sts).Nodup := by
          have key : ∀ j, j ≤ sts.length → (hs (sts.take j)).Nodup := by
            intro j
            induction j with
            | zero => intro _; exact List.nodup_nil
            | succ j ih =>
              intro hj
              have g : sts[j]? = some (sts[j]'(by omega)) := List.getElem?_eq_getElem _
              have c := ok2 j _ g
              rw [show sts.take (j + 1) = sts.take j ++ [sts[j]'(by omega)] by rw [List.take_add_one, g]; rfl, hs_snoc]
              unfold rightB at c
              simp only [Bool.and_eq_true, Bool.not_eq_true', decide_eq_false_iff_not] at c
              refine List.nodup_append.mpr ⟨ih (by omega), by simp, fun x hx y hy z => ?_⟩
              rw [List.mem_singleton.mp hy] at z
              subst z
              exact c.1 hx
          have := key sts.length (Nat.le_refl _)
          rwa [List.take_length] at this
        refine ⟨.ref hd, rfl, hd, es, rfl, rfl, hhd5, fun pv nv => ?_⟩
        have s6 := same_upd (o := L2.DX.itemsO pv hd) nv
        refine ⟨pv, hd, es, rfl, upd_same, s6 _ _ hhd5, by omega, fun H6 l as s7 n0 hal at0 att => ?_⟩
        refine ⟨l, as.map V.ref, rfl, at0, fun t H7 nt s8 fz => ?_⟩
        have s58 := (s6.trans s7).trans s8
        have md : (denL rows (hs sts)).map (fun n : Nat => V.int (n : Int)) = ((denL rows (hs sts)).map fun n : Nat => (n : Int)).map V.int := by rw [List.map_map]; rfl
        refine ⟨.ref D, rfl, D, (denL rows (hs sts)).map fun n : Nat => (n : Int), 0, rfl, rfl, .inr (.of (by rw [← md]; exact s58 _ _ hD5)), ?_⟩
        have dn : R0.minL 0 ((denL rows (hs sts)).map fun n : Nat => (n : Int)) = ((denied rows (hs sts) : Nat) : Int) := by
          have := minL_nat (denL rows (hs sts))
          unfold denied
          omega
        rw [dn]
        intro o dx no ndx hne
        have k8 : Kp o H7 (upd (upd H7 dx (.own o)) o (.ins a.c_Propagation dx [])) := fun b ob hb z => by
          rw [upd_ne hb, upd_ne (ne_of_none z ndx)]
          exact z
        have s9 : Same H7 (upd (upd H7 dx (.own o)) o (.ins a.c_Propagation dx [])) := fun b ob z => k8 b ob (ne_of_none z no) z
        have t8 := Same.tk (s58.trans s9)
        refine ⟨o, t, dx, denied rows (hs sts), sts, rfl, upd_same, ⟨as, es, ?_, hal, fun j c q0 h1 h2 => ?_, es_tk A t8 h7 hE5⟩, h7, ndS, by omega, fun H9 k9 pr => ⟨rfl, ?_⟩⟩
        · obtain ⟨ob, z1, z2⟩ := fz
          exact ⟨ob, z1, s9 _ _ z2⟩
        · exact .of (s9 _ _ (s8 _ _ (att j c q0 h1 h2)))
        · have sH : Same H H9 := fun b ob z => by
            have z7 := s58 _ _ (s5 _ _ z)
            exact k9 b ob (ne_of_none z7 no) (s9 _ _ z7)
          have nHo : H o = none := by
            cases z : H o with
            | none => rfl
            | some ob => have := s58 _ _ (s5 _ _ z); rw [no] at this; cases this
          exact q1 ok2 o H9 sH nHo pr
end
end K16

/-! x in t, x not in t, t a tuple of data of any depth -/
namespace R1
open PySem PySem.Spec PyProof.Rows L2
section
variable {X : Cx}
def rInDT (K : PySem.W.Frag) (neg : Bool) : R2 := fun x y H Q => ∃ d ds, Dp K H x d ∧ Dp K H y (.tuple ds) ∧ SeqAt.shaped d = true ∧ SeqAt.shaped (.tuple ds) = true ∧ Q (.bl (if neg then !ds.any fun z => PyData.eqv z d else ds.any fun z => PyData.eqv z d)) H
theorem op_inDT {K : PySem.W.Frag} (hu : X.A.units + 65 < cLine) (hK : X.K = K) : OpR X (compareOp .In) (rInDT K false) := by
  subst hK
  intro pins s σ H x y v u Q I rx ry h
  obtain ⟨d, ds, hd, he, sd, se, q⟩ := h
  obtain ⟨as, r1⟩ := Dp.reads I d x v hd rx
  obtain ⟨bs, r2⟩ := Dp.reads I (.tuple ds) y u he ry
  exact SeqAt.in_tuple_reads r2 r1 (SeqAt.canLay_of_shaped se) (SeqAt.canLay_of_shaped sd) (room_in_shaped sd hu) ⟨.bl _, H, I, rfl, q⟩
theorem op_notInDT {K : PySem.W.Frag} (hu : X.A.units + 65 < cLine) (hK : X.K = K) : OpR X (compareOp .NotIn) (rInDT K true) := by
  subst hK
  intro pins s σ H x y v u Q I rx ry h
  obtain ⟨d, ds, hd, he, sd, se, q⟩ := h
  obtain ⟨as, r1⟩ := Dp.reads I d x v hd rx
  obtain ⟨bs, r2⟩ := Dp.reads I (.tuple ds) y u he ry
  exact SeqAt.notIn_tuple_reads r2 r1 (SeqAt.canLay_of_shaped se) (SeqAt.canLay_of_shaped sd) (room_in_shaped sd hu) ⟨.bl _, H, I, rfl, q⟩
end
end R1


/-! the law's word on a step -/
namespace K16
open PySem PySem.Spec PyProof.Rows L2 RN
def oth (c held : List Lt) (l : Lt) : List Lt := c.filter fun x => !decide (x = l) && !decide (ng x ∈ held)
theorem one_left {c held : List Lt} {l : Lt} (nd : c.Nodup) : decide (left c held = [l]) = (decide (l ∈ c) && (!decide (ng l ∈ held) && decide ((oth c held l).length = 0))) := by
  rw [Bool.eq_iff_iff]
  simp only [Bool.and_eq_true, decide_eq_true_eq, Bool.not_eq_true', decide_eq_false_iff_not]
  constructor
  · intro h
    have m : l ∈ left c held := by rw [h]; exact List.mem_singleton.mpr rfl
    obtain ⟨m1, m2⟩ := List.mem_filter.mp m
    refine ⟨m1, by simpa using m2, ?_⟩
    unfold oth
    rw [List.length_eq_zero_iff, List.filter_eq_nil_iff]
    intro x hx hh
    simp only [Bool.and_eq_true, Bool.not_eq_true', decide_eq_false_iff_not] at hh
    have : x ∈ left c held := List.mem_filter.mpr ⟨hx, by simpa using hh.2⟩
    rw [h, List.mem_singleton] at this
    exact hh.1 this
  · rintro ⟨h1, h2, h3⟩
    have ndl : (left c held).Nodup := nd.filter _
    have m : l ∈ left c held := List.mem_filter.mpr ⟨h1, by simpa using h2⟩
    have all : ∀ x ∈ left c held, x = l := fun x hx => by
      obtain ⟨x1, x2⟩ := List.mem_filter.mp hx
      by_cases z : x = l
      · exact z
      · exfalso
        have : x ∈ oth c held l := List.mem_filter.mpr ⟨x1, by simp only [z, decide_false, Bool.not_false, Bool.true_and]; exact x2⟩
        rw [List.length_eq_zero_iff.mp h3] at this
        cases this
    cases e : left c held with
    | nil => rw [e] at m; cases m
    | cons y t =>
      rw [e] at all ndl
      have ey := all y List.mem_cons_self
      cases t with
      | nil => rw [ey]
      | cons z t =>
        have ez := all z (List.mem_cons_of_mem _ List.mem_cons_self)
        rw [List.nodup_cons] at ndl
        exact absurd (by rw [ey, ← ez]; exact List.mem_cons_self) ndl.1
theorem oth_snoc (c held : List Lt) (l x : Lt) : oth (c ++ [x]) held l = if x ≠ l ∧ ng x ∉ held then oth c held l ++ [x] else oth c held l := by
  unfold oth
  rw [List.filter_append]
  by_cases h : x ≠ l ∧ ng x ∉ held
  · rw [if_pos h, List.filter_cons, if_pos (by simp [h.1, h.2])]; rfl
  · rw [if_neg h, List.filter_cons, if_neg (by simpa [Classical.not_and_iff_not_or_not] using h)]
    simp
section
variable {P : Program} {w : World} {K : PySem.W.Frag} {mg : Str → Option Value} {base : Heap} {a : Ad} {e : Nat → PyData}
theorem tup_shaped (A : AtOk e) {ls : List Lt} (h : ∀ m ∈ ls, m.1 < 7) : SeqAt.shaped (.tuple (ls.map (eL e))) = true := by
  obtain ⟨a, b⟩ := cls_cl A h
  have c : (PyData.tuple (ls.map (eL e))).depth ≤ 64 := by
    show PyData.depthAll (ls.map (eL e)) + 1 ≤ 64
    omega
  unfold SeqAt.shaped
  rw [show (PyData.tuple (ls.map (eL e))).canLay0 = true from a, decide_eq_true c]; rfl
theorem op_neDK {X : Cx} {K : PySem.W.Frag} (hu : X.A.units + 64 < cLine) (hK : X.K = K) : OpR X (compareOp .NotEq) (rNeD K) := by subst hK; exact op_neD hu
def spSr (e : Nat → PyData) (K : PySem.W.Frag) : Sp := fun vs H Q _ => ∃ (cd er sp : Addr) (kvs : List (Key × V)) (rows : List Row) (xs : List V) (st : List Stp) (q : Stp), vs = [.ref cd, .ref er, .ref sp] ∧ H cd = some (.dK kvs) ∧ KvIs e K H kvs rows ∧ RsOk rows ∧ (rows.map (·.1)).Nodup ∧ (∀ r ∈ rows, r.2.Nodup) ∧
  SqL K H er xs ∧ R1.Al (StpV e K H) xs st ∧ In7 (hs st) ∧ st.length ≤ 300 ∧ q.1.1 < 7 ∧ StpV e K H (.ref sp) q ∧ ∀ H', Same H H' → Q (.bl (rightB rows st q)) H'
theorem ok_sr (A : AtOk e) (T : Top K mg a) (G_l_not : FnOk P w K mg base CX0 1 a.f_l_not a.d_l_not ["_law_literal"] (spNeg e K)) : FnOk P w K mg base CX0 2 a.f_l_step_right a.d_l_step_right ["_law_clauses_here", "_law_earlier", "_law_step"] (spSr e K) := by
  refine T.F_l_step_right.ok sc_l_step_right (fun vs H Q E h => ?_) (fun cdv A' outer s H vs Q E hr h => ?_)
  · obtain ⟨_, _, _, _, _, _, _, _, rfl, _⟩ := h
    rfl
  · obtain ⟨cd, er, sp, kvs, rows, xs, st, q0, rfl, hcd, hK, rok, nd, ndr, her, hys, h7, hl, l7, ⟨sp', y0, esp, hsp, hy0⟩, q⟩ := h
    cases esp
    refine ⟨_, (pss_cons (ps_asg (pv 2) (pg_tup rfl (pgs_cons (pg_name (i := 3) sc_l_step_right.nd rfl (.inr rfl)) (pgs_cons (pg_name (i := 4) sc_l_step_right.nd rfl (.inl rfl)) pgs_nil))))
    (pss_cons (ps_set (i := 5) sc_l_step_right.nd rfl (.inr rfl) (pe_lc (own := [("_law_other", 6)]) rfl sc_l_step_right.nd (R1.PI.or (pi_list (pv 1)) (pi_tup (pv 1))) (blkOk_by (own := [("_law_other", 6)]) (N := ["_law_clauses_here", "_law_earlier", "_law_step", "_law_literal", "_law_label", "_law_held", "_law_other"]) (sc := defScope s_l_step_right) (by decide +kernel)) (fun _ _ _ _ _ => (pg_name (i := 6) sc_l_step_right.nd rfl (.inl rfl))) (fun _ _ _ _ _ => pts_nil) (fun _ _ _ _ _ => (pe_ix (R1.ix_seqK (K := K) rfl) (pv 6) pe_int (fun _ _ => rfl)))))
    (pss_cons (ps_if (pt_cmpR (op_inDK (u65 hr) rfl) (pv 3) (pv 5) rfl)
      (pss_one (ps_ret pe_bl))
      pss_nil)
    (pss_cons (ps_if (pt_cmpR (OpR.or op_eq (op_eqD hr.units)) (pv 4) pe_int (nomark _))
      (pss_one (ps_ret (pe_cmpR (OpR.or op_eq (op_eqD hr.units)) (pe_callB (CallR.or call_len_str call_len_seq) (by rfl) T.z_len (by decide +kernel) (pa_cons (pe_lc (own := [("_law_other", 6)]) rfl sc_l_step_right.nd (R1.PI.or (pi_list (pv 1)) (pi_tup (pv 1))) (blkOk_by (own := [("_law_other", 6)]) (N := ["_law_clauses_here", "_law_earlier", "_law_step", "_law_literal", "_law_label", "_law_held", "_law_other"]) (sc := defScope s_l_step_right) (by decide +kernel)) (fun _ _ _ _ _ => (pg_name (i := 6) sc_l_step_right.nd rfl (.inl rfl))) (fun _ _ _ _ _ => pts_one (pt_cmpR op_ne (pe_ix (R1.ix_seqK (K := K) rfl) (pv 6) pe_int (fun _ _ => rfl)) pe_int (nomark _))) (fun _ _ _ _ _ => (pv 6))) pa_nil)) pe_int (nomark _))))
      pss_nil)
    (pss_cons (ps_if (PW.pt (pw_or (pt_cmp (pc_dnotin (hu_of hr) (pv 4) (pv 0))) (pw_or (pt_cmpR (R1.op_notInDT (u65 hr) rfl) (pv 3) (pe_dget (hu_of hr) (pv 0) (pv 4) (fun _ _ => rfl)) rfl) (pw_or1 (pt_cmpR (op_inDK (u65 hr) rfl) (pe_call G_l_not (hr.mono (by decide)) (by rfl) T.m_l_not T.F_l_not.kp T.b_l_not .nil pass0 (pa_cons (pv 3) pa_nil)) (pv 5) rfl)))))
      (pss_one (ps_ret pe_bl))
      pss_nil)
    (pss_one (ps_ret (pe_cmpR (OpR.or op_eq (op_eqD hr.units)) (pe_callB (CallR.or call_len_str call_len_seq) (by rfl) T.z_len (by decide +kernel) (pa_cons (pe_lc (own := [("_law_other", 6)]) rfl sc_l_step_right.nd (pi_tup (pe_dget (hu_of hr) (pv 0) (pv 4) (fun _ _ => rfl))) (blkOk_by (own := [("_law_other", 6)]) (N := ["_law_clauses_here", "_law_earlier", "_law_step", "_law_literal", "_law_label", "_law_held", "_law_other"]) (sc := defScope s_l_step_right) (by decide +kernel)) (fun _ _ _ _ _ => (pg_name (i := 6) sc_l_step_right.nd rfl (.inl rfl))) (fun _ _ _ _ _ => pts_one (PW.pt (pw_and (pt_cmpR (op_neDK (K := K) hr.units rfl) (pv 6) (pv 3) (nomark _)) (pw_and1 (pt_cmpR (op_notInDK (u65 hr) rfl) (pe_call G_l_not (hr.mono (by decide)) (by rfl) T.m_l_not T.F_l_not.kp T.b_l_not .nil pass0 (pa_cons (pv 6) pa_nil)) (pv 5) rfl))))) (fun _ _ _ _ _ => (pv 6))) pa_nil)) pe_int (nomark _))))))))), ?_⟩
    obtain ⟨bb, _, rfl, _, _⟩ := li_split hy0
    refine ⟨.ref sp, rfl, sp, _, rfl, hsp, rfl, _, _, rfl, _, _, rfl, rfl, ?_⟩
    have lx : xs.length = st.length := hys.1
    have lh : (hs st).length = xs.length := by unfold hs; rw [List.length_map, lx]
    refine .inl ⟨.ref er, rfl, er, rfl, ⟨_, her⟩, fun D nD => R1.walk_it (walk_list (xs := xs)) (fun u H1 => Same H H1 ∧ ∃ acc, H1 D = some (.lst acc) ∧ R1.Al (Li e K H1) acc ((hs st).take u)) ⟨same_upd nD, [], upd_same, R1.Al.nil⟩ (fun u H1 _ h => sqL_same h.1 her) ?_ ?_⟩
    · rintro u x _ H1 hu ⟨s1, acc, hD, hB⟩ ⟨rfl, hx⟩
      obtain ⟨q1, g1, b, y, rfl, hb, hy⟩ := hys.at hx
      have et : (hs st).take (u + 1) = (hs st).take u ++ [q1.1] := by
        rw [List.take_add_one]
        unfold hs
        rw [List.getElem?_map, g1]
        rfl
      have la : acc.length ≤ 1000 := by
        have := hB.1
        rw [List.length_take] at this
        omega
      have l71 : q1.1.1 < 7 := h7 _ (by unfold hs; exact List.mem_map.mpr ⟨q1, List.mem_of_getElem? g1, rfl⟩)
      refine ⟨rfl, .ref b, rfl, .inr (.inl ⟨b, _, (0 : Nat), y, rfl, rfl, sqT_tk (Same.tk s1) hb, atI_nat rfl, _, hD, small1000 la, K16.Same.mut s1 nD, _, upd_same, ?_⟩)⟩
      have tD : Tk H1 (upd H1 D (.lst (acc ++ [y]))) := tk_upd hD True.intro
      rw [et]
      exact R1.Al.snoc (al_tk A (fun m hm => h7 m (List.mem_of_mem_take hm)) tD hB) ((hy.tk A l71 (Same.tk s1)).tk A l71 tD)
    rintro H1 ⟨s1, acc, hD, hB⟩
    rw [← lh, List.take_length] at hB
    have hy1 := hy0.tk A l7 (Same.tk s1)
    have inH : ∀ (Hx : Hp) (z : Addr) (m : Lt), Same H1 Hx → m.1 < 7 → Li e K Hx (.ref z) m → ∀ Q' : VK, Q' (.bl (decide (m ∈ hs st))) Hx → rInD K (.ref z) (.ref D) Hx Q' := fun Hx z m sx m7 hm Q' q' => by
      refine ⟨eL e m, (hs st).map (eL e), hm, .lst (.of (sx _ _ hD)) (al_dps (al_tk A h7 (Same.tk sx) hB)), eL_shaped A m7, list_shaped A h7, ?_⟩
      rw [any_eL A m7 h7]
      exact q'
    refine ⟨.ref bb, rfl, .ref D, rfl, inH H1 bb q0.1 (Same.refl _) l7 hy1 _ ⟨_, rfl, ?_⟩⟩
    by_cases cin : q0.1 ∈ hs st
    · rw [decide_eq_true cin]
      refine iteT ?_
      have r0 : rightB rows st q0 = false := by unfold rightB; rw [decide_eq_true cin]; rfl
      have := q H1 s1
      rw [r0] at this
      exact this
    rw [decide_eq_false cin]
    refine iteF ?_
    have nin : decide (q0.1 ∈ hs st) = false := decide_eq_false cin
    have hcd1 := s1 _ _ hcd
    have hK1 := hK.tk A rok (Same.tk s1)
    refine ⟨.int (q0.2 : Int), rfl, eqi (ite2 (fun c => ?_) (fun c => ?_))⟩
    · have c0 : q0.2 = 0 := by have := of_decide_eq_true c; omega
      refine .inl ⟨.ref er, rfl, er, rfl, ⟨_, sqL_same s1 her⟩, fun D2 nD2 => R1.walk_it (walk_list (xs := xs)) (fun u H3 => Same H1 H3 ∧ ∃ acc2, H3 D2 = some (.lst acc2) ∧ acc2.length = ((st.take u).filter fun z => !decide (z.2 = 0)).length) ⟨same_upd nD2, [], upd_same, rfl⟩ (fun u H3 _ h => sqL_same (s1.trans h.1) her) ?_ ?_⟩
      · rintro u x _ H3 hu ⟨s3, acc2, hD2, hl2⟩ ⟨rfl, hx⟩
        obtain ⟨q1, g1, b, y, rfl, hb, hy⟩ := hys.at hx
        have et : st.take (u + 1) = st.take u ++ [q1] := by rw [List.take_add_one, g1]; rfl
        have eqx : decide (V.int (q1.2 : Int) = V.int 0) = decide (q1.2 = 0) := by
          rw [Bool.eq_iff_iff, decide_eq_true_eq, decide_eq_true_eq]
          exact ⟨fun z => by have := V.int.inj z; omega, fun z => by rw [z]; rfl⟩
        rw [et, List.filter_append]
        refine ⟨rfl, .ref b, rfl, .inr (.inl ⟨b, _, (1 : Nat), .int (q1.2 : Int), rfl, rfl, sqT_tk (Same.tk (s1.trans s3)) hb, atI_nat rfl, rfl, _, rfl, ?_⟩)⟩
        rw [eqx]
        by_cases z : q1.2 = 0
        · rw [decide_eq_true z, List.filter_cons, if_neg (by simp [z])]
          refine iteF ⟨s3, acc2, hD2, ?_⟩
          rw [hl2]; simp
        · rw [decide_eq_false z, List.filter_cons, if_pos (by simp [z])]
          have la : acc2.length ≤ 1000 := by
            have h1 : ((st.take u).filter fun z => !decide (z.2 = 0)).length ≤ (st.take u).length := List.length_filter_le _ _
            rw [List.length_take] at h1
            omega
          refine iteT ⟨.ref b, rfl, _, hD2, small1000 la, K16.Same.mut s3 nD2, _, upd_same, ?_⟩
          rw [List.length_append, List.length_append, hl2]; rfl
      · rintro H3 ⟨s3, acc2, hD2, hl2⟩
        rw [lx, List.take_length] at hl2
        refine .inr ⟨D2, acc2, rfl, .inl (.of hD2), .inl ⟨rfl, ?_⟩⟩
        have eqd : decide (V.int (acc2.length : Int) = V.int 0) = rightB rows st q0 := by
          unfold rightB
          rw [nin, if_pos c0, Bool.not_false, Bool.true_and, Bool.eq_iff_iff, decide_eq_true_eq, List.all_eq_true]
          constructor
          · intro h z hz
            have h0 := V.int.inj h
            have : ((st.filter fun z => !decide (z.2 = 0)).length) = 0 := by omega
            rw [List.length_eq_zero_iff, List.filter_eq_nil_iff] at this
            simpa using this z hz
          · intro h
            have : (st.filter fun z => !decide (z.2 = 0)) = [] := by
              rw [List.filter_eq_nil_iff]
              intro z hz
              have := h z hz
              simpa using this
            rw [hl2, this]; rfl
        rw [eqd]
        exact q H3 (s1.trans s3)
    · have c0 : q0.2 ≠ 0 := fun z => c (decide_eq_true (by omega))
      have r1 : rightB rows st q0 = match rows.find? fun r => decide (r.1 = q0.2) with
          | some r => decide (left r.2 (hs st) = [q0.1])
          | none => false := by
        unfold rightB
        rw [nin, if_neg c0]; rfl
      cases f : rows.find? fun r => decide (r.1 = q0.2) with
      | none =>
        have hn : ∀ r ∈ rows, r.1 ≠ q0.2 := fun r hr => by simpa using List.find?_eq_none.mp f r hr
        have v0 := kv_none hK1 q0.2 hn
        refine ⟨.int (q0.2 : Int), rfl, .ref cd, rfl, cd, none, rfl, .inl ⟨kvs, .inl (q0.2 : Int), .inl hcd1, rfl, v0.symm⟩, _, rfl, iteT ?_⟩
        have := q H1 s1
        rw [r1, f] at this
        exact this
      | some r =>
        have rm := List.mem_of_find?_eq_some f
        have rq : r.1 = q0.2 := by have := List.find?_some f; simpa using this
        obtain ⟨c0', hv, cs, hc1, hc2⟩ := kv_find hK1 nd r rm
        have r7 := (rok.2 r rm).2
        have r60 := (rok.2 r rm).1
        rw [rq] at hv
        rw [f] at r1
        dsimp only at r1
        rw [one_left (ndr r rm)] at r1
        have dg : ∀ Hx, Same H1 Hx → DGet Hx cd (.int (q0.2 : Int)) (some (.ref c0')) := fun Hx sx => .inl ⟨kvs, .inl (q0.2 : Int), .inl (sx _ _ hcd1), rfl, hv.symm⟩
        refine ⟨.int (q0.2 : Int), rfl, .ref cd, rfl, cd, some (.ref c0'), rfl, dg _ (Same.refl _), _, rfl, iteF ?_⟩
        refine ⟨.ref bb, rfl, .ref cd, rfl, .int (q0.2 : Int), rfl, cd, .ref c0', rfl, dg _ (Same.refl _), eL e q0.1, r.2.map (eL e), hy1, .tup hc1 (al_dps hc2), eL_shaped A l7, tup_shaped A r7, _, rfl, ?_⟩
        rw [if_pos rfl, any_eL A l7 r7]
        by_cases c1 : q0.1 ∈ r.2
        rotate_left
        · rw [decide_eq_false c1]
          refine iteT (iteT ?_)
          have := q H1 s1
          rw [r1, decide_eq_false c1] at this
          exact this
        rw [decide_eq_true c1] at r1 ⊢
        refine iteF ?_
        refine ⟨.ref bb, rfl, .ref bb, q0.1, rfl, l7, hy1, fun rr H2 nr s2 hng => ⟨.ref D, rfl, inH H2 rr (ng q0.1) s2 (ng7 l7) hng _ ⟨_, rfl, ?_⟩⟩⟩
        by_cases c2 : ng q0.1 ∈ hs st
        · rw [decide_eq_true c2]
          refine iteT ?_
          have := q H2 (s1.trans s2)
          rw [r1, decide_eq_true c2] at this
          exact this
        rw [decide_eq_false c2] at r1 ⊢
        refine iteF ?_
        have lc : cs.length = r.2.length := hc2.1
        refine ⟨.ref cd, rfl, .int (q0.2 : Int), rfl, cd, .ref c0', rfl, dg _ s2, c0', rfl, ⟨_, sqT_tk (Same.tk s2) hc1⟩, fun D2 nD2 => R1.walk_it (walk_tup (xs := cs)) (fun u H3 => Same H2 H3 ∧ ∃ acc2, H3 D2 = some (.lst acc2) ∧ acc2.length = (oth (r.2.take u) (hs st) q0.1).length) ⟨same_upd nD2, [], upd_same, rfl⟩ (fun u H3 _ h => sqT_tk (Same.tk (s2.trans h.1)) hc1) ?_ ?_⟩
        · rintro u x _ H3 hu ⟨s3, acc2, hD2, hl2⟩ ⟨rfl, hx⟩
          obtain ⟨m, gm, hm⟩ := hc2.at hx
          have m7 := r7 m (List.mem_of_getElem? gm)
          have s13 := s2.trans s3
          have hm3 := hm.tk A m7 (Same.tk s13)
          have hy3 := hy1.tk A l7 (Same.tk s13)
          have et : r.2.take (u + 1) = r.2.take u ++ [m] := by rw [List.take_add_one, gm]; rfl
          rw [et, oth_snoc]
          refine ⟨rfl, x, rfl, .ref bb, rfl, eL e m, eL e q0.1, hm3, hy3, eL_shaped A m7, eL_shaped A l7, _, rfl, ?_⟩
          rw [eL_eqv A m7 l7]
          by_cases e1 : m = q0.1
          · rw [decide_eq_true e1, if_neg (fun z => z.1 e1)]
            exact iteF ⟨s3, acc2, hD2, hl2⟩
          rw [decide_eq_false e1]
          refine iteT ⟨x, rfl, x, m, rfl, m7, hm3, fun r2 H4 nr2 s4 hng2 => ⟨.ref D, rfl, ?_⟩⟩
          have s14 := s13.trans s4
          have hD24 := s4 _ _ hD2
          refine ⟨eL e (ng m), (hs st).map (eL e), hng2, .lst (.of (s14 _ _ hD)) (al_dps (al_tk A h7 (Same.tk s14) hB)), eL_shaped A (ng7 m7), list_shaped A h7, _, rfl, ?_⟩
          rw [any_eL A (ng7 m7) h7]
          by_cases e2 : ng m ∈ hs st
          · rw [decide_eq_true e2, if_neg (fun z => z.2 e2)]
            exact iteF ⟨s3.trans s4, acc2, hD24, hl2⟩
          rw [decide_eq_false e2, if_pos ⟨e1, e2⟩]
          have la : acc2.length ≤ 1000 := by
            have h1 : (oth (r.2.take u) (hs st) q0.1).length ≤ (r.2.take u).length := List.length_filter_le _ _
            rw [List.length_take] at h1
            omega
          refine iteT ⟨x, rfl, _, hD24, small1000 la, K16.Same.mut (s3.trans s4) nD2, _, upd_same, ?_⟩
          rw [List.length_append, List.length_append, hl2]; rfl
        · rintro H3 ⟨s3, acc2, hD2, hl2⟩
          rw [lc, List.take_length] at hl2
          refine .inr ⟨D2, acc2, rfl, .inl (.of hD2), .inl ⟨rfl, ?_⟩⟩
          have eqd : decide (V.int (acc2.length : Int) = V.int 0) = decide ((oth r.2 (hs st) q0.1).length = 0) := by
            rw [← hl2, Bool.eq_iff_iff, decide_eq_true_eq, decide_eq_true_eq]
            exact ⟨fun z => by have := V.int.inj z; omega, fun z => by rw [z]; rfl⟩
          rw [eqd]
          have := q H3 (s1.trans (s2.trans s3))
          rw [r1] at this
          exact this
end
end K16

/-! C.m(..), m a staticmethod, within a try -/
namespace R1
open PySem PySem.Spec PyProof.Rows L2 ClX
section
variable {X : Cx} {CX : CXT} {k : Nat} {C p g : Addr} {mc : Value} {sp : Sp} {E : L2.St → XK} {o e : Expr} {es : List Expr} {m : Str} {pos apos : Pos} {ta : TE} {t : TA} {pl : Sem Bool}
def tSMethS (C : Addr) (sp : Sp) (E : L2.St → XK) (ta : TE) (t : TA) : TE := fun σ H Q => ta σ H fun x H1 => x = .ref C ∧ t σ H1 fun vs H2 => sp vs H2 Q (E σ)
theorem run_fnRS {pins : List (Addr × Obj)} {σ : L2.St} {H : Hp} {s : Shared} {Q : VK} {us : List Value} {vs : List V} (F : FnR X.prog X.w X.K X.mg X.base CX k g sp) (hr : Room k X.A) (hx : PassesAt CX X σ (E σ)) (I : Inv X pins σ H s) (r : Vals vs us) (h : sp vs H Q (E σ)) :
    codeAny (model X.prog X.w) X.A (.call (.ref g) ⟨us, []⟩) (fun r s' => match r with | .ok (.ret v) => EP X pins σ Q v s' | .ok _ => False | .error e => X.xe e s') s := by
  refine codeAny_mono (F X.A X.stack s H us vs Q (E σ) hr I.env0 r h) fun r s' hq => ?_
  cases r with
  | error e => exact hx pins H s e s' I hq
  | ok fl =>
    cases fl with
    | ret u => exact I.after hq
    | next => exact False.elim hq
    | brk => exact False.elim hq
    | cont => exact False.elim hq
theorem pe_smethS (he : PE X o ta) (r : CRead X.K C mc) (c : SMet X.K C mc m p g) (F : FnR X.prog X.w X.K X.mg X.base CX k g sp) (hr : Room k X.A) (hx : ∀ σ, PassesAt CX X σ (E σ)) (ha : PA X (e :: es) t)
    (hst : starEach (e :: es) X.env = (false, eval e X.env) :: starEach es X.env := by rfl) (hpl : (backTo pos (starEach es X.env)).any (·.1) = false := by rfl)
    (ht : eval (.Call (.Attribute o m apos) (e :: es) [] pos) X.env = (do
      let ov ← eval o X.env
      standAt apos.atName
      let (f, first) ← holding [ov] (getMethod ov m pl)
      callWith pos f first (backTo pos (starEach (e :: es) X.env)) (backToKw pos (keywordEach [] X.env))) := by rfl) :
    PE X (.Call (.Attribute o m apos) (e :: es) [] pos) (tSMethS C sp E ta t) := by
  refine ⟨fun pins s σ H Q I h => ?_⟩
  refine PySem.W.methodCall_KW (pl := pl) (thn (he.run pins s σ H _ I h) fun u s1 ⟨x, H1, I1, rx, ex, q⟩ => ?_) ht
  subst ex
  obtain rfl : u = Value.ref C := rx
  refine getmethsm_ok I1 r c fun s2 I2 => ?_
  refine PySem.W.callWith_K (first := []) (h₀ := X.base) I.ok.mod.kin c.kp (thn (ha.run pos pins s2 σ H1 _ I2 q) fun us s3 ⟨vs, H2, I3, rv, q2⟩ => ⟨I3.kIn, ?_⟩) hst hpl
  exact wpAny_call (run_fnRS F hr (hx σ) I3 rv q2)
end
end R1

/-! replayed within a try -/
namespace K16
open PySem PySem.Spec PyProof.Rows L2 RN
section
variable {P : Program} {w : World} {K : PySem.W.Frag} {mg : Str → Option Value} {base : Heap} {a : Ad} {e : Nat → PyData} {p : Pd} {fI fR pR : Addr} {dI dR : FuncData} {mc : Value}
theorem fnR0 {CX : CXT} {k : Nat} {f : Addr} {fd : FuncData} {ps : List Str} {sp : Sp} (F : FnOk P w K mg base CX k f fd ps sp) (hb : Binds K fd ps []) : FnR P w K mg base CX k f sp := (F.raw hb .nil).imp fun vs H Q E h => by rw [List.append_nil]; exact h
/-- all steps are right -/
def AllR (rows : List Row) (sts : List Stp) : Prop := ∀ (j : Nat) q, sts[j]? = some q → rightB rows (sts.take j) q = true
/-- the k-th is the first that is not -/
def BadR (rows : List Row) (sts : List Stp) (k : Nat) : Prop := (∀ (j : Nat) q, j < k → sts[j]? = some q → rightB rows (sts.take j) q = true) ∧ ∃ q, sts[k]? = some q ∧ rightB rows (sts.take k) q = false
def spLr (e : Nat → PyData) (w : World) (K : PySem.W.Frag) (C : Addr) : Sp := fun vs H Q _ => ∃ (cd sq : Addr) (kvs : List (Key × V)) (rows : List Row) (xs : List V) (sts : List Stp), vs = [.ref cd, .ref sq] ∧ H cd = some (.dK kvs) ∧ KvIs e K H kvs rows ∧ RsOk rows ∧ (rows.map (·.1)).Nodup ∧
  SqI K H sq xs ∧ R1.Al (StpV e K H) xs sts ∧ In7 (hs sts) ∧ sts.length ≤ 200 ∧
  (AllR rows sts → ∀ o H', Same H H' → H o = none → PrIs e w K H' C o sts (denied rows (hs sts)) → Q (.ref o) H') ∧
  (∀ k, BadR rows sts k → ∀ p H', Same H H' → H p = none → H' p = some (.lst [.str "step", .int (k : Int)]) → Q (.ref p) H')
theorem ok_lr (T : Top K mg a) (ES : ErS K a.c_BadStep a.c_LookerError fI dI) (r : ClX.CRead K a.c_Propagation mc) (c : R1.SMet K a.c_Propagation mc "replayed" pR fR) (bR : Binds K dR ["clauses", "steps"] [])
    (G : FnOk P w K mg base (CX P w) 5 fR dR ["clauses", "steps"] (spRep e w K a.c_Propagation a.c_BadStep)) : FnOk P w K mg base CX0 6 a.f_l_replayed a.d_l_replayed ["_law_clauses_here", "_law_steps"] (spLr e w K a.c_Propagation) := by
  refine T.F_l_replayed.ok sc_l_replayed (fun vs H Q E h => ?_) (fun cdv A' outer s H vs Q E hr h => ?_)
  · obtain ⟨_, _, _, _, _, _, rfl, _⟩ := h
    rfl
  · obtain ⟨cd, sq, kvs, rows, xs, sts, rfl, hcd, hK, rok, nd, hsq, hA, h7, hl, q1, q2⟩ := h
    refine ⟨_, pss_cons (ps_try_as (i := 2) (Wout := fun _ _ _ _ => False) rfl rfl sc_l_replayed.nd rfl rfl ⟨rfl, by decide, .inl T.m_BadStep⟩ takes0
        (fun W pn xe tk _ => pss_one (ps_ret (R1.pe_smethS (E := WE W) (pe_glob (v := .ref _) (by rfl) T.m_Propagation rfl) r c (fnR0 G bR) (hr.mono (by decide)) (fun σ => passAt tk σ) (pa_cons (pv 0) (pa_cons (pv 1) pa_nil)))))
        (fun ea oe cls d pn hz hf => pss_one (ps_if (pt_val (pe_callB (R1.call_isX (K := K) rfl ES.xc hz hf) (by rfl) T.z_isinstance (by decide +kernel) (pa_cons (pv 2) (pa_cons (pe_glob (v := .ref _) (by rfl) T.m_LookerError rfl) pa_nil))))
          (pss_one (ps_ret (pe_lst (pa_cons pe_str (pa_cons (pe_xf ES.xf ES.noV hz hf (pv 2)) pa_nil))))) pss_nil)))
      (pss_one (ps_ret pe_non)), ?_⟩
    refine ⟨rfl, .ref cd, rfl, .ref sq, rfl, cd, sq, kvs, rows, xs, sts, rfl, hcd, hK, rok, nd, hsq, hA, h7, hl, fun ok o H' sm no hP => q1 ok o H' sm no hP, fun k q0 hp hq hr' H0 s0 d H' hd sm hxd => ⟨true, ES.te, fun _ ea hea => ?_, fun z => by cases z⟩⟩
    refine ⟨.ref ea, rfl, a.c_LookerError, true, d, _, rfl, rfl, hxd, rfl, ES.su, true, rfl, iteT ⟨.ref ea, rfl, rfl, rfl, d, _, .int (k : Int), rfl, hxd, rfl, Nat.le_of_lt (small1000 (by simp)), fun p np => ?_⟩⟩
    exact q2 k ⟨hp, q0, hq, hr'⟩ p _ ((s0.trans sm).trans (same_upd np)) (s0.free (sm.free np)) upd_same
end
end K16

/-! right steps lie within the plain propagation; the least label -/
namespace K16
open PySem PySem.Spec PyProof.Rows L2 RN
/-- the literals of the steps without a clause -/
def zeros (sts : List Stp) : List Lt := (sts.filter fun q => decide (q.2 = 0)).map (·.1)
theorem dd_mem {ls : List Lt} {l : Lt} (h : l ∈ ls) : l ∈ dd ls := by
  have key : ∀ (ls acc : List Lt), (l ∈ acc ∨ l ∈ ls) → l ∈ ls.foldl (fun acc l => if l ∈ acc then acc else acc ++ [l]) acc := by
    intro ls
    induction ls with
    | nil => intro acc h; exact h.elim id fun z => nomatch z
    | cons x ls ih =>
      intro acc h
      rw [List.foldl_cons]
      refine ih _ ?_
      rcases h with h | h
      · refine .inl ?_
        split
        · exact h
        · exact List.mem_append_left _ h
      · rcases List.mem_cons.mp h with rfl | h
        · refine .inl ?_
          split
          · assumption
          · exact List.mem_append_right _ (List.mem_singleton.mpr rfl)
        · exact .inr h
  exact key ls [] (.inr h)
theorem right_in {rows : List Row} {big : List Lt} {sts : List Stp} (hb : ∀ r ∈ rows, fires r.2 big = false) (h0 : ∀ l ∈ zeros sts, l ∈ big) (ok : AllR rows sts) : ∀ j, j ≤ sts.length → ∀ l ∈ hs (sts.take j), l ∈ big := by
  intro j
  induction j with
  | zero => intro _ l hl; exact nomatch hl
  | succ j ih =>
    intro hj l hl
    have g : sts[j]? = some (sts[j]'(by omega)) := List.getElem?_eq_getElem _
    have c := ok j _ g
    generalize sts[j]'(by omega) = q at g c
    rw [show sts.take (j + 1) = sts.take j ++ [q] by rw [List.take_add_one, g]; rfl, hs_snoc] at hl
    have sub := ih (by omega)
    rcases List.mem_append.mp hl with hl | hl
    · exact sub l hl
    · rw [List.mem_singleton.mp hl]
      unfold rightB at c
      simp only [Bool.and_eq_true, Bool.not_eq_true', decide_eq_false_iff_not] at c
      obtain ⟨_, c2⟩ := c
      by_cases z : q.2 = 0
      · refine h0 _ (List.mem_map.mpr ⟨q, List.mem_filter.mpr ⟨List.mem_of_getElem? g, decide_eq_true z⟩, rfl⟩)
      · rw [if_neg z] at c2
        cases f : rows.find? fun r => decide (r.1 = q.2) with
        | none => rw [f] at c2; cases c2
        | some r =>
          rw [f] at c2
          have e1 : left r.2 (hs (sts.take j)) = [q.1] := of_decide_eq_true c2
          have nb := hb r (List.mem_of_find?_eq_some f)
          have ls := left_sub (c := r.2) sub
          rw [e1] at ls
          unfold fires at nb
          simp only [Bool.or_eq_false_iff, decide_eq_false_iff_not, Bool.and_eq_false_imp, decide_eq_true_eq] at nb
          have nodupless : ∀ x ∈ left r.2 big, x = q.1 := fun x hx => List.mem_singleton.mp (ls x hx)
          have le1 : (left r.2 big).length ≤ 1 := by
            have key : ∀ c : List Lt, (left c big).length ≤ (left c (hs (sts.take j))).length := by
              intro c
              induction c with
              | nil => exact Nat.le_refl _
              | cons y c ihc =>
                unfold left at ihc ⊢
                rw [List.filter_cons, List.filter_cons]
                by_cases p : (!decide (ng y ∈ big)) = true
                · have p2 : (!decide (ng y ∈ hs (sts.take j))) = true := by
                    simp only [Bool.not_eq_true', decide_eq_false_iff_not] at p ⊢
                    exact fun z => p (sub _ z)
                  rw [if_pos p, if_pos p2, List.length_cons, List.length_cons]; omega
                · rw [if_neg p]
                  split
                  · rw [List.length_cons]; omega
                  · exact ihc
            have := key r.2
            rw [e1] at this
            exact this
          have one : (left r.2 big).length = 1 := by
            have := nb.1
            omega
          obtain ⟨y, hy⟩ := List.length_eq_one_iff.mp one
          have ym := nodupless y (by rw [hy]; exact List.mem_cons_self)
          have h3 := nb.2 one
          rw [hy, ym] at h3
          simpa using h3
theorem minL_spec : ∀ (l : List Nat) (a : Nat), ∃ m : Nat, (l.map fun n : Nat => (n : Int)).foldl (fun a y => if y < a then y else a) (a : Int) = (m : Int) ∧ (m = a ∨ m ∈ l) ∧ m ≤ a ∧ ∀ x ∈ l, m ≤ x
  | [], a => ⟨a, rfl, .inl rfl, Nat.le_refl _, fun x h => nomatch h⟩
  | y :: l, a => by
    rw [List.map_cons, List.foldl_cons]
    by_cases h : (y : Int) < (a : Int)
    · rw [if_pos h]
      obtain ⟨m, e1, e2, e3, e4⟩ := minL_spec l y
      refine ⟨m, e1, .inr ?_, by omega, fun x hx => ?_⟩
      · rcases e2 with e2 | e2
        · rw [e2]; exact List.mem_cons_self
        · exact List.mem_cons_of_mem _ e2
      · rcases List.mem_cons.mp hx with rfl | hx
        · exact e3
        · exact e4 x hx
    · rw [if_neg h]
      obtain ⟨m, e1, e2, e3, e4⟩ := minL_spec l a
      refine ⟨m, e1, e2.imp id (List.mem_cons_of_mem _), e3, fun x hx => ?_⟩
      rcases List.mem_cons.mp hx with rfl | hx
      · omega
      · exact e4 x hx
theorem srtN_asc (ns : List Nat) : (srtN ns).Pairwise (· ≤ ·) := by
  have T : PySem.W.TotalLe (PySem.W.dataLe false fun n : Nat => PyData.int (n : Int)) := PySem.W.sortLe_total (listOrd itemOrd) false fun b : Nat => PySem.W.keyToks (PyData.int (b : Int))
  refine List.Pairwise.imp (fun {a b} h => ?_) (PySem.W.sort_pairwise T ns)
  have h1 : (!lexLt itemOrd [Sum.inl (b : Int)] [Sum.inl (a : Int)]) = true := h
  by_cases c : b < a
  · exfalso
    have : lexLt itemOrd [Sum.inl (b : Int)] [Sum.inl (a : Int)] = true := by
      have c' : (b : Int) < (a : Int) := by omega
      show ((decide ((b : Int) < (a : Int))) || (!decide ((a : Int) < (b : Int)) && PyProof.Rows.lexLt itemOrd [] [])) = true
      rw [decide_eq_true c']; rfl
    rw [this] at h1
    cases h1
  · omega
/-- the least of them stands first where the rows are in ascending order -/
theorem denied_first {rows rs : List Row} {held : List Lt} (pm : rs.Perm rows) (asc : (rs.map (·.1)).Pairwise (· ≤ ·)) : (denL rs held ++ [0])[0]? = some (denied rows held) := by
  have pd : (denL rs held).Perm (denL rows held) := (pm.filter _).map _
  have ascd : (denL rs held).Pairwise (· ≤ ·) := List.Pairwise.sublist (List.Sublist.map _ List.filter_sublist) asc
  cases e : denL rs held with
  | nil =>
    rw [e] at pd
    have : denL rows held = [] := List.Perm.nil_eq pd |>.symm
    unfold denied
    rw [this]; rfl
  | cons x t =>
    rw [e] at pd ascd
    have mx : ∀ z ∈ t, x ≤ z := fun z hz => List.rel_of_pairwise_cons ascd hz
    unfold denied
    cases e2 : denL rows held with
    | nil => rw [e2] at pd; exact absurd pd.length_eq (by simp)
    | cons y u =>
      rw [e2] at pd
      obtain ⟨m, h1, h2, h3, h4⟩ := minL_spec u y
      have h1' : R0.minL 0 ((y :: u).map fun n : Nat => (n : Int)) = (m : Int) := h1
      rw [h1']
      have mm : m ∈ y :: u := h2.elim (fun z => by rw [z]; exact List.mem_cons_self) (List.mem_cons_of_mem _)
      have xm : x ∈ y :: u := pd.mem_iff.mp List.mem_cons_self
      have le1 : m ≤ x := by
        rcases List.mem_cons.mp xm with rfl | z
        · exact h3
        · exact h4 x z
      have le2 : x ≤ m := by
        rcases List.mem_cons.mp (pd.mem_iff.mpr mm) with rfl | z
        · exact Nat.le_refl _
        · exact mx _ z
      have : x = m := by omega
      subst this
      simp
end K16

/-! steps as data; what stands while steps are asked -/
namespace K16
open PySem PySem.Spec PyProof.Rows L2 RN
section
variable {P : Program} {w : World} {K : PySem.W.Frag} {mg : Str → Option Value} {base : Heap} {a : Ad} {e : Nat → PyData} {p : Pd} {fI : Addr} {dI : FuncData}
theorem mt_indexDK {X : Cx} {K : PySem.W.Frag} (hu : X.A.units + 65 < cLine) (hK : X.K = K) : MtR X "list.index" (rIndexD K) := by subst hK; exact mt_indexD hu
def eS (e : Nat → PyData) (q : Stp) : PyData := .tuple [eL e q.1, .int (q.2 : Int)]
theorem wlAll_map {α : Type} {f : α → PyData} {m : Nat} : ∀ {l : List α}, (∀ x ∈ l, wl (f x) ≤ m) → wlAll (l.map f) ≤ m * l.length
  | [], _ => Nat.zero_le _
  | x :: l, h => by
    have i := wlAll_map (f := f) (m := m) (l := l) fun y hy => h y (List.mem_cons_of_mem _ hy)
    have j := h x List.mem_cons_self
    show wl (f x) + wlAll (l.map f) ≤ m * (l.length + 1)
    rw [Nat.mul_add, Nat.mul_one]; omega
theorem depthAll_map {α : Type} {f : α → PyData} {m : Nat} : ∀ {l : List α}, (∀ x ∈ l, (f x).depth ≤ m) → PyData.depthAll (l.map f) ≤ m
  | [], _ => Nat.zero_le _
  | x :: l, h => by
    have i := depthAll_map (f := f) (m := m) (l := l) fun y hy => h y (List.mem_cons_of_mem _ hy)
    have j := h x List.mem_cons_self
    show max (f x).depth (PyData.depthAll (l.map f)) ≤ m
    omega
theorem eL_wl (A : AtOk e) {l : Lt} (h : l.1 < 7) : wl (eL e l) ≤ 102 := by
  have := A.wt _ h
  show 2 + (wl (e l.1) + (0 + 0)) ≤ 102
  omega
theorem eS_dep (A : AtOk e) {q : Stp} (h : q.1.1 < 7) : (eS e q).depth ≤ 22 ∧ wl (eS e q) ≤ 104 := by
  have h1 := eL_d A h
  have h2 := eL_wl A h
  refine ⟨?_, ?_⟩
  · show max (eL e q.1).depth (max 0 0) + 1 ≤ 22
    omega
  · show 2 + (wl (eL e q.1) + (0 + 0)) ≤ 104
    omega
theorem hs_mem {st : List Stp} (h7 : In7 (hs st)) : ∀ q ∈ st, q.1.1 < 7 := fun q hq => h7 _ (by unfold hs; exact List.mem_map.mpr ⟨q, hq, rfl⟩)
theorem stis_dp {H : Hp} {t : Addr} {st : List Stp} (h : StIs e K H t st) : Dp K H (.ref t) (.tuple (st.map (eS e))) := by
  obtain ⟨cs, es, h1, h2, h3, h4⟩ := h
  have le := Paired.length h4
  refine .tup (frz_sq h1) (al_dps ⟨by rw [List.length_map]; omega, fun i x q hx hq => ?_⟩)
  rw [List.getElem?_map] at hx
  cases g : cs[i]? with
  | none => rw [g] at hx; cases hx
  | some c =>
    rw [g] at hx
    cases hx
    have lt := (List.getElem?_eq_some_iff.mp g).1
    obtain ⟨p0, g0, q1, g1, z1, z2, z3⟩ := Paired.at' h4 (show i < es.length by omega)
    rw [hq] at g1
    cases g1
    have := h3 i c p0 g g0
    rw [z3] at this
    exact .tup this (.cons z2 (.cons (.int _) .nil))
theorem stpv_dp {H : Hp} {x : V} {q : Stp} (h : StpV e K H x q) : Dp K H x (eS e q) := by
  obtain ⟨b, y, rfl, h1, h2⟩ := h
  exact .tup h1 (.cons h2 (.cons (.int _) .nil))
theorem st_bounds (A : AtOk e) {st : List Stp} (h7 : In7 (hs st)) (hl : st.length ≤ 200) : (PyData.tuple (st.map (eS e))).depth ≤ 23 ∧ wl (.tuple (st.map (eS e))) ≤ 30000 := by
  have h1 := depthAll_map (f := eS e) (m := 22) (l := st) fun q hq => (eS_dep A (hs_mem h7 q hq)).1
  have h2 := wlAll_map (f := eS e) (m := 104) (l := st) fun q hq => (eS_dep A (hs_mem h7 q hq)).2
  refine ⟨?_, ?_⟩
  · show PyData.depthAll (st.map (eS e)) + 1 ≤ 23
    omega
  · show (st.map (eS e)).length + wlAll (st.map (eS e)) ≤ 30000
    rw [List.length_map]; omega
theorem ls_bounds (A : AtOk e) {ls : List Lt} (h7 : In7 ls) (hl : ls.length ≤ 200) : PyData.depthAll (ls.map (eL e)) ≤ 21 ∧ (ls.map (eL e)).length + wlAll (ls.map (eL e)) ≤ 30000 := by
  have h1 := depthAll_map (f := eL e) (m := 21) (l := ls) fun q hq => eL_d A (h7 q hq)
  have h2 := wlAll_map (f := eL e) (m := 102) (l := ls) fun q hq => eL_wl A (h7 q hq)
  exact ⟨h1, by rw [List.length_map]; omega⟩
theorem pr_same (A : AtOk e) {H H' : Hp} {C o : Addr} {st : List Stp} {k : Nat} (h7 : In7 (hs st)) (s : Same H H') (h : PrIs e w K H C o st k) : PrIs e w K H' C o st k := by
  obtain ⟨dx, t, lt, ld, h1, h2, h3, es, h4, h5⟩ := h
  obtain ⟨xs, x1, x2⟩ := h3
  exact ⟨dx, t, lt, ld, s _ _ h1, st_kp A h1 True.intro (Same.kp s) h7 h2, ⟨xs, s _ _ x1, al_tk A h7 (Same.tk s) x2⟩, es, s _ _ h4, es_tk A (Same.tk s) h7 h5⟩
end
end K16
namespace K16
open PySem PySem.Spec PyProof.Rows L2 RN
theorem run_mem {Pr : Lt → Prop} {rows : List Row} (hr : ∀ r ∈ rows, ∀ l ∈ r.2, Pr l) : ∀ (n : Nat) (st : List Stp), (∀ l ∈ hs st, Pr l) → ∀ l ∈ hs (run n rows st).1, Pr l
  | 0, _, h => h
  | n + 1, st, h => by
    unfold run
    cases hc : chosen rows (hs st) with
    | none => exact h
    | some r =>
      cases hl : left r.2 (hs st) with
      | nil => simpa only [hl] using h
      | cons l ls =>
        simp only [hl]
        refine run_mem hr n _ fun x hx => ?_
        rw [hs_snoc] at hx
        rcases List.mem_append.mp hx with hx | hx
        · exact h x hx
        · rw [List.mem_singleton.mp hx]
          refine hr r (chosen_mem hc).1 l ?_
          have : l ∈ left r.2 (hs st) := by rw [hl]; exact List.mem_cons_self
          exact (List.mem_filter.mp this).1
theorem run_len {rows : List Row} : ∀ (n : Nat) (st : List Stp), (run n rows st).1.length ≤ st.length + n
  | 0, _ => Nat.le_refl _
  | n + 1, st => by
    unfold run
    cases hc : chosen rows (hs st) with
    | none => simp
    | some r =>
      cases hl : left r.2 (hs st) with
      | nil => simp only [hl]; omega
      | cons l ls =>
        simp only [hl]
        have := run_len (rows := rows) n (st ++ [(l, r.1)])
        rw [List.length_append] at this
        simp at this
        omega
theorem srtN_same {l m : List Nat} (h : l.Perm m) : srtN l = srtN m := by
  have T : PySem.W.TotalLe (PySem.W.dataLe false fun n : Nat => PyData.int (n : Int)) := PySem.W.sortLe_total (listOrd itemOrd) false fun b : Nat => PySem.W.keyToks (PyData.int (b : Int))
  refine List.Perm.eq_of_pairwise (le := fun a b => PySem.W.dataLe false (fun n : Nat => PyData.int (n : Int)) a b = true) (fun a b ha hb h1 h2 => ?_) (PySem.W.sort_pairwise T l) (PySem.W.sort_pairwise T m) ((srtN_perm l).trans (h.trans (srtN_perm m).symm))
  have g1 : (!lexLt itemOrd (PySem.W.keyToks (PyData.int (b : Int))) (PySem.W.keyToks (PyData.int (a : Int)))) = true := h1
  have g2 : (!lexLt itemOrd (PySem.W.keyToks (PyData.int (a : Int))) (PySem.W.keyToks (PyData.int (b : Int)))) = true := h2
  have q := toks_eq (show PySem.W.alike (PyData.int (a : Int)) (PyData.int (b : Int)) = true by simp [PySem.W.alike]) (lex_total _ _ (by simpa using g2) (by simpa using g1))
  have q2 : ((a : Int) == (b : Int)) = true := q
  have := beq_iff_eq.mp q2
  omega
theorem rows_sub {rows l : List Row} (nd : (rows.map (·.1)).Nodup) (h : ∀ r ∈ l, r ∈ rows) : rowsOf (Rof rows) (l.map (·.1)) = l := by
  unfold rowsOf
  rw [List.map_map]
  induction l with
  | nil => rfl
  | cons r l ih =>
    rw [List.map_cons, ih fun x hx => h x (List.mem_cons_of_mem _ hx)]
    congr 1
    exact Prod.ext rfl (Rof_mem nd r (h r List.mem_cons_self))
section
variable {P : Program} {w : World} {K : PySem.W.Frag} {mg : Str → Option Value} {base : Heap} {a : Ad} {e : Nat → PyData} {p : Pd}
theorem ck_of {H : Hp} {kvs : List (Key × V)} {rows : List Row} (h : KvIs e K H kvs rows) (nd : (rows.map (·.1)).Nodup) : CkIs e K H kvs (Rof rows) (rows.map (·.1)) := fun n hn => by
  obtain ⟨r, hr, rfl⟩ := List.mem_map.mp hn
  obtain ⟨c0, h1, h2⟩ := kv_find h nd r hr
  exact ⟨c0, h1, by rw [Rof_mem nd r hr]; exact h2⟩
theorem rof_ok {rows : List Row} (h : Rows6 rows) : ∀ n ∈ rows.map (·.1), (Rof rows n).length ≤ 3 ∧ In7 (Rof rows n) := fun n hn => by
  obtain ⟨r, hr, rfl⟩ := List.mem_map.mp hn
  rw [Rof_mem h.2.1 r hr]
  exact ⟨(h.2.2 r hr).2.2.1, (h.2.2 r hr).2.2.2.1.to7⟩
/-- the start, a list -/
def S0Is (e : Nat → PyData) (K : PySem.W.Frag) (H : Hp) (s0 : Addr) (ls : List Lt) : Prop := ∃ xs, H s0 = some (.lst xs) ∧ R1.Al (Li e K H) xs ls
/-- the due steps -/
def DueIs (e : Nat → PyData) (K : PySem.W.Frag) (H : Hp) (dp : Addr) (r : List Stp × Nat) : Prop := ∃ sl ys, H dp = some (.lst [.ref sl, .int (r.2 : Int)]) ∧ H sl = some (.lst ys) ∧ R1.Al (StpV e K H) ys r.1
def DiIs (e : Nat → PyData) (K : PySem.W.Frag) (H : Hp) (d : Addr) (rows : List Row) : Prop := ∃ kvs, H d = some (.dK kvs) ∧ KvIs e K H kvs rows
theorem S0Is.same (A : AtOk e) {H H' : Hp} {s0 : Addr} {ls : List Lt} (h7 : In7 ls) (s : Same H H') (h : S0Is e K H s0 ls) : S0Is e K H' s0 ls := let ⟨xs, h1, h2⟩ := h; ⟨xs, s _ _ h1, al_tk A h7 (Same.tk s) h2⟩
theorem DueIs.same (A : AtOk e) {H H' : Hp} {dp : Addr} {r : List Stp × Nat} (h7 : In7 (hs r.1)) (s : Same H H') (h : DueIs e K H dp r) : DueIs e K H' dp r := let ⟨sl, ys, h1, h2, h3⟩ := h; ⟨sl, ys, s _ _ h1, s _ _ h2, stp_tk A h7 (Same.tk s) h3⟩
theorem DiIs.same (A : AtOk e) {H H' : Hp} {d : Addr} {rows : List Row} (ok : RsOk rows) (s : Same H H') (h : DiIs e K H d rows) : DiIs e K H' d rows := let ⟨kvs, h1, h2⟩ := h; ⟨kvs, s _ _ h1, h2.tk A ok (Same.tk s)⟩
theorem li_ref {H : Hp} {x : V} {l : Lt} (h : Li e K H x l) : ∃ q, x = .ref q := let ⟨q, _, h, _⟩ := li_split h; ⟨q, h⟩
theorem S0Is.kp (A : AtOk e) {H H' : Hp} {sc st s0 : Addr} {ls : List Lt} (h7 : In7 ls) (S : Sta sc H st) (k : Kp st H H') (h : S0Is e K H s0 ls) : S0Is e K H' s0 ls := by
  obtain ⟨xs, h1, h2⟩ := h
  refine ⟨xs, k _ _ (fun z => ?_) h1, al_tk A h7 (sta_tk S k) h2⟩
  obtain ⟨ns, i, b, s, l, hne, hst, _⟩ := S.ex
  rw [z, hst] at h1
  cases h1
  obtain ⟨_, _, m⟩ := h2.at (i := 1) (x := .int i) rfl
  obtain ⟨q, e1⟩ := li_ref m
  cases e1
theorem DueIs.kp (A : AtOk e) {H H' : Hp} {sc st dp : Addr} {r : List Stp × Nat} (h7 : In7 (hs r.1)) (S : Sta sc H st) (k : Kp st H H') (h : DueIs e K H dp r) : DueIs e K H' dp r := by
  obtain ⟨sl, ys, h1, h2, h3⟩ := h
  obtain ⟨ns, i, b, s, l, hne, hst, _⟩ := S.ex
  refine ⟨sl, ys, k _ _ (fun z => ?_) h1, k _ _ (fun z => ?_) h2, stp_tk A h7 (sta_tk S k) h3⟩
  · rw [z, hst] at h1
    cases h1
  · rw [z, hst] at h2
    cases h2
    obtain ⟨_, _, b1, y1, e1, _⟩ := h3.at (i := 1) (x := .int i) rfl
    cases e1
theorem DiIs.kp (A : AtOk e) {H H' : Hp} {sc st d : Addr} {rows : List Row} (ok : RsOk rows) (S : Sta sc H st) (k : Kp st H H') (h : DiIs e K H d rows) : DiIs e K H' d rows := by
  obtain ⟨kvs, h1, h2⟩ := h
  refine ⟨kvs, k _ _ (fun z => ?_) h1, h2.tk A ok (sta_tk S k)⟩
  obtain ⟨ns, i, b, s, l, hne, hst, _⟩ := S.ex
  rw [z, hst] at h1
  cases h1
/-- the object stays while another list or dict changes -/
theorem pr_but (A : AtOk e) {H H' : Hp} {C o q : Addr} {ob : HO} {st : List Stp} {k : Nat} (h7 : In7 (hs st)) (hq : H q = some ob) (hn : NoTup ob) (h1 : ∀ dx fs, ob ≠ .ins C dx fs) (h2 : ∀ xs, ob ≠ .tup xs) (h3 : ∀ es, ob ≠ dN w q es) (kp : Kp q H H') (h : PrIs e w K H C o st k) : PrIs e w K H' C o st k := by
  obtain ⟨dx, t, lt, ld, g1, g2, ⟨xs, g3, g3'⟩, es, g4, g5⟩ := h
  have tk := kp_tk hq hn kp
  refine ⟨dx, t, lt, ld, kp _ _ (fun z => ?_) g1, st_kp A hq hn kp h7 g2, ⟨xs, kp _ _ (fun z => ?_) g3, al_tk A h7 tk g3'⟩, es, kp _ _ (fun z => ?_) g4, es_tk A tk h7 g5⟩
  · rw [z, hq] at g1; exact h1 _ _ (Option.some.inj g1)
  · rw [z, hq] at g3; exact h2 _ (Option.some.inj g3)
  · rw [z, hq] at g4; exact h3 _ (Option.some.inj g4)
end
end K16


/-! steps are asked -/
namespace K16
open PySem PySem.Spec PyProof.Rows L2 RN
section
variable {P : Program} {w : World} {K : PySem.W.Frag} {mg : Str → Option Value} {base : Heap} {a : Ad} {e : Nat → PyData} {p : Pd} {fI fL : Addr} {dI dL : FuncData}
theorem kbp2 (T : Top K mg a) : ∃ (its mv : List Value), KBn K a.d_propagate ["clauses", "start", "order"] 2 [] (fun us ws => us ++ (mv ++ ws)) (fun vs zs => vs ++ ([.non] ++ zs)) :=
  T.F_propagate.kbinds 2 [] [("order", .non)] (fun us its mv ws => us ++ (mv ++ ws)) (by simp) (by simp) (fun q h => h) (fun r1 r2 r3 r4 => r1.append (r3.append r4)) fun Tt D doc pm an cdv ct us its mv ws l1 l2 l3 l4 => by
    match us, its, mv, ws, l1, l2, l3, l4 with
    | [u1, u2], [i], [m], [], _, _, _, _ => exact ⟨_, rfl, ⟨_, _, _, _, _, _, rfl, rfl, rfl⟩⟩
theorem cut_take {xs : List V} {k : Nat} (h : k ≤ xs.length) : cutV xs none (some (k : Int)) = xs.take k := by
  unfold cutV
  rw [HT.sIx_nat, HT.sIx_none, Nat.min_eq_left h, List.drop_zero, Nat.sub_zero]
theorem al_takeS {R : V → Stp → Prop} {xs : List V} {rs : List Stp} (k : Nat) (h : R1.Al R xs rs) : R1.Al R (xs.take k) (rs.take k) := by
  refine ⟨by rw [List.length_take, List.length_take, h.1], fun i x r hx hr => ?_⟩
  have lt : i < k := by
    have := (List.getElem?_eq_some_iff.mp hx).1
    rw [List.length_take] at this
    omega
  rw [List.getElem?_take_of_lt lt] at hx hr
  exact h.2 i x r hx hr
theorem bad_one {rows : List Row} {sts : List Stp} {j k : Nat} (h : BadR rows sts j) (g : BadR rows sts k) : j = k := by
  obtain ⟨a1, q, a2, a3⟩ := h
  obtain ⟨b1, r, b2, b3⟩ := g
  by_cases c : j < k
  · have := b1 j q c a2
    rw [a3] at this; cases this
  · by_cases c2 : k < j
    · have := a1 k r c2 b2
      rw [b3] at this; cases this
    · omega
theorem allr_nodup {rows : List Row} {sts : List Stp} (ok : AllR rows sts) : (hs sts).Nodup := by
  have key : ∀ j, j ≤ sts.length → (hs (sts.take j)).Nodup := by
    intro j
    induction j with
    | zero => intro _; exact List.nodup_nil
    | succ j ih =>
      intro hj
      have g : sts[j]? = some (sts[j]'(by omega)) := List.getElem?_eq_getElem _
      have c := ok j _ g
      rw [show sts.take (j + 1) = sts.take j ++ [sts[j]'(by omega)] by rw [List.take_add_one, g]; rfl, hs_snoc]
      unfold rightB at c
      simp only [Bool.and_eq_true, Bool.not_eq_true', decide_eq_false_iff_not] at c
      refine List.nodup_append.mpr ⟨ih (by omega), by simp, fun x hx y hy z => ?_⟩
      rw [List.mem_singleton.mp hy] at z
      subst z
      exact c.1 hx
  have := key sts.length (Nat.le_refl _)
  rwa [List.take_length] at this
theorem find_self {q : Stp} : ∀ {sts : List Stp}, (hs sts).Nodup → q ∈ sts → sts.find? (fun z => decide (z.1 = q.1)) = some q
  | [], _, h => nomatch h
  | z :: sts, nd, h => by
    have nd' : z.1 ∉ hs sts ∧ (hs sts).Nodup := List.nodup_cons.mp nd
    rw [List.find?_cons]
    rcases List.mem_cons.mp h with rfl | h
    · rw [decide_eq_true rfl]
    · have ne : z.1 ≠ q.1 := fun e => nd'.1 (by rw [e]; unfold hs; exact List.mem_map.mpr ⟨q, h, rfl⟩)
      rw [decide_eq_false ne]
      exact find_self nd'.2 h
theorem zeros_snoc (st : List Stp) (q : Stp) : zeros (st ++ [q]) = if q.2 = 0 then zeros st ++ [q.1] else zeros st := by
  unfold zeros
  rw [List.filter_append, List.map_append]
  by_cases h : q.2 = 0
  · rw [if_pos h, List.filter_cons, if_pos (decide_eq_true h)]; rfl
  · rw [if_neg h, List.filter_cons, if_neg (by simpa using h), List.filter_nil, List.map_nil, List.append_nil]
theorem zeros_sub {st : List Stp} {l : Lt} (h : l ∈ zeros st) : l ∈ hs st := by
  obtain ⟨q, h1, h2⟩ := List.mem_map.mp h
  unfold hs
  exact List.mem_map.mpr ⟨q, (List.mem_filter.mp h1).1, h2⟩
def spAsk (e : Nat → PyData) (K : PySem.W.Frag) : Sp := fun vs H Q _ => ∃ (rl sq : Addr) (rows : List Row) (ys : List V) (sts : List Stp), vs = [.ref rl, .ref sq] ∧ RwsIs e K H rl rows ∧ Rows6 rows ∧ H sq = some (.lst ys) ∧ R1.Al (StpV e K H) ys sts ∧ In7 (hs sts) ∧ sts.length ≤ 150 ∧ (zeros sts).length ≤ 20 ∧ ∀ H', Same H H' → Q (.bl true) H'
theorem sts_tk (A : AtOk e) {H H' : Hp} {ys : List V} {sts : List Stp} (h7 : In7 (hs sts)) (s : Same H H') (h : R1.Al (StpV e K H) ys sts) : R1.Al (StpV e K H') ys sts := stp_tk A h7 (Same.tk s) h
theorem eS_cl (A : AtOk e) {q : Stp} (h : q.1.1 < 7) : (eS e q).canLay0 = true := by
  show ((eL e q.1).canLay0 && (true && true)) = true
  rw [eL_cl A h]; rfl
theorem sts_shaped (A : AtOk e) {sts : List Stp} (h7 : In7 (hs sts)) : SeqAt.shaped (.list (sts.map (eS e))) = true := by
  have c : PyData.canLayAll0 (sts.map (eS e)) = true := by
    have key : ∀ l : List Stp, (∀ q ∈ l, q.1.1 < 7) → PyData.canLayAll0 (l.map (eS e)) = true := by
      intro l
      induction l with
      | nil => intro _; rfl
      | cons q l ih =>
        intro h
        show ((eS e q).canLay0 && PyData.canLayAll0 (l.map (eS e))) = true
        rw [eS_cl A (h q List.mem_cons_self), ih fun x hx => h x (List.mem_cons_of_mem _ hx)]; rfl
    exact key sts (hs_mem h7)
  have d : (PyData.list (sts.map (eS e))).depth ≤ 64 := by
    have := depthAll_map (f := eS e) (m := 22) (l := sts) fun q hq => (eS_dep A (hs_mem h7 q hq)).1
    show PyData.depthAll (sts.map (eS e)) + 1 ≤ 64
    omega
  unfold SeqAt.shaped
  rw [show (PyData.list (sts.map (eS e))).canLay0 = true from c, decide_eq_true d]; rfl
theorem sts_dp {H : Hp} {l : Addr} {ys : List V} {sts : List Stp} (hl : H l = some (.lst ys)) (h : R1.Al (StpV e K H) ys sts) : Dp K H (.ref l) (.list (sts.map (eS e))) := .lst (.of hl) (al_dps (h.mono fun x r h => stpv_dp h))
/-- what the replaying brings -/
def Fnd (e : Nat → PyData) (w : World) (K : PySem.W.Frag) (C : Addr) (rows : List Row) (sts : List Stp) (v : V) (H : Hp) : Prop := (AllR rows sts ∧ ∃ o, v = .ref o ∧ PrIs e w K H C o sts (denied rows (hs sts))) ∨ ∃ (k : Nat) (p : Addr), BadR rows sts k ∧ v = .ref p ∧ H p = some (.lst [.str "step", .int (k : Int)])
theorem Fnd.same (A : AtOk e) {C : Addr} {rows : List Row} {sts : List Stp} {v : V} {H H' : Hp} (h7 : In7 (hs sts)) (s : Same H H') (h : Fnd e w K C rows sts v H) : Fnd e w K C rows sts v H' := by
  rcases h with ⟨ok, o, rfl, hP⟩ | ⟨k, p, bad, rfl, hp⟩
  · exact .inl ⟨ok, o, rfl, pr_same A h7 s hP⟩
  · exact .inr ⟨k, p, bad, rfl, s _ _ hp⟩
theorem ok_asked {LA OA LO OO fO : Addr} {dO : FuncData} (A : AtOk e) (T : Top K mg a) (B : PrC K a.c_Propagation p) (EL : ErX K a.c_BadLiteral LA OA fL dL "BadLiteral.__init__" initL)
    (G_l_alike : FnOk P w K mg base CX0 30 a.f_l_alike a.d_l_alike ["_law_actual", "_law_due"] (spAl (Sm K 30)))
    (G_l_dict : FnOk P w K mg base CX0 1 a.f_l_dict a.d_l_dict ["_law_rows"] (spDict e K)) (G_l_by_label : FnOk P w K mg base CX0 2 a.f_l_by_label a.d_l_by_label ["_law_rows"] (spBy e K))
    (G_l_left : FnOk P w K mg base CX0 2 a.f_l_left a.d_l_left ["_law_clause_here", "_law_held"] (spLeft e K))
    (G_l_propagated : FnOk P w K mg base CX0 3 a.f_l_propagated a.d_l_propagated ["_law_rows", "_law_start"] (spPg e K))
    (G_l_step_right : FnOk P w K mg base CX0 2 a.f_l_step_right a.d_l_step_right ["_law_clauses_here", "_law_earlier", "_law_step"] (spSr e K))
    (G_l_replayed : FnOk P w K mg base CX0 6 a.f_l_replayed a.d_l_replayed ["_law_clauses_here", "_law_steps"] (spLr e w K a.c_Propagation))
    (G_propagate : FnOk P w K mg base (CX P w) 5 a.f_propagate a.d_propagate ["clauses", "start", "order"] (spProp e w K a.c_Propagation a.c_BadOrder)) : FnOk P w K mg base CX0 31 a.f_l_asked a.d_l_asked ["_law_rows", "_law_steps"] (spAsk e K) := by
  obtain ⟨_, _, KB2⟩ := kbp2 T
  have G_len := ok_len (P := P) (w := w) (base := base) (e := e) T B
  have G_iter := ok_iter (P := P) (w := w) (base := base) T B
  have G_cont := ok_cont (P := P) (w := w) (base := base) A T B
  have G_get := ok_get (P := P) (w := w) (base := base) A T B EL
  refine T.F_l_asked.ok sc_l_asked (fun vs H Q E h => ?_) (fun cdv A' outer s H vs Q E hr h => ?_)
  · obtain ⟨_, _, _, _, _, rfl, _⟩ := h
    rfl
  · obtain ⟨rl, sq, rows, ys, sts, rfl, hrw, r6, hsq, hys, h7, hl, hz, q⟩ := h
    refine ⟨_, (pss_cons (ps_set (i := 2) sc_l_asked.nd rfl (.inl rfl) (pe_call G_l_dict (hr.mono (by decide)) (by rfl) T.m_l_dict T.F_l_dict.kp T.b_l_dict .nil pass0 (pa_cons (pv 0) pa_nil)))
    (pss_cons (ps_set (i := 3) sc_l_asked.nd rfl (.inl rfl) (pe_lst (pa_cons (pe_callTy R1.call_dict_of (by rfl) T.z_dict (by decide +kernel) (pa_cons (pv 2) pa_nil)) (pa_cons (pe_callTy call_list_of (by rfl) T.z_list (by decide +kernel) (pa_cons (pv 1) pa_nil)) pa_nil))))
    (C8.pss_cut (ps_set (i := 4) sc_l_asked.nd rfl (.inl rfl) (pe_call G_l_replayed (hr.mono (by decide)) (by rfl) T.m_l_replayed T.F_l_replayed.kp T.b_l_replayed .nil pass0 (pa_cons (pe_ix ix_seq (pv 3) pe_int (fun _ _ => rfl)) (pa_cons (pe_ix ix_seq (pv 3) pe_int (fun _ _ => rfl)) pa_nil))))
    (pss_cons (ps_if (pt_cmpR (RN.op_neDL (u80 hr)) (pv 3) (pe_lst (pa_cons (pv 2) (pa_cons (pv 1) pa_nil))) (nomark _))
      (pss_one (ps_ret pe_bl))
      pss_nil)
    (pss_cons (ps_expr (pe_dclear (pe_ix ix_seq (pv 3) pe_int (fun _ _ => rfl))))
    (C8.pss_cut (ps_expr (pe_bm0 PySem.F.plainAttrs_list PySem.F.slot_list_clear PySem.F.type_list_clear mt_clear (pe_ix ix_seq (pv 3) pe_int (fun _ _ => rfl)) ))
    (pss_cons (ps_for PassesOwn.never rfl (pi_range1 (by rfl) T.z_range (pa_cons (pe_callB (CallR.or call_len_str call_len_seq) (by rfl) T.z_len (by decide +kernel) (pa_cons (pv 1) pa_nil)) pa_nil)) (pg_name (i := 5) sc_l_asked.nd rfl (.inl rfl))
      (pss_one (ps_if (pt_not (pt_val (pe_call G_l_step_right (hr.mono (by decide)) (by rfl) T.m_l_step_right T.F_l_step_right.kp T.b_l_step_right .nil pass0 (pa_cons (pv 2) (pa_cons (pe_slice (SlR.or sl_str (SlR.or sl_list sl_tup)) (pv 1) po_none (po_some (pv 5))) (pa_cons (pe_ix ix_seq (pv 1) (pv 5) (fun _ _ => rfl)) pa_nil))))))
        (pss_one (ps_ret (pe_call G_l_alike (hr.mono (by decide)) (by rfl) T.m_l_alike T.F_l_alike.kp T.b_l_alike .nil pass0 (pa_cons (pv 4) (pa_cons (pe_lst (pa_cons pe_str (pa_cons (pv 5) pa_nil))) pa_nil)))))
        pss_nil)))
    (pss_cons (ps_set (i := 6) sc_l_asked.nd rfl (.inr rfl) (pe_lc (own := [("_law_step", 12)]) rfl sc_l_asked.nd (R1.PI.or (pi_list (pv 1)) (pi_tup (pv 1))) (blkOk_by (own := [("_law_step", 12)]) (N := ["_law_rows", "_law_steps", "_law_clauses_here", "_law_handed", "_law_found", "_law_k", "_law_literals", "_law_denied", "_law_literal", "_law_label", "_law_start", "_law_plain", "_law_step", "_law_row"]) (sc := defScope s_l_asked) (by decide +kernel)) (fun _ _ _ _ _ => (pg_name (i := 12) sc_l_asked.nd rfl (.inl rfl))) (fun _ _ _ _ _ => pts_nil) (fun _ _ _ _ _ => (pe_ix (R1.ix_seqK (K := K) rfl) (pv 12) pe_int (fun _ _ => rfl)))))
    (pss_cons (ps_setLc (own := [("_law_row", 13)]) (i := 7) rfl sc_l_asked.nd rfl rfl (sw_true rfl rfl rfl (by decide +kernel)) (R1.PI.or (pi_list (pe_call G_l_by_label (hr.mono (by decide)) (by rfl) T.m_l_by_label T.F_l_by_label.kp T.b_l_by_label .nil pass0 (pa_cons (pv 0) pa_nil))) (pi_tup (pe_call G_l_by_label (hr.mono (by decide)) (by rfl) T.m_l_by_label T.F_l_by_label.kp T.b_l_by_label .nil pass0 (pa_cons (pv 0) pa_nil)))) (blkOk_by (own := [("_law_row", 13)]) (N := ["_law_rows", "_law_steps", "_law_clauses_here", "_law_handed", "_law_found", "_law_k", "_law_literals", "_law_denied", "_law_literal", "_law_label", "_law_start", "_law_plain", "_law_step", "_law_row"]) (sc := defScope s_l_asked) (by decide +kernel)) (fun _ _ _ _ _ => (pg_name (i := 13) sc_l_asked.nd rfl (.inl rfl))) (fun _ _ _ _ _ => pts_one (pt_cmpR op_eq (pe_callB (call_lenK (K := K) rfl) (by rfl) T.z_len (by decide +kernel) (pa_cons (pe_call G_l_left (hr.mono (by decide)) (by rfl) T.m_l_left T.F_l_left.kp T.b_l_left .nil pass0 (pa_cons (pe_ix (R1.ix_seqK (K := K) rfl) (pv 13) pe_int (fun _ _ => rfl)) (pa_cons (pv 6) pa_nil))) pa_nil)) pe_int (nomark _))) (fun _ _ _ _ _ => (pe_ix (R1.ix_seqK (K := K) rfl) (pv 13) pe_int (fun _ _ => rfl))))
    (pss_cons (ps_if (PW.pt (pw_or (pt_not (pt_val (pe_callB (C8.call_isC B.ins) (by rfl) T.z_isinstance (by decide +kernel) (pa_cons (pv 4) (pa_cons (pe_glob (v := .ref _) (by rfl) T.m_Propagation rfl) pa_nil))))) (pw_or1 (pt_not (pt_val (pe_call G_l_alike (hr.mono (by decide)) (by rfl) T.m_l_alike T.F_l_alike.kp T.b_l_alike .nil pass0 (pa_cons (pe_fld (pv 4) (by rfl)) (pa_cons (pe_callTy call_tuple_of (by rfl) T.z_tuple (by decide +kernel) (pa_cons (pv 1) pa_nil)) pa_nil))))))))
      (pss_one (ps_ret pe_bl))
      pss_nil)
    (pss_cons (ps_if (pt_not (pt_val (pe_call G_l_alike (hr.mono (by decide)) (by rfl) T.m_l_alike T.F_l_alike.kp T.b_l_alike .nil pass0 (pa_cons (pe_fld (pe_call G_l_replayed (hr.mono (by decide)) (by rfl) T.m_l_replayed T.F_l_replayed.kp T.b_l_replayed .nil pass0 (pa_cons (pv 2) (pa_cons (pe_callTy call_tuple_of (by rfl) T.z_tuple (by decide +kernel) (pa_cons (pv 1) pa_nil)) pa_nil))) (by rfl)) (pa_cons (pe_callTy call_tuple_of (by rfl) T.z_tuple (by decide +kernel) (pa_cons (pv 1) pa_nil)) pa_nil)))))
      (pss_one (ps_ret pe_bl))
      pss_nil)
    (pss_cons (ps_if (pt_not (pt_val (pe_call G_l_alike (hr.mono (by decide)) (by rfl) T.m_l_alike T.F_l_alike.kp T.b_l_alike .nil pass0 (pa_cons (pe_lst (pa_cons (pe_fld (pv 4) (by rfl)) (pa_cons (pe_fld (pv 4) (by rfl)) pa_nil))) (pa_cons (pe_lst (pa_cons (pe_ix ix_seq (pe_op (OpR.or op_add (OpR.or op_add_str (OpR.or op_cat op_catT))) (pv 7) (pe_lst (pa_cons pe_int pa_nil))) pe_int (fun _ _ => rfl)) (pa_cons (pe_callTy call_tuple_of (by rfl) T.z_tuple (by decide +kernel) (pa_cons (pv 6) pa_nil)) pa_nil))) pa_nil)))))
      (pss_one (ps_ret pe_bl))
      pss_nil)
    (pss_cons (ps_if (pt_not (pt_val (pe_call G_l_alike (hr.mono (by decide)) (by rfl) T.m_l_alike T.F_l_alike.kp T.b_l_alike .nil pass0 (pa_cons (pe_lst (pa_cons (pe_callB (R1.call_lenO B.itl.ln B.itl.lnF (fnR0 G_len B.b_L) (hr.mono (by decide)) pass0) (by rfl) T.z_len (by decide +kernel) (pa_cons (pv 4) pa_nil)) (pa_cons (pe_callTy (RI.call_listO rfl B.itl (fnR0 G_iter B.b_T) (fnR0 G_len B.b_L) (hr.mono (by decide))) (by rfl) T.z_list (by decide +kernel) (pa_cons (pv 4) pa_nil)) pa_nil))) (pa_cons (pe_lst (pa_cons (pe_callB (CallR.or call_len_str call_len_seq) (by rfl) T.z_len (by decide +kernel) (pa_cons (pv 1) pa_nil)) (pa_cons (pv 6) pa_nil))) pa_nil)))))
      (pss_one (ps_ret pe_bl))
      pss_nil)
    (pss_cons (ps_for PassesOwn.never rfl (R1.PI.or (pi_list (pv 1)) (pi_tup (pv 1))) (pg_tup rfl (pgs_cons (pg_name (i := 8) sc_l_asked.nd rfl (.inl rfl)) (pgs_cons (pg_name (i := 9) sc_l_asked.nd rfl (.inl rfl)) pgs_nil)))
      (pss_one (ps_if (pt_not (pt_val (pe_call G_l_alike (hr.mono (by decide)) (by rfl) T.m_l_alike T.F_l_alike.kp T.b_l_alike .nil pass0 (pa_cons (pe_lst (pa_cons (R1.pe_ixO (pv 4) (pv 8) B.gs B.gf B.gn (fnR0 G_get B.b_G) (hr.mono (by decide)) (passes_call takes0 (fun _ _ _ _ h => h)) (fun _ _ => rfl)) (pa_cons (pe_cmpR (R1.op_inO B.cs B.cn (fnR0 G_cont B.b_N) (hr.mono (by decide)) pass0) (pv 8) (pv 4) rfl) pa_nil))) (pa_cons (pe_lst (pa_cons (pv 9) (pa_cons pe_bl pa_nil))) pa_nil)))))
        (pss_one (ps_ret pe_bl))
        pss_nil)))
    (pss_cons (ps_setLc (own := [("_law_step", 12)]) (i := 10) rfl sc_l_asked.nd rfl rfl (sw_true rfl rfl rfl (by decide +kernel)) (R1.PI.or (pi_list (pv 1)) (pi_tup (pv 1))) (blkOk_by (own := [("_law_step", 12)]) (N := ["_law_rows", "_law_steps", "_law_clauses_here", "_law_handed", "_law_found", "_law_k", "_law_literals", "_law_denied", "_law_literal", "_law_label", "_law_start", "_law_plain", "_law_step", "_law_row"]) (sc := defScope s_l_asked) (by decide +kernel)) (fun _ _ _ _ _ => (pg_name (i := 12) sc_l_asked.nd rfl (.inl rfl))) (fun _ _ _ _ _ => pts_one (pt_cmpR op_eq (pe_ix (R1.ix_seqK (K := K) rfl) (pv 12) pe_int (fun _ _ => rfl)) pe_int (nomark _))) (fun _ _ _ _ _ => (pe_ix (R1.ix_seqK (K := K) rfl) (pv 12) pe_int (fun _ _ => rfl))))
    (pss_cons (ps_if (pt_cmpR (OpR.or op_gt op_gt_str) (pe_ix ix_seq (pe_call G_l_propagated (hr.mono (by decide)) (by rfl) T.m_l_propagated T.F_l_propagated.kp T.b_l_propagated .nil pass0 (pa_cons (pe_call G_l_by_label (hr.mono (by decide)) (by rfl) T.m_l_by_label T.F_l_by_label.kp T.b_l_by_label .nil pass0 (pa_cons (pv 0) pa_nil)) (pa_cons (pv 10) pa_nil))) pe_int (fun _ _ => rfl)) pe_int (nomark _))
      (pss_one (ps_ret pe_bl))
      pss_nil)
    (pss_cons (ps_set (i := 11) sc_l_asked.nd rfl (.inr rfl) (pe_callN (ks := []) G_propagate (hr.mono (by decide)) (by rfl) T.m_propagate T.F_propagate.kp KB2 (passes_call takes0 (fun _ _ _ _ h => h)) (pa_cons (pv 2) (pa_cons (pv 10) pa_nil)) pk_nil))
    (pss_one (ps_ret (pe_cmpR (OpR.or op_eq (op_eqD hr.units)) (pe_callB (CallR.or call_len_str call_len_seq) (by rfl) T.z_len (by decide +kernel) (pa_cons (pe_lc (own := [("_law_literal", 8)]) rfl sc_l_asked.nd (R1.PI.or (pi_list (pv 6)) (pi_tup (pv 6))) (blkOk_by (own := [("_law_literal", 8)]) (N := ["_law_rows", "_law_steps", "_law_clauses_here", "_law_handed", "_law_found", "_law_k", "_law_literals", "_law_denied", "_law_literal", "_law_label", "_law_start", "_law_plain", "_law_step", "_law_row"]) (sc := defScope s_l_asked) (by decide +kernel)) (fun _ _ _ _ _ => (pg_name (i := 8) sc_l_asked.nd rfl (.inl rfl))) (fun _ _ _ _ _ => pts_one (pt_cmpR (R1.op_notInO B.cs B.cn (fnR0 G_cont B.b_N) (hr.mono (by decide)) pass0) (pv 8) (pv 11) rfl)) (fun _ _ _ _ _ => (pv 8))) pa_nil)) pe_int (nomark _))))))))))))))))))))), ?_⟩
    have rok := r6.ok
    have nd := r6.2.1
    have sm2 : ∀ {n : Nat}, n ≤ 4 → n ≤ sizeLine := fun h => Nat.le_of_lt (small1000 (by omega))
    refine ⟨.ref rl, rfl, rl, rows, rfl, hrw, rok, nd, fun d kvs H1 s1 nd1 hd1 hK1 => ?_⟩
    have hrw1 := rws_same A rok s1 hrw
    have hsq1 := s1 _ _ hsq
    have hys1 := sts_tk A h7 s1 hys
    have KM := kv_mem hK1
    -- what is handed
    refine ⟨.ref d, rfl, d, kvs, rfl, hd1, fun d' nd' => ?_⟩
    have t1 := same_upd (o := .dK kvs) nd'
    refine ⟨.ref sq, rfl, sq, ys, rfl, .inl (.of (t1 _ _ hsq1)), fun l' nl' => ⟨sm2 (by simp), fun hh nhh => ?_⟩⟩
    have t2 := same_upd (o := .lst ys) nl'
    have t3 := same_upd (o := .lst [.ref d', .ref l']) nhh
    have hd' := t3 _ _ (t2 _ _ (show (upd H1 d' (.dK kvs)) d' = _ from upd_same))
    have hl' := t3 _ _ (show (upd (upd H1 d' (.dK kvs)) l' (.lst ys)) l' = _ from upd_same)
    have hhh : (upd (upd (upd H1 d' (.dK kvs)) l' (.lst ys)) hh (.lst [.ref d', .ref l'])) hh = _ := upd_same
    have t13 := t1.trans (t2.trans t3)
    have nl1 : H1 l' = none := t1.free nl'
    have dl : d' ≠ l' := fun z => by rw [← z, upd_same] at nl'; cases nl'
    have dh : d' ≠ hh := fun z => by
      have z2 := t2 _ _ (show (upd H1 d' (.dK kvs)) d' = _ from upd_same)
      rw [← z, z2] at nhh
      cases nhh
    have lh : l' ≠ hh := fun z => by rw [← z] at nhh; rw [upd_same] at nhh; cases nhh
    generalize upd (upd (upd H1 d' (.dK kvs)) l' (.lst ys)) hh (.lst [.ref d', .ref l']) = H4 at t13 hd' hl' hhh ⊢
    have hA4 := sts_tk A h7 t13 hys1
    have hK4 := hK1.tk A rok (Same.tk t13)
    refine ⟨fun σ' H' => ∃ v, σ' = [some (.ref rl), some (.ref sq), some (.ref d), some (.ref hh), some v, none, none, none, none, none, none, none, none, none] ∧ Same H4 H' ∧ Fnd e w K a.c_Propagation rows sts v H' ∧ (∀ p, v = .ref p → H4 p = none), ?_, ?_⟩
    · refine ixv 0 rfl (.of hhh) rfl (ixv 1 rfl (.of hhh) rfl ⟨d', l', kvs, rows, ys, sts, rfl, hd', hK4, rok, nd, .inl (.of hl'), hA4, h7, by omega, fun ok o H' s no hP => ?_, fun k bad p H' s np hp => ?_⟩)
      · exact ⟨_, rfl, s, .inl ⟨ok, o, rfl, hP⟩, fun p ep => by cases ep; exact no⟩
      · exact ⟨_, rfl, s, .inr ⟨k, p, bad, rfl, hp⟩, fun p ep => by cases ep; exact np⟩
    rintro σ' H5 ⟨v, rfl, s5, hv, nv⟩
    have t35 := t13.trans s5
    have hd5 := s5 _ _ hd'
    have hl5 := s5 _ _ hl'
    have hh5 := s5 _ _ hhh
    -- they are as they were
    refine ⟨.ref hh, rfl, .ref d, rfl, .ref sq, rfl, sm2 (by simp), fun pr npr => ?_⟩
    have t6 := same_upd (o := .lst [.ref d, .ref sq]) npr
    have sh := sts_shaped A h7
    have eqs : PyData.eqv (.list (sts.map (eS e))) (.list (sts.map (eS e))) = true := SeqAt.eqv_refl _ (SeqAt.canLay_of_shaped sh)
    refine ⟨hh, pr, d', d, l', sq, kvs, .list (sts.map (eS e)), rfl, rfl, .of (t6 _ _ hh5), .of upd_same, t6 _ _ hd5, t6 _ _ (t35 _ _ hd1), KM, ?_, ?_, sh, eqs, _, rfl, iteF ?_⟩
    · exact sts_dp (t6 _ _ hl5) (sts_tk A h7 (t35.trans t6) hys1)
    · exact sts_dp (t6 _ _ (t35 _ _ hsq1)) (sts_tk A h7 (t35.trans t6) hys1)
    have t36 := t35.trans t6
    have hd6 := t6 _ _ hd5
    have hl6 := t6 _ _ hl5
    have hh6 := t6 _ _ hh5
    have hv6 := hv.same A h7 t6
    generalize upd H5 pr (.lst [.ref d, .ref sq]) = H6 at t36 hd6 hl6 hh6 hv6 ⊢
    refine ixv 0 rfl (.of hh6) rfl ⟨.inr (.inr (.inl ⟨rfl, .inl ⟨_, hd6⟩⟩)), d', kvs, rfl, rfl, hd6, ?_⟩
    have k67 : Kp d' H6 (upd H6 d' (.dK [])) := (Kp.refl _ _).put
    have pd : ∀ p, v = .ref p → p ≠ d' := fun p ep z => by have := nv p ep; rw [z, hd'] at this; cases this
    have pl : ∀ p, v = .ref p → p ≠ l' := fun p ep z => by have := nv p ep; rw [z, hl'] at this; cases this
    have hv7 : Fnd e w K a.c_Propagation rows sts v (upd H6 d' (.dK [])) := by
      rcases hv6 with ⟨ok, o, rfl, hP⟩ | ⟨k, p, bad, rfl, hp⟩
      · exact .inl ⟨ok, o, rfl, pr_but A h7 hd6 True.intro (fun _ _ z => nomatch z) (fun _ z => nomatch z) (fun _ z => nomatch z) k67 hP⟩
      · exact .inr ⟨k, p, bad, rfl, k67 _ _ (pd p rfl) hp⟩
    have hl7 := k67 _ _ (Ne.symm dl) hl6
    have hh7 := k67 _ _ (Ne.symm dh) hh6
    have t37 : Same H1 (upd H6 d' (.dK [])) := K16.Same.mut t36 nd'
    generalize upd H6 d' (.dK []) = H7 at k67 hv7 hl7 hh7 t37 ⊢
    refine ⟨fun σ' H' => σ' = [some (.ref rl), some (.ref sq), some (.ref d), some (.ref hh), some v, none, none, none, none, none, none, none, none, none] ∧ Same H1 H' ∧ Fnd e w K a.c_Propagation rows sts v H', ?_, ?_⟩
    · refine ixv 1 rfl (.of hh7) rfl ⟨.inl ⟨rfl, _, .of hl7⟩, l', ys, rfl, rfl, hl7, ?_⟩
      have k78 : Kp l' H7 (upd H7 l' (.lst [])) := (Kp.refl _ _).put
      refine ⟨rfl, K16.Same.mut t37 nl1, ?_⟩
      rcases hv7 with ⟨ok, o, rfl, hP⟩ | ⟨k, p, bad, rfl, hp⟩
      · exact .inl ⟨ok, o, rfl, pr_but A h7 hl7 True.intro (fun _ _ z => nomatch z) (fun _ z => nomatch z) (fun _ z => nomatch z) k78 hP⟩
      · exact .inr ⟨k, p, bad, rfl, k78 _ _ (pl p rfl) hp⟩
    rintro σ' H8 ⟨rfl, t8, hv8⟩
    have hd8 := t8 _ _ hd1
    have hsq8 := t8 _ _ hsq1
    have hK8 := hK1.tk A rok (Same.tk t8)
    have hys8 := sts_tk A h7 t8 hys1
    have lys : ys.length = sts.length := hys.1
    have ndr : ∀ r ∈ rows, r.2.Nodup := fun r hr => (r6.2.2 r hr).2.2.2.2
    refine ⟨.ref sq, rfl, .inr ⟨sq, ys, rfl, .inl (.of hsq8), _, rfl, by omega, by omega, for_range (lo := 0) (n := ys.length) (fun i σ' H' => ∃ y5, σ' = [some (.ref rl), some (.ref sq), some (.ref d), some (.ref hh), some v, y5, none, none, none, none, none, none, none, none] ∧ Same H8 H' ∧ ∀ (j : Nat) q, j < i → sts[j]? = some q → rightB rows (sts.take j) q = true) ⟨_, rfl, Same.refl _, fun j q h => absurd h (Nat.not_lt_zero _)⟩ ?_ ?_⟩⟩
    · rintro i σ' H9 hi ⟨y5, rfl, s9, ok9⟩
      rw [Int.zero_add]
      have gy : ys[i]? = some ys[i] := List.getElem?_eq_getElem hi
      obtain ⟨q0, g0, hq0⟩ := (sts_tk A h7 s9 hys8).at gy
      have l70 : q0.1.1 < 7 := hs_mem h7 q0 (List.mem_of_getElem? g0)
      generalize ys[i] = yv at gy hq0
      obtain ⟨b, y', rfl, hb, hy'⟩ := id hq0
      refine ⟨.ref d, rfl, .ref sq, rfl, .int (i : Int), rfl, _, rfl, .inr (.inl ⟨sq, ys, rfl, .of (s9 _ _ hsq8), fun p1 np1 => ?_⟩)⟩
      rw [cut_take (Nat.le_of_lt hi)]
      have s10 := s9.trans (same_upd (o := .lst (ys.take i)) np1)
      have hp1 : (upd H9 p1 (.lst (ys.take i))) p1 = _ := upd_same
      generalize upd H9 p1 (.lst (ys.take i)) = H10 at s10 hp1 ⊢
      have t7 : In7 (hs (sts.take i)) := fun m hm => h7 m (by unfold hs at hm ⊢; rw [List.map_take] at hm; exact List.mem_of_mem_take hm)
      refine ⟨.ref sq, rfl, .int (i : Int), rfl, .inl ⟨sq, ys, (i : Int), .ref b, rfl, rfl, .of (s10 _ _ hsq8), atI_nat gy, d, p1, b, kvs, rows, ys.take i, sts.take i, q0, rfl, s10 _ _ hd8, hK8.tk A rok (Same.tk s10), rok, nd, ndr, .of hp1, al_takeS i (sts_tk A h7 s10 hys8), t7, by rw [List.length_take]; omega, l70, (((sts_tk A h7 s10 hys8).2 i _ _ gy g0)), fun H11 s11 => ⟨_, rfl, ?_⟩⟩⟩
      have s811 := s10.trans s11
      cases c : rightB rows (sts.take i) q0 with
      | true =>
        refine iteF ⟨_, rfl, s811, fun j q hj hq => ?_⟩
        by_cases lt : j < i
        · exact ok9 j q lt hq
        · obtain rfl : j = i := by omega
          rw [g0] at hq
          cases hq
          exact c
      | false =>
        have bi : BadR rows sts i := ⟨ok9, q0, g0, c⟩
        refine iteT ?_
        rcases hv8.same A h7 s811 with ⟨ok, o, rfl, _⟩ | ⟨k, p, bad, rfl, hp⟩
        · have := ok i q0 g0
          rw [c] at this; cases this
        · obtain rfl := bad_one bi bad
          refine ⟨.ref p, rfl, .int (i : Int), rfl, sm2 (by simp), fun a5 n5 => ?_⟩
          have s12 := same_upd (o := .lst [.str "step", .int (i : Int)]) n5
          exact ⟨_, _, rfl, sm_dp (.list [.str "step", .int (i : Int)]) 30 _ _ (.lst (.of (s12 _ _ hp)) (.cons (.str _) (.cons (.int _) .nil))) (.lst (.of upd_same) (.cons (.str _) (.cons (.int _) .nil))) (by show max 0 (max 0 0) + 1 < 30; decide) (by show 2 + (0 + (0 + 0)) ≤ 1000000; decide), q _ (s1.trans (t8.trans (s811.trans s12)))⟩
    · rintro σ' H9 ⟨y5, rfl, s9, ok9⟩
      have ok : AllR rows sts := fun j q hq => ok9 j q (by have := (List.getElem?_eq_some_iff.mp hq).1; omega) hq
      have t9 := t8.trans s9
      obtain ⟨o, rfl, hP⟩ : ∃ o, v = .ref o ∧ PrIs e w K H9 a.c_Propagation o sts (denied rows (hs sts)) := by
        rcases hv8.same A h7 s9 with ⟨_, o, rfl, hP⟩ | ⟨k, p, bad, _⟩
        · exact ⟨o, rfl, hP⟩
        · obtain ⟨_, q1, g1, c1⟩ := bad
          have := ok k q1 g1
          rw [c1] at this; cases this
      have hsq9 := s9 _ _ hsq8
      have hys9 := sts_tk A h7 s9 hys8
      have hd9 := s9 _ _ hd8
      have hK9 := hK8.tk A rok (Same.tk s9)
      have hrw9 := rws_same A rok t9 hrw1
      have q9 : ∀ H', Same H9 H' → Q (.bl true) H' := fun H' s => q H' (s1.trans (t9.trans s))
      clear hv8 ok9 hv7 hv6 hv hsq1 hys1 hd1 hK1 hrw1 hK8 hys8 hsq8 hd8
      -- the literals
      refine .inl ⟨.ref sq, rfl, sq, rfl, ⟨_, .of hsq9⟩, fun D nD => R1.walk_it (walk_list (xs := ys)) (fun u H1 => Same H9 H1 ∧ ∃ acc, H1 D = some (.lst acc) ∧ R1.Al (Li e K H1) acc ((hs sts).take u)) ⟨same_upd nD, [], upd_same, R1.Al.nil⟩ (fun u H1 _ h => .of (h.1 _ _ hsq9)) ?_ ?_⟩
      · rintro u x _ H1 hu ⟨s1, acc, hD, hB⟩ ⟨rfl, hx⟩
        obtain ⟨q1, g1, b, y, rfl, hb, hy⟩ := hys9.at hx
        have et : (hs sts).take (u + 1) = (hs sts).take u ++ [q1.1] := by
          rw [List.take_add_one]
          unfold hs
          rw [List.getElem?_map, g1]
          rfl
        have la : acc.length ≤ 1000 := by
          have := hB.1
          rw [List.length_take] at this
          omega
        have l71 : q1.1.1 < 7 := hs_mem h7 q1 (List.mem_of_getElem? g1)
        refine ⟨rfl, .ref b, rfl, .inr (.inl ⟨b, _, (0 : Nat), y, rfl, rfl, sqT_tk (Same.tk s1) hb, atI_nat rfl, _, hD, small1000 la, K16.Same.mut s1 nD, _, upd_same, ?_⟩)⟩
        have tD : Tk H1 (upd H1 D (.lst (acc ++ [y]))) := tk_upd hD True.intro
        rw [et]
        exact R1.Al.snoc (al_tk A (fun m hm => h7 m (List.mem_of_mem_take hm)) tD hB) ((hy.tk A l71 (Same.tk s1)).tk A l71 tD)
      rintro H10 ⟨s10, acc, hD, hB⟩
      have lh : ys.length = (hs sts).length := by unfold hs; rw [List.length_map, lys]
      rw [lh, List.take_length] at hB
      -- the denied labels
      refine .inl ⟨.ref rl, rfl, rl, rows, rfl, rws_same A rok s10 hrw9, rok, nd, fun bp H11 s11 nbp hbp => ?_⟩
      obtain ⟨rs, hrs⟩ : ∃ rs, rs = rowsOf (Rof rows) (srtN (rows.map (·.1))) := ⟨_, rfl⟩
      rw [← hrs] at hbp
      have rpm : rs.Perm rows := by
        rw [hrs]
        refine ((srtN_perm (rows.map (·.1))).map _).trans ?_
        have := rows_of nd
        unfold rowsOf at this
        rw [this]
      have rasc : (rs.map (·.1)).Pairwise (· ≤ ·) := by
        have : rs.map (·.1) = srtN (rows.map (·.1)) := by
          rw [hrs]
          unfold rowsOf
          rw [List.map_map]
          exact List.map_id _
        rw [this]
        exact srtN_asc _
      have rokR : RsOk rs := ⟨by rw [rpm.length_eq]; exact rok.1, fun r hr => rok.2 r (rpm.mem_iff.mp hr)⟩
      obtain ⟨rv, hrv, hAr⟩ := hbp
      have hD11 := s11 _ _ hD
      have hB11 := al_tk A h7 (Same.tk s11) hB
      have lrv : rv.length = rs.length := hAr.1
      have ls : (hs sts).length = sts.length := by unfold hs; rw [List.length_map]
      refine ⟨bp, rfl, ⟨_, hrv⟩, fun D2 nD2 => R1.walk_it (walk_list (xs := rv)) (fun u H' => Same H11 H' ∧ H' D2 = some (.lst (ivN (denL (rs.take u) (hs sts))))) ⟨same_upd nD2, upd_same⟩ (fun u H' _ h => sqL_same h.1 hrv) ?_ ?_⟩
      · rintro u x _ H12 hu ⟨s12, hD2⟩ ⟨rfl, hx⟩
        obtain ⟨r, gr, hrow⟩ := hAr.at hx
        have rm := List.mem_of_getElem? gr
        obtain ⟨b, c0, rfl, hb, cs, hc1, hc2⟩ := hrow.same A (rokR.2 r rm).2 s12
        refine ⟨rfl, .ref b, rfl, .inl ⟨b, _, (1 : Nat), .ref c0, rfl, rfl, .of hb, atI_nat rfl, .ref D, rfl, c0, D, cs, acc, r.2, hs sts, rfl, hc1, hc2, ?_, (rokR.2 r rm).2, .of (s12 _ _ hD11), al_tk A h7 (Same.tk s12) hB11, h7, ?_⟩⟩
        · have := (rokR.2 r rm).1
          omega
        · intro pl zs H13 s13 npl hpl hzs
          refine ⟨pl, zs, rfl, .inl (.of hpl), rfl, _, rfl, ?_⟩
          have eqd : decide (V.int (zs.length : Int) = V.int 0) = decide ((left r.2 (hs sts)).length = 0) := by
            rw [← hzs.1, Bool.eq_iff_iff, decide_eq_true_eq, decide_eq_true_eq]
            exact ⟨fun z => by have := V.int.inj z; omega, fun z => by rw [z]; rfl⟩
          rw [eqd]
          have et : rs.take (u + 1) = rs.take u ++ [r] := by rw [List.take_add_one, gr]; rfl
          rw [et, denL_snoc]
          by_cases c : (left r.2 (hs sts)).length = 0
          · rw [decide_eq_true c, if_pos c]
            have la : (ivN (denL (rs.take u) (hs sts))).length ≤ 1000 := by
              have := denL_len (rs.take u) (hs sts)
              rw [List.length_take] at this
              have l60 := rokR.1
              unfold ivN
              rw [List.length_map]
              omega
            refine iteT ⟨.ref b, rfl, .inl ⟨b, _, (0 : Nat), .int (r.1 : Int), rfl, rfl, .of (s13 _ _ hb), atI_nat rfl, _, s13 _ _ hD2, small1000 la, K16.Same.mut (s12.trans s13) nD2, ?_⟩⟩
            rw [upd_same]
            unfold ivN
            rw [List.map_append]; rfl
          · rw [decide_eq_false c, if_neg c]
            exact iteF ⟨s12.trans s13, s13 _ _ hD2⟩
      rintro H12 ⟨s12, hD2⟩
      rw [lrv, List.take_length] at hD2
      have s912 := (s10.trans s11).trans s12
      have hP12 := pr_same A h7 s912 hP
      have hys12 := sts_tk A h7 s912 hys9
      have hsq12 := s912 _ _ hsq9
      have hD12 := s12 _ _ hD11
      have hB12 := al_tk A h7 (Same.tk s12) hB11
      obtain ⟨bd1, bd2⟩ := st_bounds A h7 (show sts.length ≤ 200 by omega)
      obtain ⟨bl1, bl2⟩ := ls_bounds A h7 (show (hs sts).length ≤ 200 by omega)
      obtain ⟨dx, t, lt, ld, ho, hst, hlt, hld⟩ := id hP12
      refine ⟨.ref o, rfl, o, dx, _, rfl, ho, true, rfl, iteF ?_⟩
      refine ⟨.ref o, rfl, o, a.c_Propagation, dx, _, _, rfl, ho, B.ins.cl, B.nS, lkS _ _ _ _, .ref sq, rfl, sq, ys, rfl, .inl ⟨.of hsq12, fun p2 n2 => ?_⟩⟩
      have s13 := same_upd (o := .tup ys) n2
      refine ⟨_, _, rfl, sm_dp _ 30 _ _ (stis_dp (st_kp A ho True.intro (Same.kp s13) h7 hst)) (.tup (.of upd_same) (al_dps ((sts_tk A h7 s13 hys12).mono fun x r h => stpv_dp h))) (by omega) (by omega), true, rfl, iteF ?_⟩
      generalize upd H12 p2 (.tup ys) = H13 at s13 ⊢
      have s913 := s912.trans s13
      have noBad : ∀ k, ¬ BadR rows sts k := fun k bad => by
        obtain ⟨_, q1, g1, c1⟩ := bad
        have := ok k q1 g1
        rw [c1] at this; cases this
      -- replayed of a tuple
      refine ⟨.ref d, rfl, .ref sq, rfl, sq, ys, rfl, .inl ⟨.of (s913 _ _ hsq9), fun p3 n3 => ?_⟩⟩
      have u1 := same_upd (o := .tup ys) n3
      have u91 := s913.trans u1
      refine ⟨d, p3, kvs, rows, ys, sts, rfl, u91 _ _ hd9, hK9.tk A rok (Same.tk u91), rok, nd, .inr (.of upd_same), sts_tk A h7 u91 hys9, h7, by omega, fun _ o2 H14 u2 no2 hP2 => ?_, fun k bad => absurd bad (noBad k)⟩
      have u92 := u91.trans u2
      obtain ⟨dx2, t2, lt2, ld2, ho2, hst2, _⟩ := id hP2
      refine ⟨o2, a.c_Propagation, dx2, _, _, rfl, ho2, B.ins.cl, B.nS, lkS _ _ _ _, .ref sq, rfl, sq, ys, rfl, .inl ⟨.of (u92 _ _ hsq9), fun p4 n4 => ?_⟩⟩
      have u3 := same_upd (o := .tup ys) n4
      refine ⟨_, _, rfl, sm_dp _ 30 _ _ (stis_dp (st_kp A ho2 True.intro (Same.kp u3) h7 hst2)) (.tup (.of upd_same) (al_dps ((sts_tk A h7 (u92.trans u3) hys9).mono fun x r h => stpv_dp h))) (by omega) (by omega), true, rfl, iteF ?_⟩
      have s914 := u92.trans u3
      have s1214 := s13.trans (u1.trans (u2.trans u3))
      generalize upd H14 p4 (.tup ys) = H15 at s914 s1214 ⊢
      have ho15 := s1214 _ _ ho
      have hD15 := s1214 _ _ hD12
      have hD215 := s1214 _ _ hD2
      obtain ⟨lx, hlx, hlA⟩ := id hlt
      have df : (ivN (denL rs (hs sts)) ++ [V.int 0])[0]? = some (V.int ((denied rows (hs sts) : Nat) : Int)) := by
        have h := denied_first (held := hs sts) rpm rasc
        have e1 : ivN (denL rs (hs sts)) ++ [V.int 0] = (denL rs (hs sts) ++ [0]).map fun n : Nat => V.int (n : Int) := by
          unfold ivN
          rw [List.map_append]; rfl
        rw [e1, List.getElem?_map, h]; rfl
      -- clash and literals
      refine ⟨.ref o, rfl, o, a.c_Propagation, dx, _, _, rfl, ho15, B.ins.cl, B.nC, lkC _ _ _ _, .ref o, rfl, o, a.c_Propagation, dx, _, _, rfl, ho15, B.ins.cl, B.nL, lkL _ _ _ _, sm2 (by simp), fun a1 n1 => ?_⟩
      have v1 := same_upd (o := .lst [.int ((denied rows (hs sts) : Nat) : Int), .ref lt]) n1
      have ha1 : (upd H15 a1 (.lst [.int ((denied rows (hs sts) : Nat) : Int), .ref lt])) a1 = _ := upd_same
      generalize upd H15 a1 (.lst [.int ((denied rows (hs sts) : Nat) : Int), .ref lt]) = H16 at v1 ha1 ⊢
      refine ⟨.ref D2, rfl, sm2 (by simp), fun z1 nz1 => ?_⟩
      have v2 := same_upd (o := .lst [.int 0]) nz1
      have ll : (ivN (denL rs (hs sts))).length ≤ 60 := by
        have := denL_len rs (hs sts)
        have l60 := rokR.1
        unfold ivN
        rw [List.length_map]
        omega
      refine .inr (.inr (.inl ⟨D2, z1, _, _, rfl, rfl, v2 _ _ (v1 _ _ hD215), upd_same, Nat.le_of_lt (small1000 (by simp; omega)), fun z2 nz2 => ?_⟩))
      have v3 := same_upd (o := .lst (ivN (denL rs (hs sts)) ++ [.int 0])) nz2
      have v13 := v1.trans (v2.trans v3)
      refine .inl ⟨z2, _, ((0 : Nat) : Int), _, rfl, rfl, .of upd_same, atI_nat df, ?_⟩
      have ha1' := v3 _ _ (v2 _ _ ha1)
      generalize upd (upd H16 z1 (.lst [.int 0])) z2 (.lst (ivN (denL rs (hs sts)) ++ [.int 0])) = H17 at v13 ha1' ⊢
      refine ⟨.ref D, rfl, D, acc, rfl, .inl ⟨.of (v13 _ _ hD15), fun p5 n5 => ⟨sm2 (by simp), fun a2 n2 => ?_⟩⟩⟩
      have v4 := same_upd (o := .tup acc) n5
      have v5 := same_upd (o := .lst [.int ((denied rows (hs sts) : Nat) : Int), .ref p5]) n2
      have hp5 := v5 _ _ (show (upd H17 p5 (.tup acc)) p5 = _ from upd_same)
      have v15 := v13.trans (v4.trans v5)
      have ha1'' := v5 _ _ (v4 _ _ ha1')
      have tkl := Same.tk (s1214.trans v15)
      refine ⟨_, _, rfl, sm_dp (.list [.int ((denied rows (hs sts) : Nat) : Int), .tuple ((hs sts).map (eL e))]) 30 _ _ (.lst (.of ha1'') (.cons (.int _) (.cons (.tup (.of ((s1214.trans v15) _ _ hlx)) (al_dps (al_tk A h7 tkl hlA))) .nil))) (.lst (.of upd_same) (.cons (.int _) (.cons (.tup (.of hp5) (al_dps (al_tk A h7 tkl hB12))) .nil))) ?_ ?_, true, rfl, iteF ?_⟩
      · show max 0 (max (PyData.depthAll ((hs sts).map (eL e)) + 1) 0) + 1 < 30
        omega
      · show 2 + (0 + ((((hs sts).map (eL e)).length + wlAll ((hs sts).map (eL e))) + 0)) ≤ 1000000
        omega
      have s1215 := s1214.trans v15
      have s915 := s914.trans v15
      generalize upd (upd H17 p5 (.tup acc)) a2 (.lst [.int ((denied rows (hs sts) : Nat) : Int), .ref p5]) = H18 at s1215 s915 tkl ⊢
      -- len and list
      have hP18 := pr_same A h7 s1215 hP12
      have ho18 := s1215 _ _ ho
      have hlx18 := s1215 _ _ hlx
      refine ⟨.ref o, rfl, o, dx, _, rfl, ho18, o, sts, _, rfl, hP18, sts.length, rfl, by omega, .ref o, rfl, o, dx, _, rfl, ho18, fun q5 n5 => ?_⟩
      have w7 : Same H18 (upd H18 q5 (.lst [])) := same_upd n5
      refine ⟨o, dx, t, lt, ld, _, lx, rfl, w7 _ _ ho18, .of (w7 _ _ hlx18), fun it nit => ?_⟩
      have w8 : Same (upd H18 q5 (.lst [])) (upd (upd H18 q5 (.lst [])) it (RI.ItTO lt it)) := same_upd nit
      have hq8 := w8 _ _ (show (upd H18 q5 (.lst [])) q5 = _ from upd_same)
      have itne : it ≠ lt := fun z => by rw [z, w7 _ _ hlx18] at nit; cases nit
      have itq : it ≠ q5 := fun z => by rw [z, upd_same] at nit; cases nit
      have n4it : H18 it = none := w7.free nit
      have lxl : lx.length = (hs sts).length := hlA.1
      refine ⟨it, lt, lx, rfl, upd_same, itne, hq8, w8 _ _ (w7 _ _ ho18), o, sts, _, rfl, pr_same A h7 (w7.trans w8) hP18, sts.length, rfl, by omega, upd_same, .of (w8 _ _ (w7 _ _ hlx18)), by omega, hq8, sm2 (by simp), fun a3 n3' => ?_⟩
      have w9 : Same H18 (RI.behind (upd (upd H18 q5 (.lst [])) it (RI.ItTO lt it)) q5 it lx) := fun b ob hb => by
        unfold RI.behind
        rw [upd_ne (ne_of_none hb n4it), upd_ne (ne_of_none hb n5), upd_ne (ne_of_none hb n4it), upd_ne (ne_of_none hb n5)]
        exact hb
      have hq9 : (RI.behind (upd (upd H18 q5 (.lst [])) it (RI.ItTO lt it)) q5 it lx) q5 = some (.lst lx) := by
        unfold RI.behind
        rw [upd_ne (Ne.symm itq), upd_same]
      generalize RI.behind (upd (upd H18 q5 (.lst [])) it (RI.ItTO lt it)) q5 it lx = H19 at w9 hq9 n3' ⊢
      have w10 := same_upd (o := .lst [.int ((sts.length : Nat) : Int), .ref q5]) n3'
      have ha3 : (upd H19 a3 (.lst [.int ((sts.length : Nat) : Int), .ref q5])) a3 = _ := upd_same
      have hq10 := w10 _ _ hq9
      have w11 := w9.trans w10
      generalize upd H19 a3 (.lst [.int ((sts.length : Nat) : Int), .ref q5]) = H20 at w11 ha3 hq10 ⊢
      refine ⟨.ref sq, rfl, .inr ⟨sq, ys, rfl, .inl (.of (w11 _ _ (s915 _ _ hsq9))), .ref D, rfl, sm2 (by simp), fun a4 n4 => ?_⟩⟩
      have w12 := same_upd (o := .lst [.int ((ys.length : Nat) : Int), .ref D]) n4
      have ha4 : (upd H20 a4 (.lst [.int ((ys.length : Nat) : Int), .ref D])) a4 = _ := upd_same
      have ha3' := w12 _ _ ha3
      have hq12 := w12 _ _ hq10
      have w13 := w11.trans w12
      generalize upd H20 a4 (.lst [.int ((ys.length : Nat) : Int), .ref D]) = H21 at w13 ha4 ha3' hq12 ⊢
      have s1221 := s1215.trans w13
      have s921 := s915.trans w13
      have tk21 := Same.tk s1221
      rw [lys] at ha4
      refine ⟨_, _, rfl, sm_dp (.list [.int ((sts.length : Nat) : Int), .list ((hs sts).map (eL e))]) 30 _ _ (.lst (.of ha3') (.cons (.int _) (.cons (.lst (.of hq12) (al_dps (al_tk A h7 tk21 hlA))) .nil))) (.lst (.of ha4) (.cons (.int _) (.cons (.lst (.of (s1221 _ _ hD12)) (al_dps (al_tk A h7 tk21 hB12))) .nil))) ?_ ?_, true, rfl, iteF ?_⟩
      · show max 0 (max (PyData.depthAll ((hs sts).map (eL e)) + 1) 0) + 1 < 30
        omega
      · show 2 + (0 + ((((hs sts).map (eL e)).length + wlAll ((hs sts).map (eL e))) + 0)) ≤ 1000000
        omega
      have hP21 := pr_same A h7 s1221 hP12
      have hys21 := sts_tk A h7 s921 hys9
      have hsq21 := s921 _ _ hsq9
      have hD21 := s1221 _ _ hD12
      have hB21 := al_tk A h7 tk21 hB12
      have ndS := allr_nodup ok
      have ho21 := s1221 _ _ ho
      -- each step
      refine .inl ⟨.ref sq, rfl, sq, rfl, ⟨_, .of hsq21⟩, for_it (walk_list (xs := ys)) (fun i σ' H' => ∃ y5 y8 y9, σ' = [some (.ref rl), some (.ref sq), some (.ref d), some (.ref hh), some (.ref o), y5, some (.ref D), some (.ref D2), y8, y9, none, none, none, none] ∧ Same H21 H') ⟨_, _, _, rfl, Same.refl _⟩ (fun i σ' H' _ h => by obtain ⟨_, _, _, _, h⟩ := h; exact .of (h _ _ hsq21)) ?_ ?_⟩
      · rintro i x σ' _ H22 hi ⟨y5', y8, y9, rfl, x1⟩ ⟨rfl, hx⟩
        obtain ⟨q1, g1, hq1⟩ := (sts_tk A h7 x1 hys21).at hx
        have qm := List.mem_of_getElem? g1
        have l71 := hs_mem h7 q1 qm
        obtain ⟨b, y, rfl, hb, hy⟩ := hq1
        obtain ⟨bb, _, rfl, _, _⟩ := li_split hy
        have hP22 := pr_same A h7 x1 hP21
        have ho22 := x1 _ _ ho21
        have inn : q1.1 ∈ hs sts := by unfold hs; exact List.mem_map.mpr ⟨q1, qm, rfl⟩
        refine ⟨b, _, rfl, hb, rfl, _, _, rfl, _, _, rfl, rfl, ?_⟩
        refine ⟨.ref o, rfl, .ref bb, rfl, o, dx, _, rfl, ho22, o, sts, _, .ref bb, q1.1, rfl, hP22, h7, l71, hy, fun q' f' => ?_, fun hn => absurd inn hn⟩
        rw [find_self ndS qm] at f'
        cases f'
        refine ⟨.ref bb, rfl, .ref o, rfl, o, dx, _, rfl, ho22, o, sts, _, .ref bb, q1.1, rfl, hP22, h7, l71, hy, _, rfl, ?_⟩
        rw [decide_eq_true inn]
        refine ⟨sm2 (by simp), fun a5 n5 => ⟨.int (q1.2 : Int), rfl, sm2 (by simp), fun a6 n6 => ?_⟩⟩
        have x2 := same_upd (o := .lst [.int (q1.2 : Int), .bl true]) n5
        have x3 := same_upd (o := .lst [.int (q1.2 : Int), .bl true]) n6
        exact ⟨_, _, rfl, sm_dp (.list [.int (q1.2 : Int), .bool true]) 30 _ _ (.lst (.of (x3 _ _ upd_same)) (.cons (.int _) (.cons (.bl _) .nil))) (.lst (.of upd_same) (.cons (.int _) (.cons (.bl _) .nil))) (by show max 0 (max 0 0) + 1 < 30; decide) (by show 2 + (0 + (0 + 0)) ≤ 1000000; decide), true, rfl, iteF ⟨_, _, _, rfl, x1.trans (x2.trans x3)⟩⟩
      · rintro σ' H22 ⟨y5', y8, y9, rfl, x1⟩
        have hsq22 := x1 _ _ hsq21
        have hys22 := sts_tk A h7 x1 hys21
        have hD22 := x1 _ _ hD21
        have hB22 := al_tk A h7 (Same.tk x1) hB21
        have z7 : In7 (zeros sts) := fun l hl => h7 l (zeros_sub hl)
        have zt7 : ∀ u, In7 (zeros (sts.take u)) := fun u l hl => h7 l (by have := zeros_sub hl; unfold hs at this ⊢; rw [List.map_take] at this; exact List.mem_of_mem_take this)
        -- the start
        refine .inl ⟨.ref sq, rfl, sq, rfl, ⟨_, .of hsq22⟩, fun D3 nD3 => R1.walk_it (walk_list (xs := ys)) (fun u H1 => Same H22 H1 ∧ ∃ acc3, H1 D3 = some (.lst acc3) ∧ R1.Al (Li e K H1) acc3 (zeros (sts.take u))) ⟨same_upd nD3, [], upd_same, R1.Al.nil⟩ (fun u H1 _ h => .of (h.1 _ _ hsq22)) ?_ ?_⟩
        · rintro u x _ H1 hu ⟨s1, acc3, hD3, hB3⟩ ⟨rfl, hx⟩
          obtain ⟨q1, g1, b, y, rfl, hb, hy⟩ := hys22.at hx
          have et : sts.take (u + 1) = sts.take u ++ [q1] := by rw [List.take_add_one, g1]; rfl
          have eqx : decide (V.int (q1.2 : Int) = V.int 0) = decide (q1.2 = 0) := by
            rw [Bool.eq_iff_iff, decide_eq_true_eq, decide_eq_true_eq]
            exact ⟨fun z => by have := V.int.inj z; omega, fun z => by rw [z]; rfl⟩
          have la : acc3.length ≤ 1000 := by
            rw [hB3.1]
            unfold zeros
            have h1 : ((sts.take u).filter fun q => decide (q.2 = 0)).length ≤ (sts.take u).length := List.length_filter_le _ _
            rw [List.length_take] at h1
            rw [List.length_map]
            omega
          have l71 : q1.1.1 < 7 := hs_mem h7 q1 (List.mem_of_getElem? g1)
          rw [et, zeros_snoc]
          refine ⟨rfl, .ref b, rfl, .inr (.inl ⟨b, _, (1 : Nat), .int (q1.2 : Int), rfl, rfl, sqT_tk (Same.tk s1) hb, atI_nat rfl, rfl, _, rfl, ?_⟩)⟩
          rw [eqx]
          by_cases z : q1.2 = 0
          · rw [decide_eq_true z, if_pos z]
            refine iteT ⟨.ref b, rfl, .inr (.inl ⟨b, _, (0 : Nat), y, rfl, rfl, sqT_tk (Same.tk s1) hb, atI_nat rfl, _, hD3, small1000 la, K16.Same.mut s1 nD3, _, upd_same, ?_⟩)⟩
            have tD : Tk H1 (upd H1 D3 (.lst (acc3 ++ [y]))) := tk_upd hD3 True.intro
            exact R1.Al.snoc (al_tk A (zt7 u) tD hB3) ((hy.tk A l71 (Same.tk s1)).tk A l71 tD)
          · rw [decide_eq_false z, if_neg z]
            exact iteF ⟨s1, acc3, hD3, hB3⟩
        rintro H23 ⟨s23, acc3, hD3, hB3⟩
        rw [lys, List.take_length] at hB3
        have s9x := s921.trans (x1.trans s23)
        refine ⟨.ref rl, rfl, rl, rows, rfl, rws_same A rok s9x hrw9, rok, nd, fun bp2 H24 s24 nbp2 hbp2 => ⟨.ref D3, rfl, ?_⟩⟩
        rw [← hrs] at hbp2
        dsimp only [tNil, List.cons_append, List.nil_append]
        refine ⟨bp2, D3, rs, acc3, zeros sts, rfl, hbp2, rokR, .inl (.of (s24 _ _ hD3)), al_tk A z7 (Same.tk s24) hB3, z7, hz, fun pp sl2 ys2 H25 s25 npp hpp hsl2 hys2 => ?_⟩
        refine .inl ⟨pp, _, ((1 : Nat) : Int), _, rfl, rfl, .of hpp, atI_nat rfl, .inl ⟨_, 0, rfl, rfl, _, rfl, ite2 (fun c => ?_) (fun c => ?_)⟩⟩
        · exact q9 H25 (s9x.trans (s24.trans s25))
        have dz : (run 100 rs (st0 (zeros sts))).2 = 0 := by
          have : ¬ (0 : Int) < (((run 100 rs (st0 (zeros sts))).2 : Nat) : Int) := of_decide_eq_false (Bool.eq_false_iff.mpr c)
          omega
        have s925 := s9x.trans (s24.trans s25)
        obtain ⟨ks, hks⟩ : ∃ ks, ks = rows.map (·.1) := ⟨_, rfl⟩
        have hR := rof_ok r6
        have ck := ck_of (hK9.tk A rok (Same.tk s925)) nd
        have KS := kv_keys hK9
        rw [← hks] at hR ck KS hrs
        have kl : ks.length ≤ 6 := by rw [hks, List.length_map]; exact r6.1
        have s2325 := s24.trans s25
        refine ⟨.ref d, rfl, .ref D3, rfl, rfl, rfl, d, D3, .non, kvs, ks, Rof rows, acc3, zeros sts, rfl, s925 _ _ hd9, KS, kl, hR, ck, .inl (.of (s2325 _ _ hD3)), al_tk A z7 (Same.tk s2325) hB3, z7, hz, .inl ⟨rfl, fun o3 H26 s26 no3 hP3 => ?_⟩⟩
        rw [← hrs] at hP3
        obtain ⟨big, hbig⟩ : ∃ big, big = hs (run 100 rs (st0 (zeros sts))).1 := ⟨_, rfl⟩
        have hpos : ∀ r ∈ rs, 0 < r.1 := fun r hr => by have := (r6.2.2 r (rpm.mem_iff.mp hr)).1; omega
        have pA : pot rs (st0 (zeros sts)) < 100 := by have := pot_le hR kl (srtN_perm ks) (st0 (zeros sts)); rw [← hrs] at this; omega
        have nf : ∀ r ∈ rows, fires r.2 big = false := fun r hr => by
          rw [hbig]
          exact no_fire (zero_end pA hpos dz) r (rpm.mem_iff.mpr hr)
        have allin : ∀ l ∈ hs sts, l ∈ big := by
          have := right_in nf (fun l hl => by rw [hbig]; exact run_le pA l (by rw [hs_st0]; exact dd_mem hl)) ok sts.length (Nat.le_refl _)
          rwa [List.take_length] at this
        have b7 : In7 big := by
          rw [hbig]
          exact run_mem (fun r hr => (rokR.2 r hr).2) 100 _ fun l hl => by rw [hs_st0] at hl; exact z7 l (dd_sub hl)
        have s2226 := (s23.trans s2325).trans s26
        have hD26 := s2226 _ _ hD22
        have hB26 := al_tk A h7 (Same.tk s2226) hB22
        have s926 := s925.trans s26
        refine .inl ⟨.ref D, rfl, D, rfl, ⟨_, .of hD26⟩, fun D4 nD4 => R1.walk_it (walk_list (xs := acc)) (fun u H1 => Same H26 H1 ∧ H1 D4 = some (.lst [])) ⟨same_upd nD4, upd_same⟩ (fun u H1 _ h => .of (h.1 _ _ hD26)) ?_ ?_⟩
        · rintro u x _ H1 hu ⟨s1, hD4⟩ ⟨rfl, hx⟩
          obtain ⟨l, gl, hl4⟩ := hB26.at hx
          have lm := List.mem_of_getElem? gl
          have l7 := h7 l lm
          have hli := hl4.tk A l7 (Same.tk s1)
          have b7' : In7 (hs (run 100 rs (st0 (zeros sts))).1) := by rw [← hbig]; exact b7
          have hP1 := pr_same A b7' s1 hP3
          obtain ⟨dx3, _, _, _, ho3, _⟩ := id hP1
          have inb : l ∈ hs (run 100 rs (st0 (zeros sts))).1 := by rw [← hbig]; exact allin l lm
          refine ⟨rfl, x, rfl, .ref o3, rfl, o3, dx3, _, rfl, ho3, o3, _, _, x, l, rfl, hP1, b7', l7, hli, _, rfl, _, rfl, ?_⟩
          rw [decide_eq_true inb]
          exact iteF ⟨s1, hD4⟩
        · rintro H1 ⟨s1, hD4⟩
          refine .inr ⟨D4, [], rfl, .inl (.of hD4), .inl ⟨rfl, ?_⟩⟩
          exact q9 H1 (s926.trans s1)
end
end K16


/-! bent steps -/
namespace K16
open PySem PySem.Spec PyProof.Rows L2 RN
section
variable {P : Program} {w : World} {K : PySem.W.Frag} {mg : Str → Option Value} {base : Heap} {a : Ad} {e : Nat → PyData} {p : Pd} {fI fL : Addr} {dI dL : FuncData}
/-! ### lists made of pieces -/
theorem cut_hi {xs : List V} {k : Nat} : cutV xs none (some (k : Int)) = xs.take k := by
  unfold cutV
  rw [HT.sIx_nat, HT.sIx_none, List.drop_zero, Nat.sub_zero]
  by_cases h : k ≤ xs.length
  · rw [Nat.min_eq_left h]
  · rw [Nat.min_eq_right (by omega), List.take_of_length_le (Nat.le_refl _), List.take_of_length_le (by omega)]
theorem cut_lo {xs : List V} {k : Nat} : cutV xs (some (k : Int)) none = xs.drop k := by
  unfold cutV
  rw [HT.sIx_nat, HT.sIx_none]
  by_cases h : k ≤ xs.length
  · rw [Nat.min_eq_left h, List.take_of_length_le (by rw [List.length_drop]; omega)]
  · rw [Nat.min_eq_right (by omega), Nat.sub_self, List.take_zero, List.drop_eq_nil_of_le (by omega)]
theorem cut_mid {xs : List V} {k d : Nat} (h : k ≤ xs.length) : cutV xs (some (k : Int)) (some ((k + d : Nat) : Int)) = (xs.drop k).take d := by
  unfold cutV
  rw [HT.sIx_nat, HT.sIx_nat, Nat.min_eq_left h]
  by_cases g : k + d ≤ xs.length
  · rw [Nat.min_eq_left g, Nat.add_sub_cancel_left]
  · rw [Nat.min_eq_right (by omega), List.take_of_length_le (by rw [List.length_drop]; omega), List.take_of_length_le (by rw [List.length_drop]; omega)]
def GL (t : TE) (σ : L2.St) (H0 : Hp) (zs : List V) : Prop := ∀ (H1 : Hp), Same H0 H1 → ∀ Q : VK, (∀ p H2, Same H1 H2 → H2 p = some (.lst zs) → Q (.ref p) H2) → t σ H1 Q
def GO (t : TO) (σ : L2.St) (H0 : Hp) (o : Option Int) : Prop := ∀ (H1 : Hp), Same H0 H1 → ∀ Q : Option Int → Hp → Prop, Q o H1 → t σ H1 Q
theorem go_none {σ : L2.St} {H0 : Hp} : GO tNoPart σ H0 none := fun _ _ _ q => q
theorem go_var {σ : L2.St} {H0 : Hp} {i : Nat} {k : Int} (h : σ[i]? = some (some (.int k))) : GO (tPart (tVar i)) σ H0 (some k) := fun _ _ _ q => ⟨_, h, _, rfl, q⟩
theorem go_int {σ : L2.St} {H0 : Hp} {k : Int} : GO (tPart (tC (.int k))) σ H0 (some k) := fun _ _ _ q => ⟨_, rfl, q⟩
theorem go_plus {σ : L2.St} {H0 : Hp} {i : Nat} {k c : Int} (h : σ[i]? = some (some (.int k))) : GO (tPart (tOp (rI0 fun i j => .int (i + j)) (tVar i) (tC (.int c)))) σ H0 (some (k + c)) := fun _ _ _ q => ⟨_, h, _, _, rfl, rfl, _, rfl, q⟩
theorem gl_cat {t1 t2 : TE} {σ : L2.St} {H0 : Hp} {xs ys : List V} (h1 : GL t1 σ H0 xs) (h2 : GL t2 σ H0 ys) (l : xs.length + ys.length ≤ sizeLine) : GL (tOp rCat t1 t2) σ H0 (xs ++ ys) := fun H1 s1 Q c => h1 H1 s1 _ fun p1 H2 s2 g1 => h2 H2 (s1.trans s2) _ fun p2 H3 s3 g2 => ⟨p1, p2, _, _, rfl, rfl, s3 _ _ g1, g2, l, fun p np => c p _ (s2.trans (s3.trans (same_upd np))) upd_same⟩
theorem gl_sl {te : TE} {tl th : TO} {σ : L2.St} {H0 : Hp} {xs : List V} {lo hi : Option Int} (h : GL te σ H0 xs) (hl : GO tl σ H0 lo) (hh : GO th σ H0 hi) : GL (tSl (rSlL K) te tl th) σ H0 (cutV xs lo hi) := fun H1 s1 Q c => h H1 s1 _ fun p1 H2 s2 g1 => hl H2 (s1.trans s2) _ (hh H2 (s1.trans s2) _ ⟨p1, xs, rfl, .of g1, fun p np => c p _ (s2.trans (same_upd np)) upd_same⟩)
theorem gl_var {σ : L2.St} {H0 : Hp} {i : Nat} {p : Addr} {xs : List V} (h : σ[i]? = some (some (.ref p))) (g : H0 p = some (.lst xs)) : GL (tVar i) σ H0 xs := fun H1 s1 _ c => ⟨_, h, c p H1 (Same.refl _) (s1 _ _ g)⟩
theorem gl_rev {te : TE} {σ : L2.St} {H0 : Hp} {xs : List V} (h : GL te σ H0 xs) : GL (tRevL K te) σ H0 xs.reverse := fun H1 s1 Q c => h H1 s1 _ fun p1 H2 s2 g1 => ⟨p1, xs, rfl, .of g1, fun p np => c p _ (s2.trans (same_upd np)) upd_same⟩
theorem gl_one {σ : L2.St} {H0 : Hp} {i : Nat} {v : V} (h : σ[i]? = some (some v)) : GL (tLst (tCons (tVar i) tNil)) σ H0 [v] := fun H1 s1 Q c => ⟨v, h, Nat.le_of_lt (small1000 (by simp)), fun p np => c p _ (same_upd np) upd_same⟩
theorem GL.run {t : TE} {σ : L2.St} {H : Hp} {zs : List V} {Q : VK} (h : GL t σ H zs) (c : ∀ p H2, Same H H2 → H2 p = some (.lst zs) → Q (.ref p) H2) : t σ H Q := h H (Same.refl _) Q c
/-! ### their items -/
theorem al_app {α : Type} {R : V → α → Prop} {xs ys : List V} {rs ss : List α} (h : R1.Al R xs rs) (g : R1.Al R ys ss) : R1.Al R (xs ++ ys) (rs ++ ss) := by
  refine ⟨by rw [List.length_append, List.length_append, h.1, g.1], fun i x r hx hr => ?_⟩
  by_cases c : i < xs.length
  · rw [List.getElem?_append_left c] at hx
    rw [List.getElem?_append_left (by rw [← h.1]; exact c)] at hr
    exact h.2 i x r hx hr
  · rw [List.getElem?_append_right (by omega)] at hx
    rw [List.getElem?_append_right (by rw [← h.1]; omega), ← h.1] at hr
    exact g.2 _ x r hx hr
theorem al_drop {α : Type} {R : V → α → Prop} {xs : List V} {rs : List α} (k : Nat) (h : R1.Al R xs rs) : R1.Al R (xs.drop k) (rs.drop k) := by
  refine ⟨by rw [List.length_drop, List.length_drop, h.1], fun i x r hx hr => ?_⟩
  rw [List.getElem?_drop] at hx hr
  exact h.2 _ x r hx hr
theorem al_take {α : Type} {R : V → α → Prop} {xs : List V} {rs : List α} (k : Nat) (h : R1.Al R xs rs) : R1.Al R (xs.take k) (rs.take k) := by
  refine ⟨by rw [List.length_take, List.length_take, h.1], fun i x r hx hr => ?_⟩
  have lt : i < k := by
    have := (List.getElem?_eq_some_iff.mp hx).1
    rw [List.length_take] at this
    omega
  rw [List.getElem?_take_of_lt lt] at hx hr
  exact h.2 i x r hx hr
theorem al_rev {α : Type} {R : V → α → Prop} {xs : List V} {rs : List α} (h : R1.Al R xs rs) : R1.Al R xs.reverse rs.reverse := by
  refine ⟨by rw [List.length_reverse, List.length_reverse, h.1], fun i x r hx hr => ?_⟩
  have lt : i < xs.length := by
    have := (List.getElem?_eq_some_iff.mp hx).1
    rwa [List.length_reverse] at this
  rw [List.getElem?_reverse lt] at hx
  rw [List.getElem?_reverse (by rw [← h.1]; exact lt), ← h.1] at hr
  exact h.2 _ x r hx hr
theorem al_one {α : Type} {R : V → α → Prop} {x : V} {r : α} (h : R x r) : R1.Al R [x] [r] := by
  refine ⟨rfl, fun i y s hy hs => ?_⟩
  match i, hy, hs with
  | 0, rfl, rfl => exact h
  | (_ + 1), hy, _ => cases hy
/-- how many steps are starts -/
def zc (l : List Stp) : Nat := (zeros l).length
theorem zc_app (a b : List Stp) : zc (a ++ b) = zc a + zc b := by unfold zc zeros; rw [List.filter_append, List.map_append, List.length_append]
theorem zc_rev (a : List Stp) : zc a.reverse = zc a := by unfold zc zeros; rw [List.length_map, List.length_map, List.filter_reverse, List.length_reverse]
theorem zc_sub {a b : List Stp} (h : a.Sublist b) : zc a ≤ zc b := by unfold zc zeros; rw [List.length_map, List.length_map]; exact (h.filter _).length_le
theorem zc_one (q : Stp) : zc [q] ≤ 1 := by
  unfold zc zeros
  rw [List.length_map]
  exact List.length_filter_le _ _
theorem zc_le (l : List Stp) : zc l ≤ l.length := by
  unfold zc zeros
  rw [List.length_map]
  exact List.length_filter_le _ _
theorem zc_td (k : Nat) (l : List Stp) : zc (l.take k) + zc (l.drop k) = zc l := by rw [← zc_app, List.take_append_drop]
theorem drop_sub {l : List Stp} {i j : Nat} (h : i ≤ j) : (l.drop j).Sublist (l.drop i) := by
  rw [show l.drop j = (l.drop i).drop (j - i) by rw [List.drop_drop]; congr 1; omega]
  exact List.drop_sublist _ _
theorem in7_of {l : List Stp} (h : ∀ q ∈ l, q.1.1 < 7) : In7 (hs l) := fun x hx => by
  unfold hs at hx
  obtain ⟨q, h1, rfl⟩ := List.mem_map.mp hx
  exact h q h1
theorem sts_kp (A : AtOk e) {H H' : Hp} {sc st sq : Addr} {ys : List V} {sts : List Stp} (h7 : In7 (hs sts)) (S : Sta sc H st) (k : Kp st H H') (h : H sq = some (.lst ys)) (hA : R1.Al (StpV e K H) ys sts) : H' sq = some (.lst ys) ∧ R1.Al (StpV e K H') ys sts := by
  refine ⟨k _ _ (fun z => ?_) h, stp_tk A h7 (sta_tk S k) hA⟩
  obtain ⟨ns, i, b, s, l, hne, hst, _⟩ := S.ex
  rw [z, hst] at h
  cases h
  obtain ⟨r, _, b1, y1, e1, _⟩ := hA.at (i := 1) (x := .int i) rfl
  cases e1
def Bent (sts szs : List Stp) : Prop := (∀ q ∈ szs, q.1.1 < 7) ∧ szs.length ≤ sts.length + 1 ∧ zc szs ≤ zc sts + 1
def spBent (e : Nat → PyData) (K : PySem.W.Frag) : Sp := fun vs H Q _ => ∃ (sc st rl al sq : Addr) (n : Nat) (rows : List Row) (ys : List V) (sts : List Stp), vs = [.ref st, .ref rl, .ref al, .ref sq] ∧ Sta sc H st ∧ RwsIs e K H rl rows ∧ Rows6 rows ∧ AtsIs e K H al n ∧ 3 ≤ n ∧ n ≤ 6 ∧
  H sq = some (.lst ys) ∧ R1.Al (StpV e K H) ys sts ∧ In7 (hs sts) ∧ sts.length ≤ 140 ∧ ∀ p zs szs H', Kp st H H' → Sta sc H' st → H' p = some (.lst zs) → R1.Al (StpV e K H') zs szs → Bent sts szs → Q (.ref p) H'
theorem ok_bent (A : AtOk e) (T : Top K mg a) (G_l_draw : FnOk P w K mg base CX0 1 a.f_l_draw a.d_l_draw ["_law_state_here", "_law_many"] spDraw) : FnOk P w K mg base CX0 2 a.f_l_bent a.d_l_bent ["_law_state_here", "_law_rows", "_law_atoms", "_law_steps"] (spBent e K) := by
  refine T.F_l_bent.ok sc_l_bent (fun vs H Q E h => ?_) (fun cdv A' outer s H vs Q E hr h => ?_)
  · obtain ⟨_, _, _, _, _, _, _, _, _, rfl, _⟩ := h
    rfl
  · obtain ⟨sc, st, rl, al, sq, n, rows, ys, sts, rfl, S0, hrw, r6, hat, hn3, hn6, hsq, hys, h7, hl, q⟩ := h
    refine ⟨_, (pss_cons (ps_set (i := 4) sc_l_bent.nd rfl (.inl rfl) (pe_call G_l_draw (hr.mono (by decide)) (by rfl) T.m_l_draw T.F_l_draw.kp T.b_l_draw .nil pass0 (pa_cons (pv 0) (pa_cons (pe_op op_add (pe_callB (CallR.or call_len_str call_len_seq) (by rfl) T.z_len (by decide +kernel) (pa_cons (pv 3) pa_nil)) pe_int) pa_nil))))
    (pss_cons (ps_set (i := 5) sc_l_bent.nd rfl (.inl rfl) (pe_op op_cat (pe_lc (own := [("_law_row", 9)]) rfl sc_l_bent.nd (R1.PI.or (pi_list (pv 1)) (pi_tup (pv 1))) (blkOk_by (own := [("_law_row", 9)]) (N := ["_law_state_here", "_law_rows", "_law_atoms", "_law_steps", "_law_at", "_law_labels", "_law_literal", "_law_step", "_law_way", "_law_row"]) (sc := defScope s_l_bent) (by decide +kernel)) (fun _ _ _ _ _ => (pg_name (i := 9) sc_l_bent.nd rfl (.inl rfl))) (fun _ _ _ _ _ => pts_nil) (fun _ _ _ _ _ => (pe_ix (R1.ix_seqK (K := K) rfl) (pv 9) pe_int (fun _ _ => rfl)))) (pe_lst (pa_cons pe_int (pa_cons pe_int (pa_cons pe_int pa_nil))))))
    (pss_cons (ps_set (i := 6) sc_l_bent.nd rfl (.inl rfl) (pe_tup (pa_cons (pe_ix ix_seq (pv 2) (pe_call G_l_draw (hr.mono (by decide)) (by rfl) T.m_l_draw T.F_l_draw.kp T.b_l_draw .nil pass0 (pa_cons (pv 0) (pa_cons (pe_callB (CallR.or call_len_str call_len_seq) (by rfl) T.z_len (by decide +kernel) (pa_cons (pv 2) pa_nil)) pa_nil))) (fun _ _ => rfl)) (pa_cons (pe_cmpR op_eq (pe_call G_l_draw (hr.mono (by decide)) (by rfl) T.m_l_draw T.F_l_draw.kp T.b_l_draw .nil pass0 (pa_cons (pv 0) (pa_cons pe_int pa_nil))) pe_int (nomark _)) pa_nil))))
    (pss_cons (ps_set (i := 7) sc_l_bent.nd rfl (.inl rfl) (pe_tup (pa_cons (pv 6) (pa_cons (pe_ix ix_seq (pv 5) (pe_call G_l_draw (hr.mono (by decide)) (by rfl) T.m_l_draw T.F_l_draw.kp T.b_l_draw .nil pass0 (pa_cons (pv 0) (pa_cons (pe_callB (CallR.or call_len_str call_len_seq) (by rfl) T.z_len (by decide +kernel) (pa_cons (pv 5) pa_nil)) pa_nil))) (fun _ _ => rfl)) pa_nil))))
    (pss_cons (ps_set (i := 8) sc_l_bent.nd rfl (.inl rfl) (pe_call G_l_draw (hr.mono (by decide)) (by rfl) T.m_l_draw T.F_l_draw.kp T.b_l_draw .nil pass0 (pa_cons (pv 0) (pa_cons pe_int pa_nil))))
    (pss_cons (ps_if (pt_cmpR (OpR.or op_eq (op_eqD hr.units)) (pv 8) pe_int (nomark _))
      (pss_one (ps_ret (pe_op op_cat (pe_op op_cat (pe_slice sl_list (pv 3) po_none (po_some (pv 4))) (pe_lst (pa_cons (pv 7) pa_nil))) (pe_slice sl_list (pv 3) (po_some (pv 4)) po_none))))
      pss_nil)
    (pss_cons (ps_if (pt_cmpR (OpR.or op_eq (op_eqD hr.units)) (pv 8) pe_int (nomark _))
      (pss_one (ps_ret (pe_op op_cat (pe_op op_cat (pe_slice sl_list (pv 3) po_none (po_some (pv 4))) (pe_lst (pa_cons (pv 7) pa_nil))) (pe_slice sl_list (pv 3) (po_some (pe_op op_add (pv 4) pe_int)) po_none))))
      pss_nil)
    (pss_cons (ps_if (pt_cmpR (OpR.or op_eq (op_eqD hr.units)) (pv 8) pe_int (nomark _))
      (pss_one (ps_ret (pe_op op_cat (pe_op op_cat (pe_slice sl_list (pv 3) po_none (po_some (pv 4))) (pe_revL (pe_slice sl_list (pv 3) (po_some (pv 4)) (po_some (pe_op op_add (pv 4) pe_int))))) (pe_slice sl_list (pv 3) (po_some (pe_op op_add (pv 4) pe_int)) po_none))))
      pss_nil)
    (pss_one (ps_ret (pe_op op_cat (pe_op op_cat (pe_slice sl_list (pv 3) po_none (po_some (pv 4))) (pe_slice sl_list (pv 3) (po_some (pe_op op_add (pv 4) pe_int)) po_none)) (pe_slice sl_list (pv 3) po_none (po_some pe_int))))))))))))), ?_⟩
    have lys : ys.length = sts.length := hys.1
    have rok := r6.ok
    -- the place
    refine ⟨.ref st, rfl, .ref sq, rfl, .inr ⟨sq, ys, rfl, .inl (.of hsq), _, 1, rfl, rfl, sc, st, _, rfl, S0, by omega, by omega, fun H1 v k1 S1 v0 v1 => ?_⟩⟩
    obtain ⟨at0, rfl⟩ : ∃ v' : Nat, v = v' := ⟨v.toNat, by omega⟩
    have hv : at0 ≤ ys.length := by omega
    obtain ⟨hsq1, hys1⟩ := sts_kp A h7 S0 k1 hsq hys
    have hrw1 := rws_kp A rok S0 k1 hrw
    have hat1 := ats_kp A (by omega) S0 k1 hat
    obtain ⟨rv, hrv, hAr⟩ := id hrw1
    -- the labels
    refine .inl ⟨.ref rl, rfl, rl, rfl, ⟨_, hrv⟩, fun D nD => R1.walk_it (walk_list (xs := rv)) (fun u H' => Same H1 H' ∧ H' D = some (.lst (ivN ((rows.map (·.1)).take u)))) ⟨same_upd nD, upd_same⟩ (fun u H2 _ h => sqL_same h.1 hrv) ?_ ?_⟩
    · rintro u x _ H14 hu ⟨s2, hD⟩ ⟨rfl, hx⟩
      obtain ⟨r, hr2, b, c0, rfl, hb, _⟩ := hAr.at hx
      have et : (rows.map (·.1)).take (u + 1) = (rows.map (·.1)).take u ++ [r.1] := by rw [List.take_add_one, List.getElem?_map, hr2]; rfl
      refine ⟨rfl, .ref b, rfl, .inl ⟨b, _, (0 : Nat), .int (r.1 : Int), rfl, rfl, .of (s2 _ _ hb), atI_nat rfl, _, hD, ?_, K16.Same.mut s2 nD, ?_⟩⟩
      · unfold ivN
        rw [List.length_map, List.length_take, List.length_map]
        have := r6.1
        exact small1000 (by omega)
      · rw [upd_same, et]
        unfold ivN
        rw [List.map_append]; rfl
    rintro H2 ⟨s2, hD⟩
    have e1 : (rows.map (·.1)).take rv.length = rows.map (·.1) := by rw [hAr.1, List.take_of_length_le (by rw [List.length_map]; exact Nat.le_refl _)]
    rw [e1] at hD
    obtain ⟨lb, hlb⟩ : ∃ lb, lb = rows.map (·.1) := ⟨_, rfl⟩
    have lbl : lb.length ≤ 6 := by rw [hlb, List.length_map]; exact r6.1
    rw [← hlb] at hD
    clear e1
    have sm9 : ∀ {n : Nat}, n ≤ 400 → n ≤ sizeLine := fun h => Nat.le_of_lt (small1000 (by omega))
    refine ⟨sm9 (by simp), fun z nz => ⟨D, z, _, _, rfl, rfl, same_upd nz _ _ hD, upd_same, sm9 (by unfold ivN; rw [List.length_map]; simp; omega), fun LB nLB => ?_⟩⟩
    have s3 := s2.trans ((same_upd (o := .lst [.int 0, .int 0, .int 998]) nz).trans (same_upd (o := .lst (ivN lb ++ [.int 0, .int 0, .int 998])) nLB))
    have hLB : (upd (upd H2 z (.lst [.int 0, .int 0, .int 998])) LB (.lst (ivN lb ++ [.int 0, .int 0, .int 998]))) LB = some (.lst (ivN (lb ++ [0, 0, 998]))) := by
      rw [upd_same]
      unfold ivN
      rw [List.map_append]; rfl
    have S3 := S1.same s3
    have nLBs : LB ≠ st := fun z => by
      obtain ⟨ns, i, b, s, l, hne, hst, _⟩ := (S1.same (s2.trans (same_upd (o := .lst [.int 0, .int 0, .int 998]) nz))).ex
      rw [z, hst] at nLB
      cases nLB
    generalize upd (upd H2 z (.lst [.int 0, .int 0, .int 998])) LB (.lst (ivN lb ++ [.int 0, .int 0, .int 998])) = H3 at s3 hLB S3 ⊢
    obtain ⟨labs, hlabs⟩ : ∃ labs, labs = lb ++ [0, 0, 998] := ⟨_, rfl⟩
    have ll : labs.length ≤ 9 ∧ 1 ≤ labs.length := by rw [hlabs, List.length_append]; simp; omega
    rw [← hlabs] at hLB
    have k3 := k1.same s3
    have hat3 := ats_same A (by omega) s3 hat1
    have hsq3 := s3 _ _ hsq1
    have hys3 := sts_tk A h7 s3 hys1
    clear hat1 hsq1 hys1 hat hrw hrw1 hrv hAr hys hsq
    -- the literal
    obtain ⟨xs3, hx3, lx3, hxd3⟩ := hat3.sq
    refine ⟨.ref al, rfl, .ref st, rfl, .ref al, rfl, .inr ⟨al, xs3, rfl, .inl hx3, sc, st, _, rfl, S3, by omega, by omega, fun H4 v1 k4 S4 a0 a1 => ?_⟩⟩
    obtain ⟨j, rfl⟩ : ∃ v' : Nat, v1 = v' := ⟨v1.toNat, by omega⟩
    obtain ⟨xs4, hx4, lx4, hxd4⟩ := (ats_kp A (by omega) S3 k4 hat3).sq
    have g4 : xs4[j]? = some (xs4[j]'(by omega)) := List.getElem?_eq_getElem (by omega)
    refine .inl ⟨al, xs4, (j : Int), _, rfl, rfl, hx4, atI_nat g4, ?_⟩
    refine ⟨.ref st, rfl, sc, st, 2, rfl, S4, by decide, by decide, fun H5 v2 k5 S5 b0 b1 => ?_⟩
    refine ⟨rfl, sm9 (by simp), fun lp nlp => ?_⟩
    have hj : j < 6 := by omega
    have t45 := sta_tk S4 k5
    have k35 := k4.trans k5
    have dj := dp_tk t45 _ _ (hxd4 j _ g4) (A.kb j (by omega))
    generalize decide (V.int v2 = V.int 0) = b
    generalize xs4[j]'(by omega) = xj at dj ⊢
    have s6 := same_upd (o := .tup [xj, .bl b]) nlp
    have hL : Li e K (upd H5 lp (.tup [xj, .bl b])) (.ref lp) (j, b) := li_mk (l := (j, b)) (.of upd_same) (dp_tk (tk_new nlp) _ _ dj (A.kb j (by omega)))
    have S6 := S5.same s6
    have k36 := k35.same s6
    have hLB6 := s6 _ _ (k35 _ _ nLBs hLB)
    obtain ⟨hsq6, hys6⟩ := sts_kp A h7 S3 k36 hsq3 hys3
    have nlps : lp ≠ st := fun z => by
      obtain ⟨ns, i, b, s, l, hne, hst, _⟩ := S5.ex
      rw [z, hst] at nlp
      cases nlp
    have k06 := k3.trans k36
    generalize upd H5 lp (.tup [xj, .bl b]) = H6 at hL S6 k36 hLB6 hsq6 hys6 k06 ⊢
    clear hat3 hsq3 hys3 hLB hxd4 hx4 g4 hx3 hxd3 dj
    -- the step
    refine ⟨.ref lp, rfl, .ref LB, rfl, .ref st, rfl, .ref LB, rfl, .inr ⟨LB, _, rfl, .inl (.of hLB6), sc, st, _, rfl, S6, by unfold ivN; rw [List.length_map]; omega, by unfold ivN; rw [List.length_map]; omega, fun H7 v3 k7 S7 c0 c1 => ?_⟩⟩
    obtain ⟨m, rfl⟩ : ∃ v' : Nat, v3 = v' := ⟨v3.toNat, by omega⟩
    have hm : m < labs.length := by
      unfold ivN at c1
      rw [List.length_map] at c1
      omega
    have g7 : (ivN labs)[m]? = some (.int ((labs[m]'hm : Nat) : Int)) := by
      unfold ivN
      rw [List.getElem?_map, List.getElem?_eq_getElem hm]; rfl
    generalize labs[m]'hm = lab0 at g7
    refine .inl ⟨LB, _, (m : Int), _, rfl, rfl, .of (k7 _ _ nLBs hLB6), atI_nat g7, sm9 (by simp), fun qp nqp => ?_⟩
    have hL7 := hL.tk A (show j < 7 by omega) (sta_tk S6 k7)
    have s8 := same_upd (o := .tup [.ref lp, .int (lab0 : Int)]) nqp
    have hQ : StpV e K (upd H7 qp (.tup [.ref lp, .int (lab0 : Int)])) (.ref qp) ((j, b), lab0) := ⟨qp, .ref lp, rfl, .of upd_same, hL7.tk A (show j < 7 by omega) (Same.tk s8)⟩
    have S8 := S7.same s8
    have k08 := k06.trans (k7.same s8)
    obtain ⟨hsq8, hys8⟩ := sts_kp A h7 S6 (k7.same s8) hsq6 hys6
    generalize upd H7 qp (.tup [.ref lp, .int (lab0 : Int)]) = H8 at hQ S8 k08 hsq8 hys8 ⊢
    -- the way
    refine ⟨.ref st, rfl, sc, st, 4, rfl, S8, by decide, by decide, fun H9 v9 k9 S9 d0 d1 => ?_⟩
    obtain ⟨hsq9, hys9⟩ := sts_kp A h7 S8 k9 hsq8 hys8
    have hQ9 : StpV e K H9 (.ref qp) ((j, b), lab0) := hQ.tk A (show j < 7 by omega) (sta_tk S8 k9)
    have k09 := k08.trans k9
    have m7 := hs_mem h7
    have z0 := zc_td at0 sts
    have cont : ∀ {zs : List V} {szs : List Stp}, (∀ H', Same H9 H' → R1.Al (StpV e K H') zs szs) → Bent sts szs → ∀ p H2, Same H9 H2 → H2 p = some (.lst zs) → Q (.ref p) H2 := fun hA hB p H2 s hp => q p _ _ H2 (k09.same s) (S9.same s) hp (hA H2 s) hB
    have hYS : ∀ H', Same H9 H' → R1.Al (StpV e K H') ys sts := fun H' s => sts_tk A h7 s hys9
    have hQS : ∀ H', Same H9 H' → R1.Al (StpV e K H') [.ref qp] [((j, b), lab0)] := fun H' s => al_one (hQ9.tk A (show j < 7 by omega) (Same.tk s))
    have l140 : ∀ {n : Nat}, n ≤ 400 → n ≤ sizeLine := sm9
    refine ⟨_, rfl, eqi (ite2 (fun _ => ?_) (fun _ => ?_))⟩
    · refine GL.run (gl_cat (gl_cat (gl_sl (gl_var rfl hsq9) go_none (go_var rfl)) (gl_one rfl) ?_) (gl_sl (gl_var rfl hsq9) (go_var rfl) go_none) ?_) ?_
      · rw [cut_hi, List.length_take]; exact sm9 (by simp; omega)
      · rw [cut_hi, cut_lo, List.length_append, List.length_take, List.length_drop]; exact sm9 (by simp; omega)
      rw [cut_hi, cut_lo]
      refine cont (szs := sts.take at0 ++ [((j, b), lab0)] ++ sts.drop at0) (fun H' s => al_app (al_app (al_take at0 (hYS H' s)) (hQS H' s)) (al_drop at0 (hYS H' s))) ⟨fun r hr => ?_, ?_, ?_⟩
      · rcases List.mem_append.mp hr with hr | hr
        · rcases List.mem_append.mp hr with hr | hr
          · exact m7 r (List.mem_of_mem_take hr)
          · rw [List.mem_singleton.mp hr]; show j < 7; omega
        · exact m7 r (List.mem_of_mem_drop hr)
      · rw [List.length_append, List.length_append, List.length_take, List.length_drop]; simp; omega
      · have := zc_one ((j, b), lab0)
        rw [zc_app, zc_app]; omega
    have z1 : zc (sts.drop (at0 + 1)) ≤ zc (sts.drop at0) := zc_sub (drop_sub (by omega))
    refine ⟨_, rfl, eqi (ite2 (fun _ => ?_) (fun _ => ?_))⟩
    · refine GL.run (gl_cat (gl_cat (gl_sl (gl_var rfl hsq9) go_none (go_var rfl)) (gl_one rfl) ?_) (gl_sl (gl_var rfl hsq9) (go_plus (k := (at0 : Int)) (c := 1) rfl) go_none) ?_) ?_
      · rw [cut_hi, List.length_take]; exact sm9 (by simp; omega)
      · rw [cut_hi, show ((at0 : Int) + 1) = ((at0 + 1 : Nat) : Int) by omega, cut_lo, List.length_append, List.length_take, List.length_drop]; exact sm9 (by simp; omega)
      rw [cut_hi, show ((at0 : Int) + 1) = ((at0 + 1 : Nat) : Int) by omega, cut_lo]
      refine cont (szs := sts.take at0 ++ [((j, b), lab0)] ++ sts.drop (at0 + 1)) (fun H' s => al_app (al_app (al_take at0 (hYS H' s)) (hQS H' s)) (al_drop _ (hYS H' s))) ⟨fun r hr => ?_, ?_, ?_⟩
      · rcases List.mem_append.mp hr with hr | hr
        · rcases List.mem_append.mp hr with hr | hr
          · exact m7 r (List.mem_of_mem_take hr)
          · rw [List.mem_singleton.mp hr]; show j < 7; omega
        · exact m7 r (List.mem_of_mem_drop hr)
      · rw [List.length_append, List.length_append, List.length_take, List.length_drop]; simp; omega
      · have := zc_one ((j, b), lab0)
        rw [zc_app, zc_app]; omega
    refine ⟨_, rfl, eqi (ite2 (fun _ => ?_) (fun _ => ?_))⟩
    · refine GL.run (gl_cat (gl_cat (gl_sl (gl_var rfl hsq9) go_none (go_var rfl)) (gl_rev (gl_sl (gl_var rfl hsq9) (go_var rfl) (go_plus (k := (at0 : Int)) (c := 2) rfl))) ?_) (gl_sl (gl_var rfl hsq9) (go_plus (k := (at0 : Int)) (c := 2) rfl) go_none) ?_) ?_
      · rw [cut_hi, show ((at0 : Int) + 2) = ((at0 + 2 : Nat) : Int) by omega, cut_mid hv, List.length_reverse, List.length_take, List.length_take, List.length_drop]; exact sm9 (by omega)
      · rw [cut_hi, show ((at0 : Int) + 2) = ((at0 + 2 : Nat) : Int) by omega, cut_mid hv, cut_lo, List.length_append, List.length_reverse, List.length_take, List.length_take, List.length_drop, List.length_drop]; exact sm9 (by omega)
      rw [cut_hi, show ((at0 : Int) + 2) = ((at0 + 2 : Nat) : Int) by omega, cut_mid hv, cut_lo]
      refine cont (szs := sts.take at0 ++ ((sts.drop at0).take 2).reverse ++ sts.drop (at0 + 2)) (fun H' s => al_app (al_app (al_take at0 (hYS H' s)) (al_rev (al_take 2 (al_drop at0 (hYS H' s))))) (al_drop _ (hYS H' s))) ⟨fun r hr => ?_, ?_, ?_⟩
      · rcases List.mem_append.mp hr with hr | hr
        · rcases List.mem_append.mp hr with hr | hr
          · exact m7 r (List.mem_of_mem_take hr)
          · exact m7 r (List.mem_of_mem_drop (List.mem_of_mem_take (List.mem_reverse.mp hr)))
        · exact m7 r (List.mem_of_mem_drop hr)
      · rw [List.length_append, List.length_append, List.length_take, List.length_reverse, List.length_take, List.length_drop, List.length_drop]; omega
      · have e2 := zc_td 2 (sts.drop at0)
        rw [List.drop_drop] at e2
        rw [zc_app, zc_app, zc_rev]; omega
    · refine GL.run (gl_cat (gl_cat (gl_sl (gl_var rfl hsq9) go_none (go_var rfl)) (gl_sl (gl_var rfl hsq9) (go_plus (k := (at0 : Int)) (c := 1) rfl) go_none) ?_) (gl_sl (gl_var rfl hsq9) go_none (go_int (k := ((1 : Nat) : Int)))) ?_) ?_
      · rw [cut_hi, show ((at0 : Int) + 1) = ((at0 + 1 : Nat) : Int) by omega, cut_lo, List.length_take, List.length_drop]; exact sm9 (by omega)
      · rw [cut_hi, cut_hi, show ((at0 : Int) + 1) = ((at0 + 1 : Nat) : Int) by omega, cut_lo, List.length_append, List.length_take, List.length_take, List.length_drop]; exact sm9 (by omega)
      rw [cut_hi, cut_hi, show ((at0 : Int) + 1) = ((at0 + 1 : Nat) : Int) by omega, cut_lo]
      refine cont (szs := sts.take at0 ++ sts.drop (at0 + 1) ++ sts.take 1) (fun H' s => al_app (al_app (al_take at0 (hYS H' s)) (al_drop _ (hYS H' s))) (al_take 1 (hYS H' s))) ⟨fun r hr => ?_, ?_, ?_⟩
      · rcases List.mem_append.mp hr with hr | hr
        · rcases List.mem_append.mp hr with hr | hr
          · exact m7 r (List.mem_of_mem_take hr)
          · exact m7 r (List.mem_of_mem_drop hr)
        · exact m7 r (List.mem_of_mem_take hr)
      · rw [List.length_append, List.length_append, List.length_take, List.length_drop, List.length_take]; omega
      · have := zc_le (sts.take 1)
        rw [List.length_take] at this
        rw [zc_app, zc_app]; omega
end
end K16


/-! one clause is asked -/
namespace K16
open PySem PySem.Spec PyProof.Rows L2 RN
section
variable {P : Program} {w : World} {K : PySem.W.Frag} {mg : Str → Option Value} {base : Heap} {a : Ad} {e : Nat → PyData} {p : Pd} {fI fL : Addr} {dI dL : FuncData}
def ngs (c : List Lt) : List Stp := c.map fun l => (ng l, 0)
theorem ngs_take (c : List Lt) (k : Nat) : (ngs c).take k = ngs (c.take k) := by unfold ngs; rw [List.map_take]
theorem ngs_lt {c : List Lt} (h7 : In7 c) : ∀ q ∈ ngs c, q.1.1 < 7 := fun q hq => by
  unfold ngs at hq
  obtain ⟨l, hl, rfl⟩ := List.mem_map.mp hq
  exact h7 l hl
theorem ngs_len (c : List Lt) : (ngs c).length = c.length := by unfold ngs; rw [List.length_map]
def spCa (e : Nat → PyData) (K : PySem.W.Frag) : Sp := fun vs H Q _ => ∃ (rl c0 : Addr) (rows : List Row) (r : Row), vs = [.ref rl, .int (r.1 : Int), .ref c0] ∧ RwsIs e K H rl rows ∧ Rows6 rows ∧ ClIs e K H c0 r.2 ∧ r.2.length ≤ 3 ∧ In7 r.2 ∧ ∀ H', Same H H' → Q (.bl true) H'
theorem ok_ca (A : AtOk e) (T : Top K mg a) (G_l_not : FnOk P w K mg base CX0 1 a.f_l_not a.d_l_not ["_law_literal"] (spNeg e K))
    (G_l_asked : FnOk P w K mg base CX0 31 a.f_l_asked a.d_l_asked ["_law_rows", "_law_steps"] (spAsk e K)) : FnOk P w K mg base CX0 32 a.f_l_clause_asked a.d_l_clause_asked ["_law_rows", "_law_label", "_law_row"] (spCa e K) := by
  refine T.F_l_clause_asked.ok sc_l_clause_asked (fun vs H Q E h => ?_) (fun cdv A' outer s H vs Q E hr h => ?_)
  · obtain ⟨_, _, _, _, rfl, _⟩ := h
    rfl
  · obtain ⟨rl, c0, rows, r, rfl, hrw, r6, hc, hl, h7, q⟩ := h
    refine ⟨_, (pss_cons (ps_set (i := 3) sc_l_clause_asked.nd rfl (.inl rfl) (pe_lst pa_nil))
    (pss_cons (ps_for PassesOwn.never rfl (pi_tup (pv 2)) (pg_name (i := 4) sc_l_clause_asked.nd rfl (.inl rfl))
      (pss_one (ps_expr (pe_bm PySem.F.plainAttrs_list PySem.F.slot_list_append PySem.F.type_list_append mt_append (pv 3) (pa_cons (pe_tup (pa_cons (pe_call G_l_not (hr.mono (by decide)) (by rfl) T.m_l_not T.F_l_not.kp T.b_l_not .nil pass0 (pa_cons (pv 4) pa_nil)) (pa_cons pe_int pa_nil))) pa_nil)))))
    (pss_cons (ps_if (PW.pt (pw_or (pt_not (pt_val (pe_call G_l_asked (hr.mono (by decide)) (by rfl) T.m_l_asked T.F_l_asked.kp T.b_l_asked .nil pass0 (pa_cons (pv 0) (pa_cons (pv 3) pa_nil))))) (pw_or1 (pt_not (pt_val (pe_call G_l_asked (hr.mono (by decide)) (by rfl) T.m_l_asked T.F_l_asked.kp T.b_l_asked .nil pass0 (pa_cons (pv 0) (pa_cons (pe_op op_cat (pv 3) (pe_slice sl_list (pv 3) po_none (po_some pe_int))) pa_nil))))))))
      (pss_one (ps_ret pe_bl))
      pss_nil)
    (pss_cons (ps_for PassesOwn.never rfl (pi_range1 (by rfl) T.z_range (pa_cons (pe_callB (CallR.or call_len_str call_len_seq) (by rfl) T.z_len (by decide +kernel) (pa_cons (pv 2) pa_nil)) pa_nil)) (pg_name (i := 5) sc_l_clause_asked.nd rfl (.inl rfl))
      (pss_cons (ps_set (i := 6) sc_l_clause_asked.nd rfl (.inl rfl) (pe_op op_cat (pe_slice sl_list (pv 3) po_none (po_some (pv 5))) (pe_slice sl_list (pv 3) (po_some (pe_op op_add (pv 5) pe_int)) po_none)))
      (pss_one (ps_if (PW.pt (pw_or (pt_not (pt_val (pe_call G_l_asked (hr.mono (by decide)) (by rfl) T.m_l_asked T.F_l_asked.kp T.b_l_asked .nil pass0 (pa_cons (pv 0) (pa_cons (pe_op op_cat (pv 6) (pe_lst (pa_cons (pe_tup (pa_cons (pe_ix ix_seq (pv 2) (pv 5) (fun _ _ => rfl)) (pa_cons (pv 1) pa_nil))) pa_nil))) pa_nil))))) (pw_or1 (pt_not (pt_val (pe_call G_l_asked (hr.mono (by decide)) (by rfl) T.m_l_asked T.F_l_asked.kp T.b_l_asked .nil pass0 (pa_cons (pv 0) (pa_cons (pe_op op_cat (pv 3) (pe_lst (pa_cons (pe_tup (pa_cons (pe_ix ix_seq (pv 2) (pv 5) (fun _ _ => rfl)) (pa_cons (pv 1) pa_nil))) pa_nil))) pa_nil))))))))
        (pss_one (ps_ret pe_bl))
        pss_nil))))
    (pss_one (ps_ret pe_bl)))))), ?_⟩
    have rok := r6.ok
    have sm9 : ∀ {n : Nat}, n ≤ 400 → n ≤ sizeLine := fun h => Nat.le_of_lt (small1000 (by omega))
    have ask : ∀ {H1 : Hp} (_ : Same H H1) {sq : Addr} {zs : List V} {szs : List Stp} (_ : H1 sq = some (.lst zs)) (_ : R1.Al (StpV e K H1) zs szs) (_ : ∀ q ∈ szs, q.1.1 < 7) (_ : szs.length ≤ 15) {Q5 : VK} {E5 : XK} (_ : ∀ H', Same H1 H' → Q5 (.bl true) H'), spAsk e K [.ref rl, .ref sq] H1 Q5 E5 := by
      intro H1 s1 sq zs szs h1 h2 h3 h4 Q5 E5 c
      have := zc_le szs
      unfold zc at this
      exact ⟨rl, sq, rows, zs, szs, rfl, rws_same A rok s1 hrw, r6, h1, h2, in7_of h3, by omega, by omega, c⟩
    obtain ⟨xs, hx, hA⟩ := id hc
    have lx : xs.length = r.2.length := hA.1
    refine ⟨Nat.zero_le _, fun N nN => ?_⟩
    have s1 : Same H (upd H N (.lst [])) := same_upd nN
    have hN : (upd H N (.lst [])) N = some (.lst []) := upd_same
    generalize upd H N (.lst []) = H1 at s1 hN ⊢
    refine ⟨.ref c0, rfl, c0, rfl, ⟨_, sqT_tk (Same.tk s1) hx⟩, for_it (walk_tup (xs := xs)) (fun i σ' H' => ∃ y4, σ' = [some (.ref rl), some (.int (r.1 : Int)), some (.ref c0), some (.ref N), y4, none, none] ∧ Same H H' ∧ ∃ acc, H' N = some (.lst acc) ∧ R1.Al (StpV e K H') acc (ngs (r.2.take i))) ⟨_, rfl, s1, [], hN, R1.Al.nil⟩ (fun i σ' H' _ h => by obtain ⟨_, _, h, _⟩ := h; exact sqT_tk (Same.tk h) hx) ?_ ?_⟩
    · rintro i x σ' _ H2 hi ⟨y4, rfl, s2, acc, hN2, hA2⟩ ⟨rfl, hxi⟩
      obtain ⟨l, gl, hli⟩ := hA.at hxi
      have l7 : l.1 < 7 := h7 l (List.mem_of_getElem? gl)
      have et : ngs (r.2.take (i + 1)) = ngs (r.2.take i) ++ [(ng l, 0)] := by
        unfold ngs
        rw [List.take_add_one, gl, List.map_append]; rfl
      have i7 : In7 (hs (ngs (r.2.take i))) := in7_of (ngs_lt fun l hl => h7 l (List.mem_of_mem_take hl))
      have la : acc.length ≤ 400 := by
        have := hA2.1
        rw [ngs_len, List.length_take] at this
        omega
      refine ⟨.ref N, rfl, .inl ⟨rfl, _, .of hN2⟩, x, rfl, x, l, rfl, l7, hli.tk A l7 (Same.tk s2), fun np H3 nnp s3 hng => ⟨sm9 (by simp), fun tp ntp => ?_⟩⟩
      have s4 := s3.trans (same_upd (o := .tup [.ref np, .int 0]) ntp)
      have hng4 := hng.tk A (show (ng l).1 < 7 from l7) (Same.tk (same_upd (o := .tup [.ref np, .int 0]) ntp))
      have htp : (upd H3 tp (.tup [.ref np, .int 0])) tp = _ := upd_same
      generalize upd H3 tp (.tup [.ref np, .int 0]) = H4 at s4 hng4 htp ⊢
      refine ⟨N, acc, .ref tp, rfl, rfl, s4 _ _ hN2, small1000 (by omega), _, rfl, K16.Same.mut (s2.trans s4) nN, _, upd_same, ?_⟩
      have tN : Tk H4 (upd H4 N (.lst (acc ++ [.ref tp]))) := tk_upd (s4 _ _ hN2) True.intro
      rw [et]
      exact R1.Al.snoc (stp_tk A i7 tN (sts_tk A i7 s4 hA2)) ⟨tp, .ref np, rfl, sqT_tk tN (.of htp), hng4.tk A (show (ng l).1 < 7 from l7) tN⟩
    · rintro σ' H2 ⟨y4, rfl, s2, acc, hN2, hA2⟩
      rw [lx, List.take_length] at hA2
      have n7 : ∀ q ∈ ngs r.2, q.1.1 < 7 := ngs_lt h7
      have i7 : In7 (hs (ngs r.2)) := in7_of n7
      have la : acc.length ≤ 3 := by
        have := hA2.1
        rw [ngs_len] at this
        omega
      have ln : (ngs r.2).length ≤ 3 := by rw [ngs_len]; exact hl
      refine ⟨.ref rl, rfl, .ref N, rfl, ?_⟩
      dsimp only [tNil, List.cons_append, List.nil_append]
      refine ask s2 hN2 hA2 n7 (by omega) fun H3 s3 => ⟨true, rfl, iteF ⟨.ref rl, rfl, ?_⟩⟩
      have hN3 := s3 _ _ hN2
      have hA3 := sts_tk A i7 s3 hA2
      refine GL.run (gl_cat (gl_var rfl hN3) (gl_sl (gl_var rfl hN3) go_none (go_int (k := ((1 : Nat) : Int)))) ?_) ?_
      · rw [cut_hi, List.length_take]; exact sm9 (by omega)
      rw [cut_hi]
      intro p1 H4 s4 hp1
      have s24 := s2.trans (s3.trans s4)
      have hA4 := sts_tk A i7 s4 hA3
      dsimp only [tNil, List.cons_append, List.nil_append]
      refine ask s24 hp1 (al_app hA4 (al_take 1 hA4)) (fun q hq => ?_) (by rw [List.length_append, List.length_take]; omega) fun H5 s5 => ⟨true, rfl, iteF ?_⟩
      · rcases List.mem_append.mp hq with hq | hq
        · exact n7 q hq
        · exact n7 q (List.mem_of_mem_take hq)
      -- each literal
      have s25 := s24.trans s5
      have hN5 := s5 _ _ (s4 _ _ hN3)
      have hA5 := sts_tk A i7 s5 hA4
      refine ⟨.ref c0, rfl, .inr ⟨c0, xs, rfl, .inr (sqT_tk (Same.tk s25) hx), _, rfl, by omega, by omega, for_range (lo := 0) (n := xs.length) (fun i σ' H' => ∃ y4 y5 y6, σ' = [some (.ref rl), some (.int (r.1 : Int)), some (.ref c0), some (.ref N), y4, y5, y6] ∧ Same H5 H') ⟨_, _, _, rfl, Same.refl _⟩ ?_ ?_⟩⟩
      · rintro i σ' H6 hi ⟨y4, y5, y6, rfl, s6⟩
        rw [Int.zero_add]
        have hN6 := s6 _ _ hN5
        have hA6 := sts_tk A i7 s6 hA5
        have la' : acc.length = (ngs r.2).length := hA2.1
        have gi : xs[i]? = some (xs[i]'hi) := List.getElem?_eq_getElem hi
        obtain ⟨l, gl, hli⟩ := hA.at gi
        have l7 : l.1 < 7 := h7 l (List.mem_of_getElem? gl)
        generalize xs[i]'hi = xi at gi hli
        refine GL.run (gl_cat (gl_sl (gl_var rfl hN6) go_none (go_var rfl)) (gl_sl (gl_var rfl hN6) (go_plus (k := (i : Int)) (c := 1) rfl) go_none) ?_) ?_
        · rw [cut_hi, show ((i : Int) + 1) = ((i + 1 : Nat) : Int) by omega, cut_lo, List.length_take, List.length_drop]; exact sm9 (by omega)
        rw [cut_hi, show ((i : Int) + 1) = ((i + 1 : Nat) : Int) by omega, cut_lo]
        intro O H7 s7 hO
        have one : ∀ {H8 : Hp} (_ : Same H7 H8) {B : Addr} {zs : List V} {szs : List Stp} (_ : H8 B = some (.lst zs)) (_ : R1.Al (StpV e K H8) zs szs) (_ : ∀ q ∈ szs, q.1.1 < 7) (_ : szs.length ≤ 6) {σ : L2.St} (_ : σ[2]? = some (some (.ref c0))) (_ : σ[5]? = some (some (.int (i : Int)))) (_ : σ[1]? = some (some (.int (r.1 : Int)))) {j : Nat} (_ : σ[j]? = some (some (.ref B))) {Q9 : VK} (_ : ∀ y H9, (∀ {Q5 : VK} {E5 : XK} (_ : ∀ H', Same H8 H' → Q5 (.bl true) H'), spAsk e K [.ref rl, y] H9 Q5 E5) → Q9 y H9),
            tOp rCat (tVar j) (tLst (tCons (tTup (tCons (tOp (rIx K) (tVar 2) (tVar 5)) (tCons (tVar 1) tNil))) tNil)) σ H8 Q9 := by
          intro H8 s8 B zs szs h1 h2 h3 h4 σ g2 g5 g1 j gj Q9 c
          have s28 := s25.trans (s6.trans (s7.trans s8))
          refine ⟨.ref B, gj, .ref c0, g2, .int (i : Int), g5, .inr (.inl ⟨c0, xs, (i : Int), xi, rfl, rfl, sqT_tk (Same.tk s28) hx, atI_nat gi, .int (r.1 : Int), g1, sm9 (by simp), fun tp ntp => ⟨sm9 (by simp), fun lp nlp => ⟨B, lp, _, _, rfl, rfl, ?_, upd_same, sm9 (show zs.length + 1 ≤ 400 by have := h2.1; omega), fun cp ncp => c _ _ fun {Q5} {E5} c => ?_⟩⟩⟩)⟩
          · exact (same_upd nlp) _ _ ((same_upd ntp) _ _ h1)
          have t1 := same_upd (o := .tup [xi, .int (r.1 : Int)]) ntp
          have t2 := t1.trans ((same_upd (o := .lst [.ref tp]) nlp).trans (same_upd (o := .lst (zs ++ [.ref tp])) ncp))
          have htp := ((same_upd (o := .lst [.ref tp]) nlp).trans (same_upd (o := .lst (zs ++ [.ref tp])) ncp)) _ _ (show (upd H8 tp (.tup [xi, .int (r.1 : Int)])) tp = _ from upd_same)
          refine ask (s28.trans t2) upd_same (szs := szs ++ [(l, r.1)]) (al_app (sts_tk A (in7_of h3) t2 h2) (al_one ⟨tp, xi, rfl, .of htp, hli.tk A l7 (Same.tk (s28.trans t2))⟩)) (fun q hq => ?_) (by rw [List.length_append]; simp; omega) fun H' s => c H' (t2.trans s)
          rcases List.mem_append.mp hq with hq | hq
          · exact h3 q hq
          · rw [List.mem_singleton.mp hq]; exact l7
        refine ⟨.ref rl, rfl, ?_⟩
        refine one (Same.refl _) hO (szs := (ngs r.2).take i ++ (ngs r.2).drop (i + 1)) (al_app (al_take i (sts_tk A i7 s7 hA6)) (al_drop (i + 1) (sts_tk A i7 s7 hA6))) (fun q hq => ?_) (by rw [List.length_append, List.length_take, List.length_drop]; omega) rfl rfl rfl rfl fun y H9 g => ?_
        · rcases List.mem_append.mp hq with hq | hq
          · exact n7 q (List.mem_of_mem_take hq)
          · exact n7 q (List.mem_of_mem_drop hq)
        dsimp only [tNil, List.cons_append, List.nil_append]
        refine g fun H8 s8 => ⟨true, rfl, iteF ⟨.ref rl, rfl, ?_⟩⟩
        refine one s8 (s8 _ _ (s7 _ _ hN6)) (sts_tk A i7 (s7.trans s8) hA6) n7 (by omega) rfl rfl rfl rfl fun y H9 g => ?_
        dsimp only [tNil, List.cons_append, List.nil_append]
        exact g fun H9 s9 => ⟨true, rfl, iteF ⟨_, _, _, rfl, s6.trans (s7.trans (s8.trans s9))⟩⟩
      · rintro σ' H6 ⟨y4, y5, y6, rfl, s6⟩
        exact q _ (s25.trans s6)
end
end K16


/-! the law -/
namespace K16
open PySem PySem.Spec PyProof.Rows L2 RN
section
variable {P : Program} {w : World} {K : PySem.W.Frag} {mg : Str → Option Value} {base : Heap} {a : Ad} {p : Pd} {fI fJ fS fR pR : Addr} {dI dJ dS dR : FuncData} {mc : Value}
theorem FnOk.ex {P : Program} {w : World} {K : PySem.W.Frag} {mg : Str → Option Value} {base : Heap} {CX : CXT} {k : Nat} {f : Addr} {fd : FuncData} {ps : List Str} {α : Type} {G : α → Prop} {sp : α → Sp} (h : ∀ x, G x → FnOk P w K mg base CX k f fd ps (sp x)) : FnOk P w K mg base CX k f fd ps (fun vs H Q E => ∃ x, G x ∧ sp x vs H Q E) :=
  ⟨fun vs H Q E ⟨x, g, q⟩ => (h x g).len vs H Q E q, fun A outer s H args us vs Q E hr he hb hv ⟨x, g, q⟩ => (h x g).run A outer s H args us vs Q E hr he hb hv q⟩
theorem zc_run {rows : List Row} (hr : ∀ r ∈ rows, 0 < r.1) : ∀ (n : Nat) (st : List Stp), zc (run n rows st).1 ≤ zc st
  | 0, _ => Nat.le_refl _
  | n + 1, st => by
    unfold run
    cases hc : chosen rows (hs st) with
    | none => simp
    | some r =>
      cases hl : left r.2 (hs st) with
      | nil => simp only [hl]; omega
      | cons l ls =>
        simp only [hl]
        have h1 := zc_run hr n (st ++ [(l, r.1)])
        have pos := hr r (chosen_mem hc).1
        have h2 : zc [(l, r.1)] = 0 := by
          unfold zc zeros
          rw [List.filter_cons, if_neg (by simp; omega)]; rfl
        rw [zc_app, h2] at h1
        omega
def spLaw (K : PySem.W.Frag) : Sp := fun vs H Q _ => ∃ (p : Addr) (ns : List Int), vs = [.ref p] ∧ SqL K H p (ns.map V.int) ∧ ∀ H', Q (.bl true) H'
theorem ok_law {LA OA LO OO : Addr} (T : Top K mg a) (B : PrC K a.c_Propagation p) (EL : ErX K a.c_BadLiteral LA OA fI dI "BadLiteral.__init__" initL) (EO : ErX K a.c_BadOrder LO OO fJ dJ "BadOrder.__init__" initO) (ES : ErS K a.c_BadStep a.c_LookerError fS dS)
    (F_R : Fun K "replayed" "Propagation.replayed" s_Propagation_replayed fR dR) (bR : Binds K dR ["clauses", "steps"] []) (rC : ClX.CRead K a.c_Propagation mc) (sM : R1.SMet K a.c_Propagation mc "replayed" pR fR) : FnOk P w K mg base CX0 33 a.f_law a.d_law ["_law_script"] (spLaw K) := by
  have G_is_int := ok_is_int (P := P) (w := w) (base := base) T
  have G_l_state := ok_state (P := P) (w := w) (base := base) T
  have G_l_draw := ok_draw (P := P) (w := w) (base := base) T
  have G_l_alike := ok_alike (P := P) (w := w) (base := base) T 30
  have G_l_atom_row := ok_atoms (P := P) (w := w) (base := base) T G_l_draw
  have g_clauses := fun e (A : AtOk e) => ok_clauses (P := P) (w := w) (base := base) A T G_l_draw (ok_clause A T G_l_draw)
  have g_not := fun e (A : AtOk e) => ok_not (P := P) (w := w) (base := base) A T
  have g_left := fun e (A : AtOk e) => ok_left A T (g_not e A)
  have g_dict := fun e (A : AtOk e) => ok_dict (P := P) (w := w) (base := base) A T
  have g_by := fun e (A : AtOk e) => ok_by (P := P) (w := w) (base := base) A T (g_dict e A)
  have g_pg := fun e (A : AtOk e) => ok_pg (P := P) (w := w) (base := base) A T (g_left e A)
  have g_und := fun e (A : AtOk e) => ok_und (P := P) (w := w) (base := base) A T (ok_neg A T)
  have g_prop := fun e (A : AtOk e) => ok_prop (P := P) (w := w) (base := base) A T B EO G_is_int (ok_next A T (g_und e A))
  have g_rep := fun e (A : AtOk e) => ok_rep (P := P) (w := w) (base := base) A T B F_R ES (ok_rst A T G_is_int (g_und e A)) (g_und e A)
  have g_lr := fun e (A : AtOk e) => ok_lr (P := P) (w := w) (base := base) T ES rC sM bR (g_rep e A)
  have g_asked := fun e (A : AtOk e) => ok_asked (P := P) (w := w) (base := base) (LO := LO) (OO := OO) (fO := fJ) (dO := dJ) A T B EL G_l_alike (g_dict e A) (g_by e A) (g_left e A) (g_pg e A) (ok_sr A T (g_not e A)) (g_lr e A) (g_prop e A)
  have g_bent := fun e (A : AtOk e) => ok_bent (P := P) (w := w) (base := base) A T G_l_draw
  have g_ca := fun e (A : AtOk e) => ok_ca (P := P) (w := w) (base := base) A T (g_not e A) (g_asked e A)
  have G_l_clauses := FnOk.ex (G := AtOk) g_clauses
  have G_l_by_label := FnOk.ex (G := AtOk) g_by
  have G_l_propagated := FnOk.ex (G := AtOk) g_pg
  have G_l_asked := FnOk.ex (G := AtOk) g_asked
  have G_l_bent := FnOk.ex (G := AtOk) g_bent
  have G_l_clause_asked := FnOk.ex (G := AtOk) g_ca
  refine T.F_law.ok sc_law (fun vs H Q E h => ?_) (fun cdv A' outer s H vs Q E hr h => ?_)
  · obtain ⟨_, _, rfl, _⟩ := h
    rfl
  · obtain ⟨p0, ns0, rfl, hS, q⟩ := h
    refine ⟨_, (pss_cons (ps_set (i := 1) sc_law.nd rfl (.inl rfl) (pe_call G_l_state (hr.mono (by decide)) (by rfl) T.m_l_state T.F_l_state.kp T.b_l_state .nil pass0 (pa_cons (pv 0) pa_nil)))
    (pss_cons (ps_set (i := 2) sc_law.nd rfl (.inl rfl) (pe_call G_l_atom_row (hr.mono (by decide)) (by rfl) T.m_l_atom_row T.F_l_atom_row.kp T.b_l_atom_row .nil pass0 (pa_cons (pv 1) (pa_cons (pe_op op_add pe_int (pe_call G_l_draw (hr.mono (by decide)) (by rfl) T.m_l_draw T.F_l_draw.kp T.b_l_draw .nil pass0 (pa_cons (pv 1) (pa_cons pe_int pa_nil)))) pa_nil))))
    (pss_cons (ps_set (i := 3) sc_law.nd rfl (.inl rfl) (pe_call G_l_clauses (hr.mono (by decide)) (by rfl) T.m_l_clauses T.F_l_clauses.kp T.b_l_clauses .nil pass0 (pa_cons (pv 1) (pa_cons (pv 2) (pa_cons pe_int (pa_cons pe_int pa_nil))))))
    (pss_cons (ps_set (i := 4) sc_law.nd rfl (.inl rfl) (pe_tup (pa_cons (pe_tup (pa_cons (pe_tup (pa_cons pe_str (pa_cons pe_str (pa_cons pe_int pa_nil)))) (pa_cons pe_bl pa_nil))) (pa_cons pe_int pa_nil))))
    (pss_cons (ps_for PassesOwn.never rfl (pi_range1 (by rfl) T.z_range (pa_cons pe_int pa_nil)) (pg_name (i := 5) sc_law.nd rfl (.inl rfl))
      (pss_cons (ps_set (i := 6) sc_law.nd rfl (.inl rfl) (pe_lst pa_nil))
      (pss_cons (ps_for PassesOwn.never rfl (pi_range1 (by rfl) T.z_range (pa_cons (pe_call G_l_draw (hr.mono (by decide)) (by rfl) T.m_l_draw T.F_l_draw.kp T.b_l_draw .nil pass0 (pa_cons (pv 1) (pa_cons pe_int pa_nil))) pa_nil)) (pg_name (i := 7) sc_law.nd rfl (.inl rfl))
        (pss_one (ps_expr (pe_bm PySem.F.plainAttrs_list PySem.F.slot_list_append PySem.F.type_list_append mt_append (pv 6) (pa_cons (pe_tup (pa_cons (pe_ix ix_seq (pv 2) (pe_call G_l_draw (hr.mono (by decide)) (by rfl) T.m_l_draw T.F_l_draw.kp T.b_l_draw .nil pass0 (pa_cons (pv 1) (pa_cons (pe_callB (CallR.or call_len_str call_len_seq) (by rfl) T.z_len (by decide +kernel) (pa_cons (pv 2) pa_nil)) pa_nil))) (fun _ _ => rfl)) (pa_cons (pe_cmpR op_eq (pe_call G_l_draw (hr.mono (by decide)) (by rfl) T.m_l_draw T.F_l_draw.kp T.b_l_draw .nil pass0 (pa_cons (pv 1) (pa_cons pe_int pa_nil))) pe_int (nomark _)) pa_nil))) pa_nil)))))
      (pss_cons (ps_set (i := 8) sc_law.nd rfl (.inl rfl) (pe_call G_l_draw (hr.mono (by decide)) (by rfl) T.m_l_draw T.F_l_draw.kp T.b_l_draw .nil pass0 (pa_cons (pv 1) (pa_cons (pe_op op_add (pe_callB (CallR.or call_len_str call_len_seq) (by rfl) T.z_len (by decide +kernel) (pa_cons (pv 3) pa_nil)) pe_int) pa_nil))))
      (pss_one (ps_for PassesOwn.never rfl (pi_tup (pe_tup (pa_cons (pe_call G_l_by_label (hr.mono (by decide)) (by rfl) T.m_l_by_label T.F_l_by_label.kp T.b_l_by_label .nil pass0 (pa_cons (pv 3) pa_nil)) (pa_cons (pe_op op_cat (pe_slice sl_list (pv 3) (po_some (pv 8)) po_none) (pe_slice sl_list (pv 3) po_none (po_some (pv 8)))) pa_nil)))) (pg_name (i := 9) sc_law.nd rfl (.inl rfl))
        (pss_cons (ps_set (i := 10) sc_law.nd rfl (.inl rfl) (pe_ix ix_seq (pe_call G_l_propagated (hr.mono (by decide)) (by rfl) T.m_l_propagated T.F_l_propagated.kp T.b_l_propagated .nil pass0 (pa_cons (pv 9) (pa_cons (pv 6) pa_nil))) pe_int (fun _ _ => rfl)))
        (pss_cons (ps_if (PW.pt (pw_or (pt_not (pt_val (pe_call G_l_asked (hr.mono (by decide)) (by rfl) T.m_l_asked T.F_l_asked.kp T.b_l_asked .nil pass0 (pa_cons (pv 3) (pa_cons (pv 10) pa_nil))))) (pw_or1 (pt_not (pt_val (pe_call G_l_asked (hr.mono (by decide)) (by rfl) T.m_l_asked T.F_l_asked.kp T.b_l_asked .nil pass0 (pa_cons (pv 3) (pa_cons (pe_slice sl_list (pv 10) po_none (po_some (pe_call G_l_draw (hr.mono (by decide)) (by rfl) T.m_l_draw T.F_l_draw.kp T.b_l_draw .nil pass0 (pa_cons (pv 1) (pa_cons (pe_op op_add (pe_callB (CallR.or call_len_str call_len_seq) (by rfl) T.z_len (by decide +kernel) (pa_cons (pv 10) pa_nil)) pe_int) pa_nil))))) pa_nil))))))))
          (pss_one (ps_ret pe_bl))
          pss_nil)
        (pss_cons (ps_if (PW.pt (pw_or (pt_not (pt_val (pe_call G_l_asked (hr.mono (by decide)) (by rfl) T.m_l_asked T.F_l_asked.kp T.b_l_asked .nil pass0 (pa_cons (pv 3) (pa_cons (pe_op op_cat (pv 10) (pe_lst (pa_cons (pv 4) pa_nil))) pa_nil))))) (pw_or1 (pt_not (pt_val (pe_call G_l_asked (hr.mono (by decide)) (by rfl) T.m_l_asked T.F_l_asked.kp T.b_l_asked .nil pass0 (pa_cons (pv 3) (pa_cons (pe_op op_cat (pe_lst (pa_cons (pv 4) pa_nil)) (pv 10)) pa_nil))))))))
          (pss_one (ps_ret pe_bl))
          pss_nil)
        (pss_one (ps_for PassesOwn.never rfl (pi_range1 (by rfl) T.z_range (pa_cons pe_int pa_nil)) (pg_name (i := 11) sc_law.nd rfl (.inl rfl))
          (pss_one (ps_if (pt_not (pt_val (pe_call G_l_asked (hr.mono (by decide)) (by rfl) T.m_l_asked T.F_l_asked.kp T.b_l_asked .nil pass0 (pa_cons (pv 3) (pa_cons (pe_call G_l_bent (hr.mono (by decide)) (by rfl) T.m_l_bent T.F_l_bent.kp T.b_l_bent .nil pass0 (pa_cons (pv 1) (pa_cons (pv 3) (pa_cons (pv 2) (pa_cons (pv 10) pa_nil))))) pa_nil)))))
            (pss_one (ps_ret pe_bl))
            pss_nil)))))))))))))
    (pss_cons (ps_for PassesOwn.never rfl (pi_list (pv 3)) (pg_lst rfl (pgs_cons (pg_name (i := 12) sc_law.nd rfl (.inl rfl)) (pgs_cons (pg_name (i := 13) sc_law.nd rfl (.inl rfl)) pgs_nil)))
      (pss_one (ps_if (pt_not (pt_val (pe_call G_l_clause_asked (hr.mono (by decide)) (by rfl) T.m_l_clause_asked T.F_l_clause_asked.kp T.b_l_clause_asked .nil pass0 (pa_cons (pv 3) (pa_cons (pv 12) (pa_cons (pv 13) pa_nil))))))
        (pss_one (ps_ret pe_bl))
        pss_nil)))
    (pss_one (ps_ret (pe_and (pe_call G_l_asked (hr.mono (by decide)) (by rfl) T.m_l_asked T.F_l_asked.kp T.b_l_asked .nil pass0 (pa_cons (pv 3) (pa_cons (pe_lst pa_nil) pa_nil))) (pe_one (pe_call G_l_asked (hr.mono (by decide)) (by rfl) T.m_l_asked T.F_l_asked.kp T.b_l_asked .nil pass0 (pa_cons (pv 3) (pa_cons (pe_lst (pa_cons (pv 4) (pa_cons (pe_tup (pa_cons (pe_ix ix_seq (pv 4) pe_int (fun _ _ => rfl)) (pa_cons pe_int pa_nil))) pa_nil))) pa_nil))))))))))))), ?_⟩
    refine ⟨_, rfl, p0, ns0, rfl, hS, fun H1 st sc nst s1 S1 => ?_⟩
    refine ⟨.ref st, rfl, .ref st, rfl, sc, st, 4, rfl, S1, by decide, by decide, fun H2 v k2 S2 v0 v1 => ?_⟩
    obtain ⟨m, rfl⟩ : ∃ v' : Nat, v = v' := ⟨v.toNat, by omega⟩
    refine ⟨3, _, rfl, rfl, sc, st, 3 + m, rfl, S2, by omega, fun al sy sh H3 hsy hsh k3 S3 nal hat3 => ?_⟩
    have A := at_ok hsy hsh
    obtain ⟨n, hn⟩ : ∃ n, n = 3 + m := ⟨_, rfl⟩
    rw [← hn] at hat3
    have hn3 : 3 ≤ n := by omega
    have hn6 : n ≤ 6 := by omega
    generalize eA sy sh = e at A hat3
    refine ⟨.ref st, rfl, .ref al, rfl, e, A, sc, st, al, n, rfl, S3, hat3, hn3, hn6, fun rl rows H4 k4 S4 nrl hrw4 r6 => ?_⟩
    have rok := r6.ok
    have nd := r6.2.1
    have hat4 := ats_kp A (by omega) S3 k4 hat3
    have sm9 : ∀ {n : Nat}, n ≤ 400 → n ≤ sizeLine := fun h => Nat.le_of_lt (small1000 (by omega))
    -- the strange step
    refine ⟨sm9 (by simp), fun t1 n1 => ⟨sm9 (by simp), fun t2 n2 => ⟨sm9 (by simp), fun t3 n3 => ?_⟩⟩⟩
    have x1 := same_upd (o := .tup [.str "", .str "size", .int 2]) n1
    have x2 := same_upd (o := .tup [.ref t1, .bl true]) n2
    have x3 := same_upd (o := .tup [.ref t2, .int 0]) n3
    have g1 := x3 _ _ (x2 _ _ (show (upd H4 t1 (.tup [.str "", .str "size", .int 2])) t1 = _ from upd_same))
    have g2 := x3 _ _ (show (upd (upd H4 t1 (.tup [.str "", .str "size", .int 2])) t2 (.tup [.ref t1, .bl true])) t2 = _ from upd_same)
    have g3 : (upd (upd (upd H4 t1 (.tup [.str "", .str "size", .int 2])) t2 (.tup [.ref t1, .bl true])) t3 (.tup [.ref t2, .int 0])) t3 = _ := upd_same
    have x13 := x1.trans (x2.trans x3)
    generalize upd (upd (upd H4 t1 (.tup [.str "", .str "size", .int 2])) t2 (.tup [.ref t1, .bl true])) t3 (.tup [.ref t2, .int 0]) = H7 at x13 g1 g2 g3 ⊢
    have hli7 : Li e K H7 (.ref t2) (6, true) := li_mk (l := (6, true)) (.of g2) (by
      rw [show e (6, true).1 = _ from A.six]
      exact .tup (.of g1) (.cons (.str _) (.cons (.str _) (.cons (.int _) .nil))))
    have hst7 : StpV e K H7 (.ref t3) ((6, true), 0) := ⟨t3, .ref t2, rfl, .of g3, hli7⟩
    have S7 := S4.same x13
    have hat7 := ats_same A (by omega) x13 hat4
    have hrw7 := rws_same A rok x13 hrw4
    clear hat3 hat4 hrw4 g1 g2
    have lr : rows.length ≤ 6 := r6.1
    have pos : ∀ r ∈ rows, 0 < r.1 := fun r hr => by have := (r6.2.2 r hr).1; omega
    have ask : ∀ {H1 : Hp} (_ : Kp st H7 H1) {sq : Addr} {zs : List V} {szs : List Stp} (_ : H1 sq = some (.lst zs)) (_ : R1.Al (StpV e K H1) zs szs) (_ : ∀ q ∈ szs, q.1.1 < 7) (_ : szs.length ≤ 150) (_ : zc szs ≤ 20) {Q5 : VK} {E5 : XK} (_ : ∀ H', Same H1 H' → Q5 (.bl true) H'), ∃ x, AtOk x ∧ spAsk x K [.ref rl, .ref sq] H1 Q5 E5 := by
      intro H1 k1 sq zs szs h1 h2 h3 h4 h5 Q5 E5 c
      exact ⟨e, A, rl, sq, rows, zs, szs, rfl, rws_kp A rok S7 k1 hrw7, r6, h1, h2, in7_of h3, h4, h5, c⟩
    have l140 : ∀ {n : Nat}, n ≤ 400 → n ≤ sizeLine := sm9
    -- two turns
    refine ⟨2, rfl, by decide, by decide, for_range (lo := 0) (n := 2) (fun i σ' H' => ∃ y5 y6 y7 y8 y9 y10 y11, σ' = [some (.ref p0), some (.ref st), some (.ref al), some (.ref rl), some (.ref t3), y5, y6, y7, y8, y9, y10, y11, none, none] ∧ Kp st H7 H' ∧ Sta sc H' st) ⟨_, _, _, _, _, _, _, rfl, Kp.refl _ _, S7⟩ ?_ ?_⟩
    · rintro i σ' H8 hi ⟨y5, y6, y7, y8, y9, y10, y11, rfl, k8, S8⟩
      refine ⟨Nat.zero_le _, fun D nD => ?_⟩
      have nDs := S8.nn nD
      have nD7 := kp_free S8 k8 nD
      have k9 := k8.new (o := .lst []) nD
      have S9 := S8.mut (o := .lst []) nD S8
      have hD9 : (upd H8 D (.lst [])) D = some (.lst []) := upd_same
      generalize upd H8 D (.lst []) = H9 at k9 S9 hD9 ⊢
      refine ⟨.ref st, rfl, sc, st, _, rfl, S9, by decide, by decide, fun H10 v k10 S10 v0 v1 => ?_⟩
      obtain ⟨m0, rfl⟩ : ∃ v' : Nat, v = v' := ⟨v.toNat, by omega⟩
      have k10' := k9.trans k10
      have hD10 := k10 _ _ nDs hD9
      refine ⟨m0, rfl, by omega, by omega, for_range (lo := 0) (n := m0) (fun j σ' H' => ∃ y5 y7 acc ls, σ' = [some (.ref p0), some (.ref st), some (.ref al), some (.ref rl), some (.ref t3), y5, some (.ref D), y7, y8, y9, y10, y11, none, none] ∧ Kp st H7 H' ∧ Sta sc H' st ∧ H' D = some (.lst acc) ∧ R1.Al (Li e K H') acc ls ∧ ls.length ≤ j ∧ In6 ls)
        ⟨_, _, [], [], rfl, k10', S10, hD10, R1.Al.nil, Nat.zero_le _, fun l h => nomatch h⟩ ?_ ?_⟩
      · rintro j σ' H3 hj ⟨y5', y7', acc, ls, rfl, k3, S3, hD3, hA3, hl3, h63⟩
        have hat3 := ats_kp A (by omega) S7 k3 hat7
        obtain ⟨xs3, hx3, lx3, hxd3⟩ := hat3.sq
        refine ⟨.ref D, rfl, .inl ⟨rfl, acc, .of hD3⟩, ?_⟩
        refine ⟨.ref al, rfl, .ref st, rfl, .ref al, rfl, .inr ⟨al, xs3, rfl, .inl hx3, sc, st, _, rfl, S3, by omega, by omega, fun H4 v1 k4 S4 a0 a1 => ?_⟩⟩
        obtain ⟨j1, rfl⟩ : ∃ v' : Nat, v1 = v' := ⟨v1.toNat, by omega⟩
        obtain ⟨xs4, hx4, lx4, hxd4⟩ := (ats_kp A (by omega) S3 k4 hat3).sq
        have g4 : xs4[j1]? = some (xs4[j1]'(by omega)) := List.getElem?_eq_getElem (by omega)
        refine .inl ⟨al, xs4, (j1 : Int), _, rfl, rfl, hx4, atI_nat g4, ?_⟩
        refine ⟨.ref st, rfl, sc, st, 2, rfl, S4, by decide, by decide, fun H5 v2 k5 S5 b0 b1 => ?_⟩
        refine ⟨rfl, sm9 (by simp), fun lp nlp => ?_⟩
        have hj6 : j1 < 6 := by omega
        have t45 := sta_tk S4 k5
        have k35 := k4.trans k5
        have dj := dp_tk t45 _ _ (hxd4 j1 _ g4) (A.kb j1 (by omega))
        generalize decide (V.int v2 = V.int 0) = b
        generalize xs4[j1]'(by omega) = xj at dj ⊢
        have hD5 := k35 _ _ nDs hD3
        have hA5 := al_tk A h63.to7 (sta_tk S3 k35) hA3
        have s6 := same_upd (o := .tup [xj, .bl b]) nlp
        have hL : Li e K (upd H5 lp (.tup [xj, .bl b])) (.ref lp) (j1, b) := li_mk (l := (j1, b)) (.of upd_same) (dp_tk (tk_new nlp) _ _ dj (A.kb j1 (by omega)))
        have k6 := k5.same s6
        have S6 := S5.same s6
        have hD6 := s6 _ _ hD5
        have hA6 := al_tk A h63.to7 (Same.tk s6) hA5
        have k06 := k3.trans (k4.trans k6)
        generalize upd H5 lp (.tup [xj, .bl b]) = H6 at hL k6 S6 hD6 hA6 k06 ⊢
        have la : acc.length ≤ 1000 := by rw [hA3.1]; omega
        refine ⟨D, acc, .ref lp, rfl, rfl, hD6, small1000 la, ?_⟩
        have tD : Tk H6 (upd H6 D (.lst (acc ++ [.ref lp]))) := tk_upd hD6 True.intro
        have kk := k06.mut (o := .lst (acc ++ [.ref lp])) nD7
        refine ⟨_, _, acc ++ [.ref lp], ls ++ [(j1, b)], rfl, kk, S7.mut nD7 S6, upd_same, (al_tk A h63.to7 tD hA6).snoc (hL.tk A (show j1 < 7 by omega) tD), by simp; omega, fun l hl => ?_⟩
        rcases List.mem_append.mp hl with hl | hl
        · exact h63 l hl
        · rw [List.mem_singleton.mp hl]; exact hj6
      rintro σ' H11 ⟨y5', y7', acc, ls, rfl, k11, S11, hD11, hA11, hl11, h611⟩
      have F11 : S0Is e K H11 D ls := ⟨acc, hD11, hA11⟩
      have hl4 : ls.length ≤ 4 := by omega
      have i7 := h611.to7
      clear hD11 hA11 hD10 hD9 k9 S9 k10 S10 k10'
      -- the place
      obtain ⟨rv, hrv, hAr⟩ := rws_kp A rok S7 k11 hrw7
      have lrv : rv.length = rows.length := hAr.1
      refine ⟨.ref st, rfl, .ref rl, rfl, .inr ⟨rl, rv, rfl, .inl hrv, _, 1, rfl, rfl, sc, st, _, rfl, S11, by omega, by omega, fun H12 v k12 S12 v0 v1 => ?_⟩⟩
      obtain ⟨at0, rfl⟩ : ∃ v' : Nat, v = v' := ⟨v.toNat, by omega⟩
      have k712 := k11.trans k12
      have hrw12 := rws_kp A rok S7 k712 hrw7
      have F12 := F11.kp A i7 S11 k12
      clear hrv hAr F11
      -- in the order of the labels, and from the place on
      refine ⟨.ref rl, rfl, e, A, rl, rows, rfl, hrw12, rok, nd, fun bp H13 s13 nbp hbp => ?_⟩
      have hrw13 := rws_same A rok s13 hrw12
      obtain ⟨rv, hrv, hAr⟩ := id hrw13
      have lrv : rv.length = rows.length := hAr.1
      refine ⟨.ref rl, rfl, .int (at0 : Int), rfl, _, rfl, rl, rv, rfl, hrv, fun p1 np1 => ?_⟩
      rw [cut_lo]
      have q1 := same_upd (o := .lst (rv.drop at0)) np1
      refine ⟨.ref rl, rfl, .int (at0 : Int), rfl, _, rfl, rl, rv, rfl, sqL_same q1 hrv, fun p2 np2 => ?_⟩
      rw [cut_hi]
      have q2 := same_upd (o := .lst (rv.take at0)) np2
      have hp1 := q2 _ _ (show (upd H13 p1 (.lst (rv.drop at0))) p1 = _ from upd_same)
      have hp2 : (upd (upd H13 p1 (.lst (rv.drop at0))) p2 (.lst (rv.take at0))) p2 = _ := upd_same
      refine ⟨p1, p2, _, _, rfl, rfl, hp1, hp2, sm9 (by rw [List.length_drop, List.length_take]; omega), fun tp ntp => ⟨sm9 (by simp), fun tt ntt => ?_⟩⟩
      have q3 := same_upd (o := .lst (rv.drop at0 ++ rv.take at0)) ntp
      have q4 := same_upd (o := .tup [.ref bp, .ref tp]) ntt
      have q14 := q1.trans (q2.trans (q3.trans q4))
      have htp := q4 _ _ (show (upd (upd (upd H13 p1 (.lst (rv.drop at0))) p2 (.lst (rv.take at0))) tp (.lst (rv.drop at0 ++ rv.take at0))) tp = _ from upd_same)
      have htt : (upd (upd (upd (upd H13 p1 (.lst (rv.drop at0))) p2 (.lst (rv.take at0))) tp (.lst (rv.drop at0 ++ rv.take at0))) tt (.tup [.ref bp, .ref tp])) tt = _ := upd_same
      generalize upd (upd (upd (upd H13 p1 (.lst (rv.drop at0))) p2 (.lst (rv.take at0))) tp (.lst (rv.drop at0 ++ rv.take at0))) tt (.tup [.ref bp, .ref tp]) = H14 at q14 htp htt ⊢
      have S14 := S12.same (s13.trans q14)
      have k714 := k712.same (s13.trans q14)
      have F14 := F12.same A i7 (s13.trans q14)
      have hA14 : R1.Al (RwIs e K H14) rv rows := ⟨hAr.1, fun i x r a b => (hAr.2 i x r a b).same A (rok.2 r (List.mem_of_getElem? b)).2 q14⟩
      have pm : (rows.drop at0 ++ rows.take at0).Perm rows := by
        refine List.perm_append_comm.trans ?_
        rw [List.take_append_drop]
      have hTP : RwsIs e K H14 tp (rows.drop at0 ++ rows.take at0) := ⟨_, .of htp, al_app (al_drop at0 hA14) (al_take at0 hA14)⟩
      have pmB : (rowsOf (Rof rows) (srtN (rows.map (·.1)))).Perm rows := by
        refine ((srtN_perm (rows.map (·.1))).map _).trans ?_
        have := rows_of nd
        unfold rowsOf at this
        rw [this]
      have hBP := rws_same A (show RsOk (rowsOf (Rof rows) (srtN (rows.map (·.1)))) from ⟨by rw [pmB.length_eq]; omega, fun r hr => rok.2 r (pmB.mem_iff.mp hr)⟩) q14 hbp
      have looks : ∀ (u : Nat) x, ([V.ref bp, V.ref tp] : List V)[u]? = some x → ∃ lo rows', x = .ref lo ∧ RwsIs e K H14 lo rows' ∧ rows'.Perm rows := fun u x hx => by
        match u, hx with
        | 0, hx => cases hx; exact ⟨bp, _, rfl, hBP, pmB⟩
        | 1, hx => cases hx; exact ⟨tp, _, rfl, hTP, pm⟩
      clear hbp hrw13 hrw12 F12 hrv hAr htp hp1 hp2 hA14 hTP hBP
      refine ⟨tt, rfl, ⟨_, .of htt⟩, for_it (walk_tup (xs := [.ref bp, .ref tp])) (fun i σ' H' => ∃ y9 y10 y11, σ' = [some (.ref p0), some (.ref st), some (.ref al), some (.ref rl), some (.ref t3), y5', some (.ref D), y7', some (.int (at0 : Int)), y9, y10, y11, none, none] ∧ Kp st H14 H' ∧ Sta sc H' st) ⟨_, _, _, rfl, Kp.refl _ _, S14⟩ (fun i σ' H' _ h => by
        obtain ⟨_, _, _, _, kk, _⟩ := h
        exact .of (kk _ _ (fun z => by
          obtain ⟨ns, i, b, s, l, hne, hst, _⟩ := S14.ex
          rw [z, hst] at htt
          cases htt) htt)) ?_ ?_⟩
      · rintro u x σ' _ H15 hu ⟨y9, y10, y11, rfl, k15, S15⟩ ⟨rfl, hx⟩
        obtain ⟨lo, rows', rfl, hlo14, pm'⟩ := looks u x hx
        have rok' : RsOk rows' := ⟨by rw [pm'.length_eq]; omega, fun r hr => rok.2 r (pm'.mem_iff.mp hr)⟩
        have F15 := F14.kp A i7 S14 k15
        obtain ⟨acc, hD15, hA15⟩ := F15
        have k715 := k714.trans k15
        refine ⟨.ref lo, rfl, .ref D, rfl, ?_⟩
        dsimp only [tNil, List.cons_append, List.nil_append]
        refine ⟨e, A, lo, D, rows', acc, ls, rfl, rws_kp A rok' S14 k15 hlo14, rok', .inl (.of hD15), hA15, i7, by omega, fun dp sl ys H16 s16 ndp hdp hsl hys => ?_⟩
        obtain ⟨sts, hsts⟩ : ∃ sts, sts = (run 100 rows' (st0 ls)).1 := ⟨_, rfl⟩
        rw [← hsts] at hys
        have j7 : In7 (hs sts) := by
          rw [hsts]
          exact run_mem (fun r hr => (rok'.2 r hr).2) 100 _ fun l hl => by rw [hs_st0] at hl; exact i7 l (dd_sub hl)
        have m7 := hs_mem j7
        have l0 : (st0 ls).length ≤ 4 := by
          unfold st0
          rw [List.length_map]
          have := dd_len ls
          omega
        have lsts : sts.length ≤ 104 := by
          have := run_len (rows := rows') 100 (st0 ls)
          rw [← hsts] at this
          omega
        have zsts : zc sts ≤ 4 := by
          have h1 := zc_run (fun r hr => pos r (pm'.mem_iff.mp hr)) 100 (st0 ls)
          have h2 := zc_le (st0 ls)
          rw [← hsts] at h1
          omega
        have lys : ys.length = sts.length := hys.1
        refine .inl ⟨dp, _, ((0 : Nat) : Int), _, rfl, rfl, .of hdp, atI_nat rfl, ?_⟩
        have S16 := S15.same s16
        have k716 := k715.same s16
        -- the steps
        refine ⟨.ref rl, rfl, .ref sl, rfl, ?_⟩
        dsimp only [tNil, List.cons_append, List.nil_append]
        refine ask k716 hsl hys m7 (by omega) (by omega) fun H17 s17 => ⟨true, rfl, iteF ?_⟩
        have S17 := S16.same s17
        have hsl17 := s17 _ _ hsl
        have hys17 := sts_tk A j7 s17 hys
        -- cut off
        refine ⟨.ref rl, rfl, .ref sl, rfl, .ref st, rfl, .ref sl, rfl, .inr ⟨sl, ys, rfl, .inl (.of hsl17), _, 1, rfl, rfl, sc, st, _, rfl, S17, by omega, by omega, fun H18 v k18 S18 v0 v1 => ?_⟩⟩
        obtain ⟨cu, rfl⟩ : ∃ v' : Nat, v = v' := ⟨v.toNat, by omega⟩
        obtain ⟨hsl18, hys18⟩ := sts_kp A j7 S17 k18 hsl17 hys17
        have k718 := (k716.same s17).trans k18
        refine ⟨_, rfl, sl, ys, rfl, .of hsl18, fun p4 n4 => ?_⟩
        rw [cut_hi]
        have x4 := same_upd (o := .lst (ys.take cu)) n4
        dsimp only [tNil, List.cons_append, List.nil_append]
        refine ask (k718.same x4) upd_same (al_take cu (sts_tk A j7 x4 hys18)) (fun q hq => m7 q (List.mem_of_mem_take hq)) (by rw [List.length_take]; omega) (by have := zc_td cu sts; omega) fun H19 s19 => ⟨true, rfl, iteF ?_⟩
        have s189 := x4.trans s19
        have S19 := S18.same s189
        have k719 := k718.same s189
        have hsl19 := s189 _ _ hsl18
        have hys19 := sts_tk A j7 s189 hys18
        have hst19 := hst7.tk A (show (6 : Nat) < 7 by omega) (sta_tk S7 k719)
        clear hsl18 hys18 hsl17 hys17 hsl hys x4
        -- with the strange step
        refine ⟨.ref rl, rfl, ?_⟩
        refine GL.run (gl_cat (gl_var rfl hsl19) (gl_one (v := .ref t3) rfl) (sm9 (by simp; omega))) fun p5 H20 s20 hp5 => ?_
        dsimp only [tNil, List.cons_append, List.nil_append]
        have z1 := zc_one ((6, true), 0)
        refine ask (k719.same s20) hp5 (al_app (sts_tk A j7 s20 hys19) (al_one (hst19.tk A (show (6 : Nat) < 7 by omega) (Same.tk s20)))) (fun q hq => ?_) (by rw [List.length_append]; simp; omega) (by rw [zc_app]; omega) fun H21 s21 => ⟨true, rfl, iteF ⟨.ref rl, rfl, ?_⟩⟩
        · rcases List.mem_append.mp hq with hq | hq
          · exact m7 q hq
          · rw [List.mem_singleton.mp hq]; show 6 < 7; omega
        have s1921 := s20.trans s21
        refine GL.run (gl_cat (gl_one (v := .ref t3) rfl) (gl_var rfl (s1921 _ _ hsl19)) (sm9 (by simp; omega))) fun p6 H22 s22 hp6 => ?_
        dsimp only [tNil, List.cons_append, List.nil_append]
        have s1922 := s1921.trans s22
        refine ask (k719.same s1922) hp6 (al_app (al_one (hst19.tk A (show (6 : Nat) < 7 by omega) (Same.tk s1922))) (sts_tk A j7 s1922 hys19)) (fun q hq => ?_) (by rw [List.length_append]; simp; omega) (by rw [zc_app]; omega) fun H23 s23 => ⟨true, rfl, iteF ?_⟩
        · rcases List.mem_append.mp hq with hq | hq
          · rw [List.mem_singleton.mp hq]; show 6 < 7; omega
          · exact m7 q hq
        have s1923 := s1922.trans s23
        have S23 := S19.same s1923
        have k723 := k719.same s1923
        have hsl23 := s1923 _ _ hsl19
        have hys23 := sts_tk A j7 s1923 hys19
        have k1423 : Kp st H14 H23 := ((k15.same (s16.trans s17)).trans k18).same (s189.trans s1923)
        -- bent
        refine ⟨3, rfl, by decide, by decide, for_range (lo := 0) (n := 3) (fun i σ' H' => ∃ y11, σ' = [some (.ref p0), some (.ref st), some (.ref al), some (.ref rl), some (.ref t3), y5', some (.ref D), y7', some (.int (at0 : Int)), some (.ref lo), some (.ref sl), y11, none, none] ∧ Kp st H23 H' ∧ Sta sc H' st) ⟨_, rfl, Kp.refl _ _, S23⟩ ?_ ?_⟩
        · rintro i σ' H24 hi ⟨y11', rfl, k24, S24⟩
          obtain ⟨hsl24, hys24⟩ := sts_kp A j7 S23 k24 hsl23 hys23
          have k724 := k723.trans k24
          refine ⟨.ref rl, rfl, .ref st, rfl, .ref rl, rfl, .ref al, rfl, .ref sl, rfl, ?_⟩
          dsimp only [tNil, List.cons_append, List.nil_append]
          refine ⟨e, A, sc, st, rl, al, sl, n, rows, ys, sts, rfl, S24, rws_kp A rok S7 k724 hrw7, r6, ats_kp A (by omega) S7 k724 hat7, hn3, hn6, hsl24, hys24, j7, by omega, fun p7 zs szs H25 k25 S25 hp7 hA7 hB7 => ?_⟩
          refine ask (k724.trans k25) hp7 hA7 hB7.1 (by have := hB7.2.1; omega) (by have := hB7.2.2; omega) fun H26 s26 => ⟨true, rfl, iteF ⟨_, rfl, k24.trans (k25.same s26), S25.same s26⟩⟩
        · rintro σ' H24 ⟨y11', rfl, k24, S24⟩
          exact ⟨_, _, _, rfl, k1423.trans k24, S24⟩
      · rintro σ' H15 ⟨y9, y10, y11, rfl, k15, S15⟩
        exact ⟨_, _, _, _, _, _, _, rfl, k714.trans k15, S15⟩
    rintro σ' H8 ⟨y5, y6, y7, y8, y9, y10, y11, rfl, k8, S8⟩
    have hrw8 := rws_kp A rok S7 k8 hrw7
    obtain ⟨rv, hrv, hAr⟩ := id hrw8
    refine ⟨.ref rl, rfl, rl, rfl, ⟨_, hrv⟩, for_it (walk_list (xs := rv)) (fun i σ' H' => ∃ y12 y13, σ' = [some (.ref p0), some (.ref st), some (.ref al), some (.ref rl), some (.ref t3), y5, y6, y7, y8, y9, y10, y11, y12, y13] ∧ Same H8 H') ⟨_, _, rfl, Same.refl _⟩ (fun i σ' H' _ h => by obtain ⟨_, _, _, h⟩ := h; exact sqL_same h hrv) ?_ ?_⟩
    · rintro i x σ' _ H9 hi ⟨y12, y13, rfl, s9⟩ ⟨rfl, hx⟩
      obtain ⟨r, gr, hrow⟩ := hAr.at hx
      have rm := List.mem_of_getElem? gr
      obtain ⟨b, c0, rfl, hb, hc⟩ := hrow.same A (rok.2 r rm).2 s9
      refine ⟨b, _, rfl, .of hb, rfl, _, _, rfl, _, _, rfl, rfl, ?_⟩
      refine ⟨.ref rl, rfl, .int (r.1 : Int), rfl, .ref c0, rfl, ?_⟩
      dsimp only [tNil, List.cons_append, List.nil_append]
      exact ⟨e, A, rl, c0, rows, r, rfl, rws_same A rok s9 hrw8, r6, hc, (r6.2.2 r rm).2.2.1, (rok.2 r rm).2, fun H10 s10 => ⟨true, rfl, iteF ⟨_, _, rfl, s9.trans s10⟩⟩⟩
    · rintro σ' H9 ⟨y12, y13, rfl, s9⟩
      have k79 := k8.same s9
      have hst9 := hst7.tk A (show (6 : Nat) < 7 by omega) (sta_tk S7 k79)
      refine ⟨.ref rl, rfl, Nat.zero_le _, fun z nz => ?_⟩
      dsimp only [tNil, List.cons_append, List.nil_append]
      have w1 := same_upd (o := .lst []) nz
      refine ask (k79.same w1) upd_same (szs := []) R1.Al.nil (fun q h => nomatch h) (by simp) (by decide) fun H10 s10 => ?_
      have w2 := w1.trans s10
      obtain ⟨b3, y3, eb, hb3, hl3⟩ := hst9.tk A (show (6 : Nat) < 7 by omega) (Same.tk w2)
      cases eb
      refine ⟨true, rfl, iteT ?_⟩
      refine ⟨.ref rl, rfl, .ref t3, rfl, .ref t3, rfl, .inr (.inl ⟨t3, _, ((0 : Nat) : Int), y3, rfl, rfl, hb3, atI_nat rfl, sm9 (by simp), fun u1 m1 => ⟨sm9 (by simp), fun u2 m2 => ?_⟩⟩)⟩
      dsimp only [tNil, List.cons_append, List.nil_append]
      have w3 := same_upd (o := .tup [y3, .int 998]) m1
      have w4 := same_upd (o := .lst [.ref t3, .ref u1]) m2
      have w34 := w3.trans w4
      have hu1 := w4 _ _ (show (upd H10 u1 (.tup [y3, .int 998])) u1 = _ from upd_same)
      have hA2 : R1.Al (StpV e K (upd (upd H10 u1 (.tup [y3, .int 998])) u2 (.lst [.ref t3, .ref u1]))) ([.ref t3] ++ [.ref u1]) ([((6, true), 0)] ++ [((6, true), 998)]) := al_app (al_one (hst9.tk A (show (6 : Nat) < 7 by omega) (Same.tk (w2.trans w34)))) (al_one ⟨u1, y3, rfl, .of hu1, hl3.tk A (show (6 : Nat) < 7 by omega) (Same.tk w34)⟩)
      refine ask (k79.same (w2.trans w34)) upd_same hA2 (fun q hq => ?_) (by simp) (by decide) fun H' s => q H'
      rcases List.mem_append.mp hq with hq | hq
      · rw [List.mem_singleton.mp hq]; show 6 < 7; omega
      · rw [List.mem_singleton.mp hq]; show 6 < 7; omega
end
end K16

namespace K16
open PySem PySem.Spec PyProof.Rows L2
abbrev init_BadLiteral := initL
abbrev init_BadOrder := initO
abbrev init_BadStep := initS
theorem kit_sub {K : PySem.W.Frag} {C L : Addr} {b : Bool} (h1 : PySem.W.isClsIn K L = true) (h2 : PySem.W.typeIn K (.ref L) = some (.type "type")) (h3 : PySem.W.subIn K (.ref C) (.ref L) = some b) : PySem.W.kitCls K (.ref C) (.ref L) = some b := by
  unfold PySem.W.kitCls
  have h1' : (PySem.W.clsIn K L).isSome = true := h1
  simp only [h1', h2, beq_self_eq_true, Bool.and_self, if_true]
  exact h3
theorem kit_one {K : PySem.W.Frag} {t c : Value} (h : PySem.W.kitCls K t c = some true) : PySem.W.kitOne K t c = some true := by
  unfold PySem.W.kitOne
  split
  · rfl
  · exact h
theorem kit_no {K : PySem.W.Frag} {C O : Addr} (s : PySem.W.subIn K (.ref C) (.ref C) = some true) (h : PySem.W.kitCls K (.ref C) (.ref O) = some false) (n : PySem.W.subIn K (.ref C) (.ref O) = some false) : PySem.W.kitOne K (.ref C) (.ref O) = some false := by
  unfold PySem.W.kitOne
  split
  · rename_i e
    have e2 : Value.ref C = Value.ref O := by simpa using e
    rw [← e2, s] at n
    cases n
  · exact h
theorem kit_ve {C : Addr} : PySem.HandSPX.refsVE [.ref C, .type "ValueError", .type "Exception", .type "BaseException", .type "object"] = true := by
  show PySem.HandSPX.refsVE [.type "ValueError", .type "Exception", .type "BaseException", .type "object"] = true
  decide +kernel
section
theorem all_mk {l : PySem.W.OpenLaw} {w : World} {K : PySem.W.Frag} {h : Heap} {mg : Str → Option Value} {fa : Addr} (X : K.In h) (G : h.Ns mainGlobals mg) (hfa : mg "law" = some (.ref fa))
    {f1 f2 f3 f4 f5 f6 f7 f8 f9 f10 f11 f12 f13 f14 f15 f16 f17 f18 f19 f20 f21 f22 f23 f24 f25 f26 f27 f28 f29 f30 f31 f32 f33 C_LookerError C_BadLiteral C_BadStep C_BadOrder C_Propagation : Addr}
    {od1 an1 od2 an2 od3 an3 od4 an4 od5 an5 od6 an6 od7 an7 od8 an8 od9 an9 od10 an10 od11 an11 od12 an12 od13 an13 od14 an14 od15 an15 od16 an16 od17 an17 od18 an18 od19 an19 od20 an20 od21 an21 od22 an22 od23 an23 od24 an24 od25 an25 od26 an26 od27 an27 od28 an28 od29 an29 od30 an30 od31 an31 od32 an32 od33 an33 : Option Addr} {sl1 sl2 sl3 sl4 sl5 sl6 sl7 sl8 sl9 sl10 sl11 sl12 sl13 sl14 sl15 sl16 sl17 sl18 sl19 sl20 sl21 sl22 sl23 sl24 sl25 sl26 sl27 sl28 sl29 sl30 sl31 sl32 sl33 : Array (Option Value)} {oc1 kV1 dc1 pm1 cd1 ct1 oc2 kV2 dc2 pm2 cd2 ct2 oc3 kV3 dc3 pm3 cd3 ct3 oc4 kV4 dc4 pm4 cd4 ct4 oc5 kV5 dc5 pm5 cd5 ct5 oc6 kV6 dc6 pm6 cd6 ct6 oc7 dc7 pm7 cd7 ct7 oc8 kV8 dc8 pm8 cd8 ct8 oc9 kV9 dc9 pm9 cd9 ct9 oc10 kV10 dc10 pm10 cd10 ct10 oc11 kV11 dc11 pm11 cd11 ct11 oc12 kV12 dc12 pm12 cd12 ct12 oc13 kV13 dc13 pm13 cd13 ct13 oc14 kV14 dc14 pm14 cd14 ct14 oc15 kV15 dc15 pm15 cd15 ct15 oc16 kV16 dc16 pm16 cd16 ct16 oc17 kV17 dc17 pm17 cd17 ct17 oc18 kV18 dc18 pm18 cd18 ct18 oc19 kV19 dc19 pm19 cd19 ct19 oc20 kV20 dc20 pm20 cd20 ct20 oc21 kV21 dc21 pm21 cd21 ct21 oc22 kV22 dc22 pm22 cd22 ct22 oc23 kV23 dc23 pm23 cd23 ct23 oc24 kV24 dc24 pm24 cd24 ct24 oc25 kV25 dc25 pm25 cd25 ct25 oc26 kV26 dc26 pm26 cd26 ct26 oc27 kV27 dc27 pm27 cd27 ct27 oc28 kV28 dc28 pm28 cd28 ct28 oc29 kV29 dc29 pm29 cd29 ct29 oc30 kV30 dc30 pm30 cd30 ct30 oc31 kV31 dc31 pm31 cd31 ct31 oc32 kV32 dc32 pm32 cd32 ct32 oc33 kV33 dc33 pm33 cd33 ct33 : Value}
    {D_propagate T_propagate E0 : Addr} {ocT : Value} {odT odE : Option Addr} {nT nE : Nat} {slT slE : Array (Option Value)}
    (a1 : PySem.W.nsIn K mainGlobals "is_int" = some (some (.ref f1)))
    (l1 : K.lookup f1 = some ⟨oc1, od1, .func (PySem.W.fnOf "is_int" "is_int" (defArgs s_is_int) (defBody s_is_int) (defScope s_is_int) .none kV1 dc1 pm1 an1 cd1 ct1), sl1⟩)
    (c1 : PySem.W.codeIn K cd1 "is_int" = true)
    (k1 : PySem.W.keepIn K (.ref f1) = true)
    (a2 : PySem.W.nsIn K mainGlobals "negated" = some (some (.ref f2)))
    (l2 : K.lookup f2 = some ⟨oc2, od2, .func (PySem.W.fnOf "negated" "negated" (defArgs s_negated) (defBody s_negated) (defScope s_negated) .none kV2 dc2 pm2 an2 cd2 ct2), sl2⟩)
    (c2 : PySem.W.codeIn K cd2 "negated" = true)
    (k2 : PySem.W.keepIn K (.ref f2) = true)
    (a3 : PySem.W.nsIn K mainGlobals "_undenied" = some (some (.ref f3)))
    (l3 : K.lookup f3 = some ⟨oc3, od3, .func (PySem.W.fnOf "_undenied" "_undenied" (defArgs s_undenied) (defBody s_undenied) (defScope s_undenied) .none kV3 dc3 pm3 an3 cd3 ct3), sl3⟩)
    (c3 : PySem.W.codeIn K cd3 "_undenied" = true)
    (k3 : PySem.W.keepIn K (.ref f3) = true)
    (a4 : PySem.W.nsIn K mainGlobals "_next_step" = some (some (.ref f4)))
    (l4 : K.lookup f4 = some ⟨oc4, od4, .func (PySem.W.fnOf "_next_step" "_next_step" (defArgs s_next_step) (defBody s_next_step) (defScope s_next_step) .none kV4 dc4 pm4 an4 cd4 ct4), sl4⟩)
    (c4 : PySem.W.codeIn K cd4 "_next_step" = true)
    (k4 : PySem.W.keepIn K (.ref f4) = true)
    (a5 : PySem.W.nsIn K mainGlobals "_is_right_step" = some (some (.ref f5)))
    (l5 : K.lookup f5 = some ⟨oc5, od5, .func (PySem.W.fnOf "_is_right_step" "_is_right_step" (defArgs s_is_right_step) (defBody s_is_right_step) (defScope s_is_right_step) .none kV5 dc5 pm5 an5 cd5 ct5), sl5⟩)
    (c5 : PySem.W.codeIn K cd5 "_is_right_step" = true)
    (k5 : PySem.W.keepIn K (.ref f5) = true)
    (a6 : PySem.W.nsIn K mainGlobals "_checked_order" = some (some (.ref f6)))
    (l6 : K.lookup f6 = some ⟨oc6, od6, .func (PySem.W.fnOf "_checked_order" "_checked_order" (defArgs s_checked_order) (defBody s_checked_order) (defScope s_checked_order) .none kV6 dc6 pm6 an6 cd6 ct6), sl6⟩)
    (c6 : PySem.W.codeIn K cd6 "_checked_order" = true)
    (k6 : PySem.W.keepIn K (.ref f6) = true)
    (a7 : PySem.W.nsIn K mainGlobals "propagate" = some (some (.ref f7)))
    (l7 : K.lookup f7 = some ⟨oc7, od7, .func (PySem.W.fnOf "propagate" "propagate" (defArgs s_propagate) (defBody s_propagate) (defScope s_propagate) (.ref T_propagate) (.ref D_propagate) dc7 pm7 an7 cd7 ct7), sl7⟩)
    (c7 : PySem.W.codeIn K cd7 "propagate" = true)
    (k7 : PySem.W.keepIn K (.ref f7) = true)
    (q_propagate_order : PySem.W.nsIn K D_propagate "order" = some (some .none))
    (lT : K.lookup T_propagate = some ⟨ocT, odT, .seq #[.ref E0] nT, slT⟩)
    (lE : K.lookup E0 = some ⟨.type "tuple", odE, .seq #[] nE, slE⟩)
    (a8 : PySem.W.nsIn K mainGlobals "_law_state" = some (some (.ref f8)))
    (l8 : K.lookup f8 = some ⟨oc8, od8, .func (PySem.W.fnOf "_law_state" "_law_state" (defArgs s_l_state) (defBody s_l_state) (defScope s_l_state) .none kV8 dc8 pm8 an8 cd8 ct8), sl8⟩)
    (c8 : PySem.W.codeIn K cd8 "_law_state" = true)
    (k8 : PySem.W.keepIn K (.ref f8) = true)
    (a9 : PySem.W.nsIn K mainGlobals "_law_draw" = some (some (.ref f9)))
    (l9 : K.lookup f9 = some ⟨oc9, od9, .func (PySem.W.fnOf "_law_draw" "_law_draw" (defArgs s_l_draw) (defBody s_l_draw) (defScope s_l_draw) .none kV9 dc9 pm9 an9 cd9 ct9), sl9⟩)
    (c9 : PySem.W.codeIn K cd9 "_law_draw" = true)
    (k9 : PySem.W.keepIn K (.ref f9) = true)
    (a10 : PySem.W.nsIn K mainGlobals "_law_alike" = some (some (.ref f10)))
    (l10 : K.lookup f10 = some ⟨oc10, od10, .func (PySem.W.fnOf "_law_alike" "_law_alike" (defArgs s_l_alike) (defBody s_l_alike) (defScope s_l_alike) .none kV10 dc10 pm10 an10 cd10 ct10), sl10⟩)
    (c10 : PySem.W.codeIn K cd10 "_law_alike" = true)
    (k10 : PySem.W.keepIn K (.ref f10) = true)
    (a11 : PySem.W.nsIn K mainGlobals "_law_atom_row" = some (some (.ref f11)))
    (l11 : K.lookup f11 = some ⟨oc11, od11, .func (PySem.W.fnOf "_law_atom_row" "_law_atom_row" (defArgs s_l_atom_row) (defBody s_l_atom_row) (defScope s_l_atom_row) .none kV11 dc11 pm11 an11 cd11 ct11), sl11⟩)
    (c11 : PySem.W.codeIn K cd11 "_law_atom_row" = true)
    (k11 : PySem.W.keepIn K (.ref f11) = true)
    (a12 : PySem.W.nsIn K mainGlobals "_law_clause" = some (some (.ref f12)))
    (l12 : K.lookup f12 = some ⟨oc12, od12, .func (PySem.W.fnOf "_law_clause" "_law_clause" (defArgs s_l_clause) (defBody s_l_clause) (defScope s_l_clause) .none kV12 dc12 pm12 an12 cd12 ct12), sl12⟩)
    (c12 : PySem.W.codeIn K cd12 "_law_clause" = true)
    (k12 : PySem.W.keepIn K (.ref f12) = true)
    (a13 : PySem.W.nsIn K mainGlobals "_law_clauses" = some (some (.ref f13)))
    (l13 : K.lookup f13 = some ⟨oc13, od13, .func (PySem.W.fnOf "_law_clauses" "_law_clauses" (defArgs s_l_clauses) (defBody s_l_clauses) (defScope s_l_clauses) .none kV13 dc13 pm13 an13 cd13 ct13), sl13⟩)
    (c13 : PySem.W.codeIn K cd13 "_law_clauses" = true)
    (k13 : PySem.W.keepIn K (.ref f13) = true)
    (a14 : PySem.W.nsIn K mainGlobals "_law_dict" = some (some (.ref f14)))
    (l14 : K.lookup f14 = some ⟨oc14, od14, .func (PySem.W.fnOf "_law_dict" "_law_dict" (defArgs s_l_dict) (defBody s_l_dict) (defScope s_l_dict) .none kV14 dc14 pm14 an14 cd14 ct14), sl14⟩)
    (c14 : PySem.W.codeIn K cd14 "_law_dict" = true)
    (k14 : PySem.W.keepIn K (.ref f14) = true)
    (a15 : PySem.W.nsIn K mainGlobals "_law_by_label" = some (some (.ref f15)))
    (l15 : K.lookup f15 = some ⟨oc15, od15, .func (PySem.W.fnOf "_law_by_label" "_law_by_label" (defArgs s_l_by_label) (defBody s_l_by_label) (defScope s_l_by_label) .none kV15 dc15 pm15 an15 cd15 ct15), sl15⟩)
    (c15 : PySem.W.codeIn K cd15 "_law_by_label" = true)
    (k15 : PySem.W.keepIn K (.ref f15) = true)
    (a16 : PySem.W.nsIn K mainGlobals "_law_not" = some (some (.ref f16)))
    (l16 : K.lookup f16 = some ⟨oc16, od16, .func (PySem.W.fnOf "_law_not" "_law_not" (defArgs s_l_not) (defBody s_l_not) (defScope s_l_not) .none kV16 dc16 pm16 an16 cd16 ct16), sl16⟩)
    (c16 : PySem.W.codeIn K cd16 "_law_not" = true)
    (k16 : PySem.W.keepIn K (.ref f16) = true)
    (a17 : PySem.W.nsIn K mainGlobals "_law_left" = some (some (.ref f17)))
    (l17 : K.lookup f17 = some ⟨oc17, od17, .func (PySem.W.fnOf "_law_left" "_law_left" (defArgs s_l_left) (defBody s_l_left) (defScope s_l_left) .none kV17 dc17 pm17 an17 cd17 ct17), sl17⟩)
    (c17 : PySem.W.codeIn K cd17 "_law_left" = true)
    (k17 : PySem.W.keepIn K (.ref f17) = true)
    (a18 : PySem.W.nsIn K mainGlobals "_law_propagated" = some (some (.ref f18)))
    (l18 : K.lookup f18 = some ⟨oc18, od18, .func (PySem.W.fnOf "_law_propagated" "_law_propagated" (defArgs s_l_propagated) (defBody s_l_propagated) (defScope s_l_propagated) .none kV18 dc18 pm18 an18 cd18 ct18), sl18⟩)
    (c18 : PySem.W.codeIn K cd18 "_law_propagated" = true)
    (k18 : PySem.W.keepIn K (.ref f18) = true)
    (a19 : PySem.W.nsIn K mainGlobals "_law_step_right" = some (some (.ref f19)))
    (l19 : K.lookup f19 = some ⟨oc19, od19, .func (PySem.W.fnOf "_law_step_right" "_law_step_right" (defArgs s_l_step_right) (defBody s_l_step_right) (defScope s_l_step_right) .none kV19 dc19 pm19 an19 cd19 ct19), sl19⟩)
    (c19 : PySem.W.codeIn K cd19 "_law_step_right" = true)
    (k19 : PySem.W.keepIn K (.ref f19) = true)
    (a20 : PySem.W.nsIn K mainGlobals "_law_replayed" = some (some (.ref f20)))
    (l20 : K.lookup f20 = some ⟨oc20, od20, .func (PySem.W.fnOf "_law_replayed" "_law_replayed" (defArgs s_l_replayed) (defBody s_l_replayed) (defScope s_l_replayed) .none kV20 dc20 pm20 an20 cd20 ct20), sl20⟩)
    (c20 : PySem.W.codeIn K cd20 "_law_replayed" = true)
    (k20 : PySem.W.keepIn K (.ref f20) = true)
    (a21 : PySem.W.nsIn K mainGlobals "_law_asked" = some (some (.ref f21)))
    (l21 : K.lookup f21 = some ⟨oc21, od21, .func (PySem.W.fnOf "_law_asked" "_law_asked" (defArgs s_l_asked) (defBody s_l_asked) (defScope s_l_asked) .none kV21 dc21 pm21 an21 cd21 ct21), sl21⟩)
    (c21 : PySem.W.codeIn K cd21 "_law_asked" = true)
    (k21 : PySem.W.keepIn K (.ref f21) = true)
    (a22 : PySem.W.nsIn K mainGlobals "_law_bent" = some (some (.ref f22)))
    (l22 : K.lookup f22 = some ⟨oc22, od22, .func (PySem.W.fnOf "_law_bent" "_law_bent" (defArgs s_l_bent) (defBody s_l_bent) (defScope s_l_bent) .none kV22 dc22 pm22 an22 cd22 ct22), sl22⟩)
    (c22 : PySem.W.codeIn K cd22 "_law_bent" = true)
    (k22 : PySem.W.keepIn K (.ref f22) = true)
    (a23 : PySem.W.nsIn K mainGlobals "_law_clause_asked" = some (some (.ref f23)))
    (l23 : K.lookup f23 = some ⟨oc23, od23, .func (PySem.W.fnOf "_law_clause_asked" "_law_clause_asked" (defArgs s_l_clause_asked) (defBody s_l_clause_asked) (defScope s_l_clause_asked) .none kV23 dc23 pm23 an23 cd23 ct23), sl23⟩)
    (c23 : PySem.W.codeIn K cd23 "_law_clause_asked" = true)
    (k23 : PySem.W.keepIn K (.ref f23) = true)
    (a24 : PySem.W.nsIn K mainGlobals "law" = some (some (.ref f24)))
    (l24 : K.lookup f24 = some ⟨oc24, od24, .func (PySem.W.fnOf "law" "law" (defArgs s_law) (defBody s_law) (defScope s_law) .none kV24 dc24 pm24 an24 cd24 ct24), sl24⟩)
    (c24 : PySem.W.codeIn K cd24 "law" = true)
    (k24 : PySem.W.keepIn K (.ref f24) = true)
    (aC_LookerError : PySem.W.nsIn K mainGlobals "LookerError" = some (some (.ref C_LookerError)))
    (aC_BadLiteral : PySem.W.nsIn K mainGlobals "BadLiteral" = some (some (.ref C_BadLiteral)))
    (aC_BadStep : PySem.W.nsIn K mainGlobals "BadStep" = some (some (.ref C_BadStep)))
    (aC_BadOrder : PySem.W.nsIn K mainGlobals "BadOrder" = some (some (.ref C_BadOrder)))
    (aC_Propagation : PySem.W.nsIn K mainGlobals "Propagation" = some (some (.ref C_Propagation)))
    (iL : PySem.W.isClsIn K C_LookerError = true)
    (tL : PySem.W.typeIn K (.ref C_LookerError) = some (.type "type"))
    {nm_BadLiteral q_BadLiteral : Str} {N_BadLiteral : Addr} {bs_BadLiteral : List Value} {sn_BadLiteral : List Str} {sub_BadLiteral : List Value} {ab_BadLiteral : Bool} {col_BadLiteral : Option Bool} {dd_BadLiteral : Option Addr} {m0_BadLiteral m1_BadLiteral m2_BadLiteral m3_BadLiteral m5_BadLiteral : Option Value}
    (xL_BadLiteral : K.lookup C_BadLiteral = some (excClassObj nm_BadLiteral q_BadLiteral C_BadLiteral N_BadLiteral bs_BadLiteral [.ref C_LookerError, .type "ValueError", .type "Exception", .type "BaseException", .type "object"] true sn_BadLiteral sub_BadLiteral ab_BadLiteral col_BadLiteral dd_BadLiteral m0_BadLiteral m1_BadLiteral m2_BadLiteral m3_BadLiteral m5_BadLiteral "ValueError.__new__"))
    (sa_BadLiteral : PySem.W.findIn K (.ref C_BadLiteral) "__setattr__" = some (some (.builtin "object.__setattr__")))
    (ga_BadLiteral : PySem.W.findIn K (.ref C_BadLiteral) "__getattribute__" = some (some (.builtin "BaseException.__getattribute__")))
    (gg_BadLiteral : PySem.W.findIn K (.ref C_BadLiteral) "__getattr__" = some none)
    (no_BadLiteral : PySem.W.findIn K (.ref C_BadLiteral) "value" = some none)
    (iC_BadLiteral : PySem.W.findIn K (.ref C_BadLiteral) "__init__" = some (some (.ref f25)))
    (tI_BadLiteral : PySem.W.typeIn K (.ref f25) = some (.type "function"))
    (l25 : K.lookup f25 = some ⟨oc25, od25, .func (PySem.W.fnOf "__init__" "BadLiteral.__init__" (defArgs init_BadLiteral) (defBody init_BadLiteral) (defScope init_BadLiteral) .none kV25 dc25 pm25 an25 cd25 ct25), sl25⟩)
    (c25 : PySem.W.codeIn K cd25 "BadLiteral.__init__" = true)
    (k25 : PySem.W.keepIn K (.ref f25) = true)
    (kC_BadLiteral : PySem.W.keepIn K (.ref C_BadLiteral) = true)
    (eC_BadLiteral : PySem.W.subIn K (.ref C_BadLiteral) (.type "BaseException") = some true)
    (tC_BadLiteral : PySem.W.typeIn K (.ref C_BadLiteral) = some (.type "type"))
    (hC_BadLiteral : PySem.W.hasDictIn K C_BadLiteral = true)
    (sC_BadLiteral : PySem.W.subIn K (.ref C_BadLiteral) (.ref C_BadLiteral) = some true)
    (su_BadLiteral : PySem.W.subIn K (.ref C_BadLiteral) (.ref C_LookerError) = some true)
    {nm_BadStep q_BadStep : Str} {N_BadStep : Addr} {bs_BadStep : List Value} {sn_BadStep : List Str} {sub_BadStep : List Value} {ab_BadStep : Bool} {col_BadStep : Option Bool} {dd_BadStep : Option Addr} {m0_BadStep m1_BadStep m2_BadStep m3_BadStep m5_BadStep : Option Value}
    (xL_BadStep : K.lookup C_BadStep = some (excClassObj nm_BadStep q_BadStep C_BadStep N_BadStep bs_BadStep [.ref C_LookerError, .type "ValueError", .type "Exception", .type "BaseException", .type "object"] true sn_BadStep sub_BadStep ab_BadStep col_BadStep dd_BadStep m0_BadStep m1_BadStep m2_BadStep m3_BadStep m5_BadStep "ValueError.__new__"))
    (sa_BadStep : PySem.W.findIn K (.ref C_BadStep) "__setattr__" = some (some (.builtin "object.__setattr__")))
    (ga_BadStep : PySem.W.findIn K (.ref C_BadStep) "__getattribute__" = some (some (.builtin "BaseException.__getattribute__")))
    (gg_BadStep : PySem.W.findIn K (.ref C_BadStep) "__getattr__" = some none)
    (no_BadStep : PySem.W.findIn K (.ref C_BadStep) "index" = some none)
    (iC_BadStep : PySem.W.findIn K (.ref C_BadStep) "__init__" = some (some (.ref f26)))
    (tI_BadStep : PySem.W.typeIn K (.ref f26) = some (.type "function"))
    (l26 : K.lookup f26 = some ⟨oc26, od26, .func (PySem.W.fnOf "__init__" "BadStep.__init__" (defArgs init_BadStep) (defBody init_BadStep) (defScope init_BadStep) .none kV26 dc26 pm26 an26 cd26 ct26), sl26⟩)
    (c26 : PySem.W.codeIn K cd26 "BadStep.__init__" = true)
    (k26 : PySem.W.keepIn K (.ref f26) = true)
    (kC_BadStep : PySem.W.keepIn K (.ref C_BadStep) = true)
    (eC_BadStep : PySem.W.subIn K (.ref C_BadStep) (.type "BaseException") = some true)
    (tC_BadStep : PySem.W.typeIn K (.ref C_BadStep) = some (.type "type"))
    (hC_BadStep : PySem.W.hasDictIn K C_BadStep = true)
    (sC_BadStep : PySem.W.subIn K (.ref C_BadStep) (.ref C_BadStep) = some true)
    (su_BadStep : PySem.W.subIn K (.ref C_BadStep) (.ref C_LookerError) = some true)
    {nm_BadOrder q_BadOrder : Str} {N_BadOrder : Addr} {bs_BadOrder : List Value} {sn_BadOrder : List Str} {sub_BadOrder : List Value} {ab_BadOrder : Bool} {col_BadOrder : Option Bool} {dd_BadOrder : Option Addr} {m0_BadOrder m1_BadOrder m2_BadOrder m3_BadOrder m5_BadOrder : Option Value}
    (xL_BadOrder : K.lookup C_BadOrder = some (excClassObj nm_BadOrder q_BadOrder C_BadOrder N_BadOrder bs_BadOrder [.ref C_LookerError, .type "ValueError", .type "Exception", .type "BaseException", .type "object"] true sn_BadOrder sub_BadOrder ab_BadOrder col_BadOrder dd_BadOrder m0_BadOrder m1_BadOrder m2_BadOrder m3_BadOrder m5_BadOrder "ValueError.__new__"))
    (sa_BadOrder : PySem.W.findIn K (.ref C_BadOrder) "__setattr__" = some (some (.builtin "object.__setattr__")))
    (ga_BadOrder : PySem.W.findIn K (.ref C_BadOrder) "__getattribute__" = some (some (.builtin "BaseException.__getattribute__")))
    (gg_BadOrder : PySem.W.findIn K (.ref C_BadOrder) "__getattr__" = some none)
    (no_BadOrder : PySem.W.findIn K (.ref C_BadOrder) "value" = some none)
    (iC_BadOrder : PySem.W.findIn K (.ref C_BadOrder) "__init__" = some (some (.ref f27)))
    (tI_BadOrder : PySem.W.typeIn K (.ref f27) = some (.type "function"))
    (l27 : K.lookup f27 = some ⟨oc27, od27, .func (PySem.W.fnOf "__init__" "BadOrder.__init__" (defArgs init_BadOrder) (defBody init_BadOrder) (defScope init_BadOrder) .none kV27 dc27 pm27 an27 cd27 ct27), sl27⟩)
    (c27 : PySem.W.codeIn K cd27 "BadOrder.__init__" = true)
    (k27 : PySem.W.keepIn K (.ref f27) = true)
    (kC_BadOrder : PySem.W.keepIn K (.ref C_BadOrder) = true)
    (eC_BadOrder : PySem.W.subIn K (.ref C_BadOrder) (.type "BaseException") = some true)
    (tC_BadOrder : PySem.W.typeIn K (.ref C_BadOrder) = some (.type "type"))
    (hC_BadOrder : PySem.W.hasDictIn K C_BadOrder = true)
    (sC_BadOrder : PySem.W.subIn K (.ref C_BadOrder) (.ref C_BadOrder) = some true)
    (su_BadOrder : PySem.W.subIn K (.ref C_BadOrder) (.ref C_LookerError) = some true)
    (xHn : PySem.W.specialIn K (.builtin "object.__class__") "__get__" = some (some (.builtin "getset_descriptor.__get__")))
    (xHt : PySem.W.takesIn K (.builtin "object.__class__") = some true)
    (xA_BadLiteral : PySem.W.findIn K (.ref C_BadLiteral) "__class__" = some (some (.builtin "object.__class__")))
    (xM_BadLiteral : PySem.W.mroIn K C_BadLiteral (.type "object") = some true)
    (xI_BadLiteral : PySem.W.isClsIn K C_BadLiteral = true)
    (xN_BadLiteral : PySem.W.subIn K (.ref C_BadLiteral) (.ref C_BadOrder) = some false)
    (xA_BadOrder : PySem.W.findIn K (.ref C_BadOrder) "__class__" = some (some (.builtin "object.__class__")))
    (xM_BadOrder : PySem.W.mroIn K C_BadOrder (.type "object") = some true)
    (xI_BadOrder : PySem.W.isClsIn K C_BadOrder = true)
    (xN_BadOrder : PySem.W.subIn K (.ref C_BadOrder) (.ref C_BadLiteral) = some false)
    (xA_BadStep : PySem.W.findIn K (.ref C_BadStep) "__class__" = some (some (.builtin "object.__class__")))
    (xM_BadStep : PySem.W.mroIn K C_BadStep (.type "object") = some true)
    (xI_BadStep : PySem.W.isClsIn K C_BadStep = true)
    (xN_BadStep : PySem.W.subIn K (.ref C_BadStep) (.ref C_BadOrder) = some false)
    (o_pg : PySem.W.plainGet K C_Propagation Str.empty = true)
    (o_hd : PySem.W.hasDictIn K C_Propagation = true)
    (o_po : PySem.W.plainOver K C_Propagation = true)
    (o_sa : PySem.W.findIn K (.ref C_Propagation) "__setattr__" = some (some (.builtin "object.__setattr__")))
    (o_ha : PySem.W.findIn K (.ref C_Propagation) "__class__" = some (some (.builtin "object.__class__")))
    (o_hm : PySem.W.mroIn K C_Propagation (.type "object") = some true)
    (o_mk : PySem.W.makesIn K C_Propagation = true)
    (o_kp : PySem.W.keepIn K (.ref C_Propagation) = true)
    (o_ic : PySem.W.isClsIn K C_Propagation = true)
    (o_ty : PySem.W.typeIn K (.ref C_Propagation) = some (.type "type"))
    (o_sc : PySem.W.subIn K (.ref C_Propagation) (.ref C_Propagation) = some true)
    (o_nsteps : PySem.W.findIn K (.ref C_Propagation) "steps" = some none)
    (o_nclash : PySem.W.findIn K (.ref C_Propagation) "clash" = some none)
    (o_nliterals : PySem.W.findIn K (.ref C_Propagation) "literals" = some none)
    (o_nlabels : PySem.W.findIn K (.ref C_Propagation) "_labels" = some none)
    (m_init : PySem.W.findIn K (.ref C_Propagation) "__init__" = some (some (.ref f28)))
    (l28 : K.lookup f28 = some ⟨oc28, od28, .func (PySem.W.fnOf "__init__" "Propagation.__init__" (defArgs s_Propagation_init) (defBody s_Propagation_init) (defScope s_Propagation_init) .none kV28 dc28 pm28 an28 cd28 ct28), sl28⟩)
    (c28 : PySem.W.codeIn K cd28 "Propagation.__init__" = true)
    (k28 : PySem.W.keepIn K (.ref f28) = true)
    (j28 : PySem.W.isFn K (.ref f28) = true)
    (m_len : PySem.W.findIn K (.ref C_Propagation) "__len__" = some (some (.ref f29)))
    (l29 : K.lookup f29 = some ⟨oc29, od29, .func (PySem.W.fnOf "__len__" "Propagation.__len__" (defArgs s_Propagation_len) (defBody s_Propagation_len) (defScope s_Propagation_len) .none kV29 dc29 pm29 an29 cd29 ct29), sl29⟩)
    (c29 : PySem.W.codeIn K cd29 "Propagation.__len__" = true)
    (k29 : PySem.W.keepIn K (.ref f29) = true)
    (j29 : PySem.W.isFn K (.ref f29) = true)
    (m_iter : PySem.W.findIn K (.ref C_Propagation) "__iter__" = some (some (.ref f30)))
    (l30 : K.lookup f30 = some ⟨oc30, od30, .func (PySem.W.fnOf "__iter__" "Propagation.__iter__" (defArgs s_Propagation_iter) (defBody s_Propagation_iter) (defScope s_Propagation_iter) .none kV30 dc30 pm30 an30 cd30 ct30), sl30⟩)
    (c30 : PySem.W.codeIn K cd30 "Propagation.__iter__" = true)
    (k30 : PySem.W.keepIn K (.ref f30) = true)
    (j30 : PySem.W.isFn K (.ref f30) = true)
    (m_contains : PySem.W.findIn K (.ref C_Propagation) "__contains__" = some (some (.ref f31)))
    (l31 : K.lookup f31 = some ⟨oc31, od31, .func (PySem.W.fnOf "__contains__" "Propagation.__contains__" (defArgs s_Propagation_contains) (defBody s_Propagation_contains) (defScope s_Propagation_contains) .none kV31 dc31 pm31 an31 cd31 ct31), sl31⟩)
    (c31 : PySem.W.codeIn K cd31 "Propagation.__contains__" = true)
    (k31 : PySem.W.keepIn K (.ref f31) = true)
    (j31 : PySem.W.isFn K (.ref f31) = true)
    (m_getitem : PySem.W.findIn K (.ref C_Propagation) "__getitem__" = some (some (.ref f32)))
    (l32 : K.lookup f32 = some ⟨oc32, od32, .func (PySem.W.fnOf "__getitem__" "Propagation.__getitem__" (defArgs s_Propagation_getitem) (defBody s_Propagation_getitem) (defScope s_Propagation_getitem) .none kV32 dc32 pm32 an32 cd32 ct32), sl32⟩)
    (c32 : PySem.W.codeIn K cd32 "Propagation.__getitem__" = true)
    (k32 : PySem.W.keepIn K (.ref f32) = true)
    (j32 : PySem.W.isFn K (.ref f32) = true)
    (jG : PySem.W.fnIn K f32 = true)
    {pR : Addr} {restR : List Value}
    (o_rd : PySem.W.readsIn K C_Propagation (.type "type") = true)
    (o_gat : PySem.W.specialIn K (.ref C_Propagation) "__getattribute__" = some (some (.builtin "type.__getattribute__")))
    (o_at : PySem.W.findCls K (.ref C_Propagation) (.type "type") "replayed" = some (.get (.builtin "staticmethod.__get__") (.ref pR) .none (.ref C_Propagation)))
    (o_rc : PySem.W.recIn K pR "staticmethod" = some (.ref f33 :: restR))
    (l33 : K.lookup f33 = some ⟨oc33, od33, .func (PySem.W.fnOf "replayed" "Propagation.replayed" (defArgs s_Propagation_replayed) (defBody s_Propagation_replayed) (defScope s_Propagation_replayed) .none kV33 dc33 pm33 an33 cd33 ct33), sl33⟩)
    (c33 : PySem.W.codeIn K cd33 "Propagation.replayed" = true)
    (k33 : PySem.W.keepIn K (.ref f33) = true)
    (z_ValueError : PySem.W.nsIn K mainGlobals "ValueError" = some none)
    (z_all : PySem.W.nsIn K mainGlobals "all" = some none)
    (z_bool : PySem.W.nsIn K mainGlobals "bool" = some none)
    (z_dict : PySem.W.nsIn K mainGlobals "dict" = some none)
    (z_enumerate : PySem.W.nsIn K mainGlobals "enumerate" = some none)
    (z_int : PySem.W.nsIn K mainGlobals "int" = some none)
    (z_isinstance : PySem.W.nsIn K mainGlobals "isinstance" = some none)
    (z_iter : PySem.W.nsIn K mainGlobals "iter" = some none)
    (z_len : PySem.W.nsIn K mainGlobals "len" = some none)
    (z_list : PySem.W.nsIn K mainGlobals "list" = some none)
    (z_min : PySem.W.nsIn K mainGlobals "min" = some none)
    (z_range : PySem.W.nsIn K mainGlobals "range" = some none)
    (z_sorted : PySem.W.nsIn K mainGlobals "sorted" = some none)
    (z_str : PySem.W.nsIn K mainGlobals "str" = some none)
    (z_tuple : PySem.W.nsIn K mainGlobals "tuple" = some none)
    : ∃ fd : FuncData, (∀ (s : Shared) (v : Value), BindsTo s fd ⟨[v], []⟩ [("_law_script", v)]) ∧ ∀ base : Heap, K.In base → base.Ns mainGlobals mg → FnOk l.prog w K mg base CX0 33 fa fd ["_law_script"] (spLaw K) := by
  have e := hfa.symm.trans (PySem.W.mg_of X G a24)
  cases e
  have F1 := fun_mk (st := s_is_int) l1 c1 k1
  have b1 := F1.binds (ps := ["value"]) fun _ _ _ _ _ _ us hl => match us, hl with | [_], _ => rfl
  have F2 := fun_mk (st := s_negated) l2 c2 k2
  have b2 := F2.binds (ps := ["literal"]) fun _ _ _ _ _ _ us hl => match us, hl with | [_], _ => rfl
  have F3 := fun_mk (st := s_undenied) l3 c3 k3
  have b3 := F3.binds (ps := ["clause", "held"]) fun _ _ _ _ _ _ us hl => match us, hl with | [_, _], _ => rfl
  have F4 := fun_mk (st := s_next_step) l4 c4 k4
  have b4 := F4.binds (ps := ["clauses", "order", "held"]) fun _ _ _ _ _ _ us hl => match us, hl with | [_, _, _], _ => rfl
  have F5 := fun_mk (st := s_is_right_step) l5 c5 k5
  have b5 := F5.binds (ps := ["clauses", "literal", "label", "held"]) fun _ _ _ _ _ _ us hl => match us, hl with | [_, _, _, _], _ => rfl
  have F6 := fun_mk (st := s_checked_order) l6 c6 k6
  have b6 := F6.binds (ps := ["clauses", "order"]) fun _ _ _ _ _ _ us hl => match us, hl with | [_, _], _ => rfl
  have F8 := fun_mk (st := s_l_state) l8 c8 k8
  have b8 := F8.binds (ps := ["_law_script"]) fun _ _ _ _ _ _ us hl => match us, hl with | [_], _ => rfl
  have F9 := fun_mk (st := s_l_draw) l9 c9 k9
  have b9 := F9.binds (ps := ["_law_state_here", "_law_many"]) fun _ _ _ _ _ _ us hl => match us, hl with | [_, _], _ => rfl
  have F10 := fun_mk (st := s_l_alike) l10 c10 k10
  have b10 := F10.binds (ps := ["_law_actual", "_law_due"]) fun _ _ _ _ _ _ us hl => match us, hl with | [_, _], _ => rfl
  have F11 := fun_mk (st := s_l_atom_row) l11 c11 k11
  have b11 := F11.binds (ps := ["_law_state_here", "_law_count"]) fun _ _ _ _ _ _ us hl => match us, hl with | [_, _], _ => rfl
  have F12 := fun_mk (st := s_l_clause) l12 c12 k12
  have b12 := F12.binds (ps := ["_law_state_here", "_law_atoms", "_law_most"]) fun _ _ _ _ _ _ us hl => match us, hl with | [_, _, _], _ => rfl
  have F13 := fun_mk (st := s_l_clauses) l13 c13 k13
  have b13 := F13.binds (ps := ["_law_state_here", "_law_atoms", "_law_many", "_law_most"]) fun _ _ _ _ _ _ us hl => match us, hl with | [_, _, _, _], _ => rfl
  have F14 := fun_mk (st := s_l_dict) l14 c14 k14
  have b14 := F14.binds (ps := ["_law_rows"]) fun _ _ _ _ _ _ us hl => match us, hl with | [_], _ => rfl
  have F15 := fun_mk (st := s_l_by_label) l15 c15 k15
  have b15 := F15.binds (ps := ["_law_rows"]) fun _ _ _ _ _ _ us hl => match us, hl with | [_], _ => rfl
  have F16 := fun_mk (st := s_l_not) l16 c16 k16
  have b16 := F16.binds (ps := ["_law_literal"]) fun _ _ _ _ _ _ us hl => match us, hl with | [_], _ => rfl
  have F17 := fun_mk (st := s_l_left) l17 c17 k17
  have b17 := F17.binds (ps := ["_law_clause_here", "_law_held"]) fun _ _ _ _ _ _ us hl => match us, hl with | [_, _], _ => rfl
  have F18 := fun_mk (st := s_l_propagated) l18 c18 k18
  have b18 := F18.binds (ps := ["_law_rows", "_law_start"]) fun _ _ _ _ _ _ us hl => match us, hl with | [_, _], _ => rfl
  have F19 := fun_mk (st := s_l_step_right) l19 c19 k19
  have b19 := F19.binds (ps := ["_law_clauses_here", "_law_earlier", "_law_step"]) fun _ _ _ _ _ _ us hl => match us, hl with | [_, _, _], _ => rfl
  have F20 := fun_mk (st := s_l_replayed) l20 c20 k20
  have b20 := F20.binds (ps := ["_law_clauses_here", "_law_steps"]) fun _ _ _ _ _ _ us hl => match us, hl with | [_, _], _ => rfl
  have F21 := fun_mk (st := s_l_asked) l21 c21 k21
  have b21 := F21.binds (ps := ["_law_rows", "_law_steps"]) fun _ _ _ _ _ _ us hl => match us, hl with | [_, _], _ => rfl
  have F22 := fun_mk (st := s_l_bent) l22 c22 k22
  have b22 := F22.binds (ps := ["_law_state_here", "_law_rows", "_law_atoms", "_law_steps"]) fun _ _ _ _ _ _ us hl => match us, hl with | [_, _, _, _], _ => rfl
  have F23 := fun_mk (st := s_l_clause_asked) l23 c23 k23
  have b23 := F23.binds (ps := ["_law_rows", "_law_label", "_law_row"]) fun _ _ _ _ _ _ us hl => match us, hl with | [_, _, _], _ => rfl
  have F24 := fun_mk (st := s_law) l24 c24 k24
  have b24 := F24.binds (ps := ["_law_script"]) fun _ _ _ _ _ _ us hl => match us, hl with | [_], _ => rfl
  have F7 : FunD K "propagate" "propagate" (defArgs s_propagate) (defBody s_propagate) (defScope s_propagate) [.ref E0] [("order", .non)] f7 (PySem.W.fnOf "propagate" "propagate" (defArgs s_propagate) (defBody s_propagate) (defScope s_propagate) (.ref T_propagate) (.ref D_propagate) dc7 pm7 an7 cd7 ct7) :=
    ⟨⟨_, _, _, _, _, _, _, _, _, _, rfl, l7, c7, .inr ⟨by simp, T_propagate, _, [.ref E0], nT, rfl, lT, rfl, .cons rfl .nil⟩, .inr ⟨D_propagate, rfl, fun q hq => by
      rw [List.mem_singleton.mp hq]
      exact ⟨_, q_propagate_order, rfl⟩⟩⟩, k7⟩
  let ad : Ad := { e0 := E0, f_is_int := f1, d_is_int := (PySem.W.fnOf "is_int" "is_int" (defArgs s_is_int) (defBody s_is_int) (defScope s_is_int) .none kV1 dc1 pm1 an1 cd1 ct1), f_negated := f2, d_negated := (PySem.W.fnOf "negated" "negated" (defArgs s_negated) (defBody s_negated) (defScope s_negated) .none kV2 dc2 pm2 an2 cd2 ct2), f_undenied := f3, d_undenied := (PySem.W.fnOf "_undenied" "_undenied" (defArgs s_undenied) (defBody s_undenied) (defScope s_undenied) .none kV3 dc3 pm3 an3 cd3 ct3), f_next_step := f4, d_next_step := (PySem.W.fnOf "_next_step" "_next_step" (defArgs s_next_step) (defBody s_next_step) (defScope s_next_step) .none kV4 dc4 pm4 an4 cd4 ct4), f_is_right_step := f5, d_is_right_step := (PySem.W.fnOf "_is_right_step" "_is_right_step" (defArgs s_is_right_step) (defBody s_is_right_step) (defScope s_is_right_step) .none kV5 dc5 pm5 an5 cd5 ct5), f_checked_order := f6, d_checked_order := (PySem.W.fnOf "_checked_order" "_checked_order" (defArgs s_checked_order) (defBody s_checked_order) (defScope s_checked_order) .none kV6 dc6 pm6 an6 cd6 ct6), f_propagate := f7, d_propagate := (PySem.W.fnOf "propagate" "propagate" (defArgs s_propagate) (defBody s_propagate) (defScope s_propagate) (.ref T_propagate) (.ref D_propagate) dc7 pm7 an7 cd7 ct7), f_l_state := f8, d_l_state := (PySem.W.fnOf "_law_state" "_law_state" (defArgs s_l_state) (defBody s_l_state) (defScope s_l_state) .none kV8 dc8 pm8 an8 cd8 ct8), f_l_draw := f9, d_l_draw := (PySem.W.fnOf "_law_draw" "_law_draw" (defArgs s_l_draw) (defBody s_l_draw) (defScope s_l_draw) .none kV9 dc9 pm9 an9 cd9 ct9), f_l_alike := f10, d_l_alike := (PySem.W.fnOf "_law_alike" "_law_alike" (defArgs s_l_alike) (defBody s_l_alike) (defScope s_l_alike) .none kV10 dc10 pm10 an10 cd10 ct10), f_l_atom_row := f11, d_l_atom_row := (PySem.W.fnOf "_law_atom_row" "_law_atom_row" (defArgs s_l_atom_row) (defBody s_l_atom_row) (defScope s_l_atom_row) .none kV11 dc11 pm11 an11 cd11 ct11), f_l_clause := f12, d_l_clause := (PySem.W.fnOf "_law_clause" "_law_clause" (defArgs s_l_clause) (defBody s_l_clause) (defScope s_l_clause) .none kV12 dc12 pm12 an12 cd12 ct12), f_l_clauses := f13, d_l_clauses := (PySem.W.fnOf "_law_clauses" "_law_clauses" (defArgs s_l_clauses) (defBody s_l_clauses) (defScope s_l_clauses) .none kV13 dc13 pm13 an13 cd13 ct13), f_l_dict := f14, d_l_dict := (PySem.W.fnOf "_law_dict" "_law_dict" (defArgs s_l_dict) (defBody s_l_dict) (defScope s_l_dict) .none kV14 dc14 pm14 an14 cd14 ct14), f_l_by_label := f15, d_l_by_label := (PySem.W.fnOf "_law_by_label" "_law_by_label" (defArgs s_l_by_label) (defBody s_l_by_label) (defScope s_l_by_label) .none kV15 dc15 pm15 an15 cd15 ct15), f_l_not := f16, d_l_not := (PySem.W.fnOf "_law_not" "_law_not" (defArgs s_l_not) (defBody s_l_not) (defScope s_l_not) .none kV16 dc16 pm16 an16 cd16 ct16), f_l_left := f17, d_l_left := (PySem.W.fnOf "_law_left" "_law_left" (defArgs s_l_left) (defBody s_l_left) (defScope s_l_left) .none kV17 dc17 pm17 an17 cd17 ct17), f_l_propagated := f18, d_l_propagated := (PySem.W.fnOf "_law_propagated" "_law_propagated" (defArgs s_l_propagated) (defBody s_l_propagated) (defScope s_l_propagated) .none kV18 dc18 pm18 an18 cd18 ct18), f_l_step_right := f19, d_l_step_right := (PySem.W.fnOf "_law_step_right" "_law_step_right" (defArgs s_l_step_right) (defBody s_l_step_right) (defScope s_l_step_right) .none kV19 dc19 pm19 an19 cd19 ct19), f_l_replayed := f20, d_l_replayed := (PySem.W.fnOf "_law_replayed" "_law_replayed" (defArgs s_l_replayed) (defBody s_l_replayed) (defScope s_l_replayed) .none kV20 dc20 pm20 an20 cd20 ct20), f_l_asked := f21, d_l_asked := (PySem.W.fnOf "_law_asked" "_law_asked" (defArgs s_l_asked) (defBody s_l_asked) (defScope s_l_asked) .none kV21 dc21 pm21 an21 cd21 ct21), f_l_bent := f22, d_l_bent := (PySem.W.fnOf "_law_bent" "_law_bent" (defArgs s_l_bent) (defBody s_l_bent) (defScope s_l_bent) .none kV22 dc22 pm22 an22 cd22 ct22), f_l_clause_asked := f23, d_l_clause_asked := (PySem.W.fnOf "_law_clause_asked" "_law_clause_asked" (defArgs s_l_clause_asked) (defBody s_l_clause_asked) (defScope s_l_clause_asked) .none kV23 dc23 pm23 an23 cd23 ct23), f_law := fa, d_law := (PySem.W.fnOf "law" "law" (defArgs s_law) (defBody s_law) (defScope s_law) .none kV24 dc24 pm24 an24 cd24 ct24), c_LookerError := C_LookerError, c_BadLiteral := C_BadLiteral, c_BadStep := C_BadStep, c_BadOrder := C_BadOrder, c_Propagation := C_Propagation }
  have T : Top K mg ad :=
    { sq0 := fun _ => .inr ⟨_, _, _, lE, rfl, rfl, Nat.zero_le _, .nil⟩,
      F_is_int := F1,
      m_is_int := PySem.W.mg_of X G a1,
      b_is_int := b1,
      F_negated := F2,
      m_negated := PySem.W.mg_of X G a2,
      b_negated := b2,
      F_undenied := F3,
      m_undenied := PySem.W.mg_of X G a3,
      b_undenied := b3,
      F_next_step := F4,
      m_next_step := PySem.W.mg_of X G a4,
      b_next_step := b4,
      F_is_right_step := F5,
      m_is_right_step := PySem.W.mg_of X G a5,
      b_is_right_step := b5,
      F_checked_order := F6,
      m_checked_order := PySem.W.mg_of X G a6,
      b_checked_order := b6,
      F_propagate := F7,
      m_propagate := PySem.W.mg_of X G a7,
      F_l_state := F8,
      m_l_state := PySem.W.mg_of X G a8,
      b_l_state := b8,
      F_l_draw := F9,
      m_l_draw := PySem.W.mg_of X G a9,
      b_l_draw := b9,
      F_l_alike := F10,
      m_l_alike := PySem.W.mg_of X G a10,
      b_l_alike := b10,
      F_l_atom_row := F11,
      m_l_atom_row := PySem.W.mg_of X G a11,
      b_l_atom_row := b11,
      F_l_clause := F12,
      m_l_clause := PySem.W.mg_of X G a12,
      b_l_clause := b12,
      F_l_clauses := F13,
      m_l_clauses := PySem.W.mg_of X G a13,
      b_l_clauses := b13,
      F_l_dict := F14,
      m_l_dict := PySem.W.mg_of X G a14,
      b_l_dict := b14,
      F_l_by_label := F15,
      m_l_by_label := PySem.W.mg_of X G a15,
      b_l_by_label := b15,
      F_l_not := F16,
      m_l_not := PySem.W.mg_of X G a16,
      b_l_not := b16,
      F_l_left := F17,
      m_l_left := PySem.W.mg_of X G a17,
      b_l_left := b17,
      F_l_propagated := F18,
      m_l_propagated := PySem.W.mg_of X G a18,
      b_l_propagated := b18,
      F_l_step_right := F19,
      m_l_step_right := PySem.W.mg_of X G a19,
      b_l_step_right := b19,
      F_l_replayed := F20,
      m_l_replayed := PySem.W.mg_of X G a20,
      b_l_replayed := b20,
      F_l_asked := F21,
      m_l_asked := PySem.W.mg_of X G a21,
      b_l_asked := b21,
      F_l_bent := F22,
      m_l_bent := PySem.W.mg_of X G a22,
      b_l_bent := b22,
      F_l_clause_asked := F23,
      m_l_clause_asked := PySem.W.mg_of X G a23,
      b_l_clause_asked := b23,
      F_law := F24,
      m_law := PySem.W.mg_of X G a24,
      b_law := b24,
      m_LookerError := PySem.W.mg_of X G aC_LookerError,
      m_BadLiteral := PySem.W.mg_of X G aC_BadLiteral,
      m_BadStep := PySem.W.mg_of X G aC_BadStep,
      m_BadOrder := PySem.W.mg_of X G aC_BadOrder,
      m_Propagation := PySem.W.mg_of X G aC_Propagation,
      z_ValueError := PySem.W.mg_none_of X G z_ValueError,
      z_all := PySem.W.mg_none_of X G z_all,
      z_bool := PySem.W.mg_none_of X G z_bool,
      z_dict := PySem.W.mg_none_of X G z_dict,
      z_enumerate := PySem.W.mg_none_of X G z_enumerate,
      z_int := PySem.W.mg_none_of X G z_int,
      z_isinstance := PySem.W.mg_none_of X G z_isinstance,
      z_iter := PySem.W.mg_none_of X G z_iter,
      z_len := PySem.W.mg_none_of X G z_len,
      z_list := PySem.W.mg_none_of X G z_list,
      z_min := PySem.W.mg_none_of X G z_min,
      z_range := PySem.W.mg_none_of X G z_range,
      z_sorted := PySem.W.mg_none_of X G z_sorted,
      z_str := PySem.W.mg_none_of X G z_str,
      z_tuple := PySem.W.mg_none_of X G z_tuple }
  have FI_BadLiteral := fun_mk (st := init_BadLiteral) l25 c25 k25
  have bI_BadLiteral := FI_BadLiteral.binds (ps := ["self", "value"]) fun _ _ _ _ _ _ us hl => match us, hl with | [_, _], _ => rfl
  have ox_BadLiteral : OexC K C_BadLiteral := ⟨⟨_, _, _, _, _, _, _, _, _, _, _, _, _, _, _, xL_BadLiteral, kit_ve⟩, sa_BadLiteral, eC_BadLiteral, tC_BadLiteral, kC_BadLiteral⟩
  have te_BadLiteral := PySem.W.exm_ref eC_BadLiteral hC_BadLiteral tC_BadLiteral sC_BadLiteral
  have FI_BadStep := fun_mk (st := init_BadStep) l26 c26 k26
  have bI_BadStep := FI_BadStep.binds (ps := ["self", "index"]) fun _ _ _ _ _ _ us hl => match us, hl with | [_, _], _ => rfl
  have ox_BadStep : OexC K C_BadStep := ⟨⟨_, _, _, _, _, _, _, _, _, _, _, _, _, _, _, xL_BadStep, kit_ve⟩, sa_BadStep, eC_BadStep, tC_BadStep, kC_BadStep⟩
  have te_BadStep := PySem.W.exm_ref eC_BadStep hC_BadStep tC_BadStep sC_BadStep
  have FI_BadOrder := fun_mk (st := init_BadOrder) l27 c27 k27
  have bI_BadOrder := FI_BadOrder.binds (ps := ["self", "value"]) fun _ _ _ _ _ _ us hl => match us, hl with | [_, _], _ => rfl
  have ox_BadOrder : OexC K C_BadOrder := ⟨⟨_, _, _, _, _, _, _, _, _, _, _, _, _, _, _, xL_BadOrder, kit_ve⟩, sa_BadOrder, eC_BadOrder, tC_BadOrder, kC_BadOrder⟩
  have te_BadOrder := PySem.W.exm_ref eC_BadOrder hC_BadOrder tC_BadOrder sC_BadOrder
  have EX_BadStep : ErS K C_BadStep C_LookerError f26 _ := ⟨ox_BadStep, iC_BadStep, tI_BadStep, no_BadStep, FI_BadStep, bI_BadStep, ⟨ga_BadStep, gg_BadStep, eC_BadStep, hC_BadStep⟩, ⟨ga_BadStep, gg_BadStep, eC_BadStep, hC_BadStep, xA_BadStep, xHn, xHt, xM_BadStep⟩, te_BadStep, kit_one (kit_sub iL tL su_BadStep)⟩
  have EX_BadLiteral : ErX K C_BadLiteral C_LookerError C_BadOrder f25 _ "BadLiteral.__init__" init_BadLiteral := ⟨ox_BadLiteral, iC_BadLiteral, tI_BadLiteral, no_BadLiteral, FI_BadLiteral, bI_BadLiteral, ⟨ga_BadLiteral, gg_BadLiteral, eC_BadLiteral, hC_BadLiteral⟩, ⟨ga_BadLiteral, gg_BadLiteral, eC_BadLiteral, hC_BadLiteral, xA_BadLiteral, xHn, xHt, xM_BadLiteral⟩, te_BadLiteral, kit_one (kit_sub iL tL su_BadLiteral), kit_no sC_BadLiteral (kit_sub xI_BadOrder tC_BadOrder xN_BadLiteral) xN_BadLiteral⟩
  have EX_BadOrder : ErX K C_BadOrder C_LookerError C_BadLiteral f27 _ "BadOrder.__init__" init_BadOrder := ⟨ox_BadOrder, iC_BadOrder, tI_BadOrder, no_BadOrder, FI_BadOrder, bI_BadOrder, ⟨ga_BadOrder, gg_BadOrder, eC_BadOrder, hC_BadOrder⟩, ⟨ga_BadOrder, gg_BadOrder, eC_BadOrder, hC_BadOrder, xA_BadOrder, xHn, xHt, xM_BadOrder⟩, te_BadOrder, kit_one (kit_sub iL tL su_BadOrder), kit_no sC_BadOrder (kit_sub xI_BadLiteral tC_BadLiteral xN_BadOrder) xN_BadOrder⟩
  have FM_init := fun_mk (st := s_Propagation_init) l28 c28 k28
  have bM_init := FM_init.binds (ps := ["self", "steps", "clash"]) fun _ _ _ _ _ _ us hl => match us, hl with | [_, _, _], _ => rfl
  have FM_len := fun_mk (st := s_Propagation_len) l29 c29 k29
  have bM_len := FM_len.binds (ps := ["self"]) fun _ _ _ _ _ _ us hl => match us, hl with | [_], _ => rfl
  have FM_iter := fun_mk (st := s_Propagation_iter) l30 c30 k30
  have bM_iter := FM_iter.binds (ps := ["self"]) fun _ _ _ _ _ _ us hl => match us, hl with | [_], _ => rfl
  have FM_contains := fun_mk (st := s_Propagation_contains) l31 c31 k31
  have bM_contains := FM_contains.binds (ps := ["self", "x"]) fun _ _ _ _ _ _ us hl => match us, hl with | [_, _], _ => rfl
  have FM_getitem := fun_mk (st := s_Propagation_getitem) l32 c32 k32
  have bM_getitem := FM_getitem.binds (ps := ["self", "at"]) fun _ _ _ _ _ _ us hl => match us, hl with | [_, _], _ => rfl
  have FM_replayed := fun_mk (st := s_Propagation_replayed) l33 c33 k33
  have bM_replayed := FM_replayed.binds (ps := ["clauses", "steps"]) fun _ _ _ _ _ _ us hl => match us, hl with | [_, _], _ => rfl
  have B : PrC K C_Propagation ⟨f28, f29, f30, f31, f32, _, _, _, _, _⟩ := { ins := ⟨⟨o_pg, o_hd, o_po, o_sa⟩, o_ha, xHn, xHt, o_hm, kit_one (kit_sub o_ic o_ty o_sc)⟩, mkr := ⟨o_mk, m_init, j28, o_kp⟩, nS := o_nsteps, nC := o_nclash, nL := o_nliterals, nD := o_nlabels, F_I := FM_init, b_I := bM_init, F_L := FM_len, b_L := bM_len, F_T := FM_iter, b_T := bM_iter, F_N := FM_contains, b_N := bM_contains, F_G := FM_getitem, b_G := bM_getitem, itl := ⟨m_iter, j30, m_len, j29⟩, gs := m_getitem, gf := jG, gn := j32, cs := m_contains, cn := j31 }
  exact ⟨_, fun s v => .of_eq rfl, fun base _ _ => ok_law (a := ad) T B EX_BadLiteral EX_BadOrder EX_BadStep FM_replayed bM_replayed ⟨o_rd, o_gat⟩ ⟨o_at, ⟨_, o_rc⟩, k33⟩⟩
end
end K16
open PySem PySem.W PyProof.Rows
set_option maxHeartbeats 0 in
theorem PySem.Challenge.cw_onelooker_k16_replayed_steps_holds : PySem.Challenge.rw_onelooker_k16_replayed_steps.Holds := by
  w_on; o_law; k_head; (case hw => w_witness2)
  k_fill
  refine L2.walk_of (l := PySem.Challenge.rw_onelooker_k16_replayed_steps) (n := 63) (k := 33) (x := "_law_script") (CX := fun _ => L2.CX0) (sp := fun w => K16.spLaw _) rfl (by decide) rfl ⟨rfl, by decide, by decide⟩ (fun w h Y => PySem.W.kIn_of Y) ?F (fun _ _ a ns hl _ hS => ⟨a, ns, rfl, hS, fun _ => rfl⟩) (fun _ _ _ _ _ h => h)
  case F =>
    intro w mg fa h KX G hmg
    refine' K16.all_mk KX G hmg ?a1 ?l1 ?c1 ?k1 ?a2 ?l2 ?c2 ?k2 ?a3 ?l3 ?c3 ?k3 ?a4 ?l4 ?c4 ?k4 ?a5 ?l5 ?c5 ?k5 ?a6 ?l6 ?c6 ?k6 ?a7 ?l7 ?c7 ?k7 ?q_propagate_order ?lT ?lE ?a8 ?l8 ?c8 ?k8 ?a9 ?l9 ?c9 ?k9 ?a10 ?l10 ?c10 ?k10 ?a11 ?l11 ?c11 ?k11 ?a12 ?l12 ?c12 ?k12 ?a13 ?l13 ?c13 ?k13 ?a14 ?l14 ?c14 ?k14 ?a15 ?l15 ?c15 ?k15 ?a16 ?l16 ?c16 ?k16 ?a17 ?l17 ?c17 ?k17 ?a18 ?l18 ?c18 ?k18 ?a19 ?l19 ?c19 ?k19 ?a20 ?l20 ?c20 ?k20 ?a21 ?l21 ?c21 ?k21 ?a22 ?l22 ?c22 ?k22 ?a23 ?l23 ?c23 ?k23 ?a24 ?l24 ?c24 ?k24 ?aC_LookerError ?aC_BadLiteral ?aC_BadStep ?aC_BadOrder ?aC_Propagation ?iL ?tL ?xL_BadLiteral ?sa_BadLiteral ?ga_BadLiteral ?gg_BadLiteral ?no_BadLiteral ?iC_BadLiteral ?tI_BadLiteral ?l25 ?c25 ?k25 ?kC_BadLiteral ?eC_BadLiteral ?tC_BadLiteral ?hC_BadLiteral ?sC_BadLiteral ?su_BadLiteral ?xL_BadStep ?sa_BadStep ?ga_BadStep ?gg_BadStep ?no_BadStep ?iC_BadStep ?tI_BadStep ?l26 ?c26 ?k26 ?kC_BadStep ?eC_BadStep ?tC_BadStep ?hC_BadStep ?sC_BadStep ?su_BadStep ?xL_BadOrder ?sa_BadOrder ?ga_BadOrder ?gg_BadOrder ?no_BadOrder ?iC_BadOrder ?tI_BadOrder ?l27 ?c27 ?k27 ?kC_BadOrder ?eC_BadOrder ?tC_BadOrder ?hC_BadOrder ?sC_BadOrder ?su_BadOrder ?xHn ?xHt ?xA_BadLiteral ?xM_BadLiteral ?xI_BadLiteral ?xN_BadLiteral ?xA_BadOrder ?xM_BadOrder ?xI_BadOrder ?xN_BadOrder ?xA_BadStep ?xM_BadStep ?xI_BadStep ?xN_BadStep ?o_pg ?o_hd ?o_po ?o_sa ?o_ha ?o_hm ?o_mk ?o_kp ?o_ic ?o_ty ?o_sc ?o_nsteps ?o_nclash ?o_nliterals ?o_nlabels ?m_init ?l28 ?c28 ?k28 ?j28 ?m_len ?l29 ?c29 ?k29 ?j29 ?m_iter ?l30 ?c30 ?k30 ?j30 ?m_contains ?l31 ?c31 ?k31 ?j31 ?m_getitem ?l32 ?c32 ?k32 ?j32 ?jG ?o_rd ?o_gat ?o_at ?o_rc ?l33 ?c33 ?k33 ?z_ValueError ?z_all ?z_bool ?z_dict ?z_enumerate ?z_int ?z_isinstance ?z_iter ?z_len ?z_list ?z_min ?z_range ?z_sorted ?z_str ?z_tuple
    (case a1 => k_is)
    (case l1 => k_is)
    (case c1 => k_is)
    (case k1 => k_is)
    (case a2 => k_is)
    (case l2 => k_is)
    (case c2 => k_is)
    (case k2 => k_is)
    (case a3 => k_is)
    (case l3 => k_is)
    (case c3 => k_is)
    (case k3 => k_is)
    (case a4 => k_is)
    (case l4 => k_is)
    (case c4 => k_is)
    (case k4 => k_is)
    (case a5 => k_is)
    (case l5 => k_is)
    (case c5 => k_is)
    (case k5 => k_is)
    (case a6 => k_is)
    (case l6 => k_is)
    (case c6 => k_is)
    (case k6 => k_is)
    (case a7 => k_is)
    (case l7 => k_is)
    (case c7 => k_is)
    (case k7 => k_is)
    (case q_propagate_order => k_is)
    (case lT => k_is)
    (case lE => k_is)
    (case a8 => k_is)
    (case l8 => k_is)
    (case c8 => k_is)
    (case k8 => k_is)
    (case a9 => k_is)
    (case l9 => k_is)
    (case c9 => k_is)
    (case k9 => k_is)
    (case a10 => k_is)
    (case l10 => k_is)
    (case c10 => k_is)
    (case k10 => k_is)
    (case a11 => k_is)
    (case l11 => k_is)
    (case c11 => k_is)
    (case k11 => k_is)
    (case a12 => k_is)
    (case l12 => k_is)
    (case c12 => k_is)
    (case k12 => k_is)
    (case a13 => k_is)
    (case l13 => k_is)
    (case c13 => k_is)
    (case k13 => k_is)
    (case a14 => k_is)
    (case l14 => k_is)
    (case c14 => k_is)
    (case k14 => k_is)
    (case a15 => k_is)
    (case l15 => k_is)
    (case c15 => k_is)
    (case k15 => k_is)
    (case a16 => k_is)
    (case l16 => k_is)
    (case c16 => k_is)
    (case k16 => k_is)
    (case a17 => k_is)
    (case l17 => k_is)
    (case c17 => k_is)
    (case k17 => k_is)
    (case a18 => k_is)
    (case l18 => k_is)
    (case c18 => k_is)
    (case k18 => k_is)
    (case a19 => k_is)
    (case l19 => k_is)
    (case c19 => k_is)
    (case k19 => k_is)
    (case a20 => k_is)
    (case l20 => k_is)
    (case c20 => k_is)
    (case k20 => k_is)
    (case a21 => k_is)
    (case l21 => k_is)
    (case c21 => k_is)
    (case k21 => k_is)
    (case a22 => k_is)
    (case l22 => k_is)
    (case c22 => k_is)
    (case k22 => k_is)
    (case a23 => k_is)
    (case l23 => k_is)
    (case c23 => k_is)
    (case k23 => k_is)
    (case a24 => k_is)
    (case l24 => k_is)
    (case c24 => k_is)
    (case k24 => k_is)
    (case aC_LookerError => k_is)
    (case aC_BadLiteral => k_is)
    (case aC_BadStep => k_is)
    (case aC_BadOrder => k_is)
    (case aC_Propagation => k_is)
    (case iL => k_is)
    (case tL => k_is)
    (case xL_BadLiteral => k_is)
    (case sa_BadLiteral => k_is)
    (case ga_BadLiteral => k_is)
    (case gg_BadLiteral => k_is)
    (case no_BadLiteral => k_is)
    (case iC_BadLiteral => k_is)
    (case tI_BadLiteral => k_is)
    (case l25 => k_is)
    (case c25 => k_is)
    (case k25 => k_is)
    (case kC_BadLiteral => k_is)
    (case eC_BadLiteral => k_is)
    (case tC_BadLiteral => k_is)
    (case hC_BadLiteral => k_is)
    (case sC_BadLiteral => k_is)
    (case su_BadLiteral => k_is)
    (case xL_BadStep => k_is)
    (case sa_BadStep => k_is)
    (case ga_BadStep => k_is)
    (case gg_BadStep => k_is)
    (case no_BadStep => k_is)
    (case iC_BadStep => k_is)
    (case tI_BadStep => k_is)
    (case l26 => k_is)
    (case c26 => k_is)
    (case k26 => k_is)
    (case kC_BadStep => k_is)
    (case eC_BadStep => k_is)
    (case tC_BadStep => k_is)
    (case hC_BadStep => k_is)
    (case sC_BadStep => k_is)
    (case su_BadStep => k_is)
    (case xL_BadOrder => k_is)
    (case sa_BadOrder => k_is)
    (case ga_BadOrder => k_is)
    (case gg_BadOrder => k_is)
    (case no_BadOrder => k_is)
    (case iC_BadOrder => k_is)
    (case tI_BadOrder => k_is)
    (case l27 => k_is)
    (case c27 => k_is)
    (case k27 => k_is)
    (case kC_BadOrder => k_is)
    (case eC_BadOrder => k_is)
    (case tC_BadOrder => k_is)
    (case hC_BadOrder => k_is)
    (case sC_BadOrder => k_is)
    (case su_BadOrder => k_is)
    (case xHn => k_is)
    (case xHt => k_is)
    (case xA_BadLiteral => k_is)
    (case xM_BadLiteral => k_is)
    (case xI_BadLiteral => k_is)
    (case xN_BadLiteral => k_is)
    (case xA_BadOrder => k_is)
    (case xM_BadOrder => k_is)
    (case xI_BadOrder => k_is)
    (case xN_BadOrder => k_is)
    (case xA_BadStep => k_is)
    (case xM_BadStep => k_is)
    (case xI_BadStep => k_is)
    (case xN_BadStep => k_is)
    (case o_pg => k_is)
    (case o_hd => k_is)
    (case o_po => k_is)
    (case o_sa => k_is)
    (case o_ha => k_is)
    (case o_hm => k_is)
    (case o_mk => k_is)
    (case o_kp => k_is)
    (case o_ic => k_is)
    (case o_ty => k_is)
    (case o_sc => k_is)
    (case o_nsteps => k_is)
    (case o_nclash => k_is)
    (case o_nliterals => k_is)
    (case o_nlabels => k_is)
    (case m_init => k_is)
    (case l28 => k_is)
    (case c28 => k_is)
    (case k28 => k_is)
    (case j28 => k_is)
    (case m_len => k_is)
    (case l29 => k_is)
    (case c29 => k_is)
    (case k29 => k_is)
    (case j29 => k_is)
    (case m_iter => k_is)
    (case l30 => k_is)
    (case c30 => k_is)
    (case k30 => k_is)
    (case j30 => k_is)
    (case m_contains => k_is)
    (case l31 => k_is)
    (case c31 => k_is)
    (case k31 => k_is)
    (case j31 => k_is)
    (case m_getitem => k_is)
    (case l32 => k_is)
    (case c32 => k_is)
    (case k32 => k_is)
    (case j32 => k_is)
    (case jG => k_is)
    (case o_rd => k_is)
    (case o_gat => k_is)
    (case o_at => k_is)
    (case o_rc => k_is)
    (case l33 => k_is)
    (case c33 => k_is)
    (case k33 => k_is)
    (case z_ValueError => k_is)
    (case z_all => k_is)
    (case z_bool => k_is)
    (case z_dict => k_is)
    (case z_enumerate => k_is)
    (case z_int => k_is)
    (case z_isinstance => k_is)
    (case z_iter => k_is)
    (case z_len => k_is)
    (case z_list => k_is)
    (case z_min => k_is)
    (case z_range => k_is)
    (case z_sorted => k_is)
    (case z_str => k_is)
    (case z_tuple => k_is)

