import PyProof.Rows.All
import Wide.All
import OpenK.AllK
import Wide.FinOn
import HandS.ForMost
import HandS.Wide
import HandS.ExcInit
import HandS.Steps
import HandS.IsInst
import HandS.TryOnly
import HandS.Defaults
import HandS.Exc
import HandS.ExcOwn
import HandS.ExcField
import HandS.WordsExc
import HandS.Codes
import HandS.Replace
import HandS.ExcIs
import HandS.Walk
import HandS.CallSlots
import PySem.Challenge.RW_onelooker_k05_tokens_and_numbers
set_option Elab.async false
set_option linter.all false
set_option maxRecDepth 100000
set_option maxHeartbeats 4000000
namespace K5
open PySem PySem.Spec PyProof.Rows L2
def topS (i : Nat) : Stmt := PySem.Challenge.pw_onelooker_k05_tokens_and_numbers.main.body.getD i (.Pass ⟨0, 0, 0, 0⟩)
abbrev s_is_digit : Stmt := topS 4
theorem sc_is_digit : FnScope ["sign"] ["sign"] (defScope s_is_digit) := ⟨rfl, rfl, rfl, by decide +kernel, rfl, by decide +kernel, by decide +kernel⟩
abbrev s_is_word_sign : Stmt := topS 5
theorem sc_is_word_sign : FnScope ["sign"] ["sign"] (defScope s_is_word_sign) := ⟨rfl, rfl, rfl, by decide +kernel, rfl, by decide +kernel, by decide +kernel⟩
abbrev s_end_of_piece : Stmt := topS 6
theorem sc_end_of_piece : FnScope ["text", "at", "line", "end"] ["text", "at", "line"] (defScope s_end_of_piece) := ⟨rfl, rfl, rfl, by decide +kernel, rfl, by decide +kernel, by decide +kernel⟩
abbrev s_tokens : Stmt := topS 7
theorem sc_tokens : FnScope ["text", "line", "found", "at", "end"] ["text", "line"] (defScope s_tokens) := ⟨rfl, rfl, rfl, by decide +kernel, rfl, by decide +kernel, by decide +kernel⟩
abbrev s_is_decimal : Stmt := topS 8
theorem sc_is_decimal : FnScope ["text", "sign"] ["text"] (defScope s_is_decimal) := ⟨rfl, rfl, rfl, by decide +kernel, rfl, by decide +kernel, by decide +kernel⟩
abbrev s_read_number : Stmt := topS 9
theorem sc_read_number : FnScope ["text", "least", "most", "line", "number"] ["text", "least", "most", "line"] (defScope s_read_number) := ⟨rfl, rfl, rfl, by decide +kernel, rfl, by decide +kernel, by decide +kernel⟩
abbrev s_is_int : Stmt := topS 11
theorem sc_is_int : FnScope ["value"] ["value"] (defScope s_is_int) := ⟨rfl, rfl, rfl, by decide +kernel, rfl, by decide +kernel, by decide +kernel⟩
abbrev s_is_whole : Stmt := topS 13
theorem sc_is_whole : FnScope ["value", "least", "most"] ["value", "least", "most"] (defScope s_is_whole) := ⟨rfl, rfl, rfl, by decide +kernel, rfl, by decide +kernel, by decide +kernel⟩
abbrev s_l_state : Stmt := topS 15
theorem sc_l_state : FnScope ["_law_script"] ["_law_script"] (defScope s_l_state) := ⟨rfl, rfl, rfl, by decide +kernel, rfl, by decide +kernel, by decide +kernel⟩
abbrev s_l_draw : Stmt := topS 16
theorem sc_l_draw : FnScope ["_law_state_here", "_law_many", "_law_cell", "_law_found", "_law_mixed"] ["_law_state_here", "_law_many"] (defScope s_l_draw) := ⟨rfl, rfl, rfl, by decide +kernel, rfl, by decide +kernel, by decide +kernel⟩
abbrev s_l_wide : Stmt := topS 17
theorem sc_l_wide : FnScope ["_law_feed", "_law_many"] ["_law_feed", "_law_many"] (defScope s_l_wide) := ⟨rfl, rfl, rfl, by decide +kernel, rfl, by decide +kernel, by decide +kernel⟩
abbrev s_l_alike : Stmt := topS 18
theorem sc_l_alike : FnScope ["_law_actual", "_law_due", "_law_k"] ["_law_actual", "_law_due"] (defScope s_l_alike) := ⟨rfl, rfl, rfl, by decide +kernel, rfl, by decide +kernel, by decide +kernel⟩
abbrev s_l_text : Stmt := topS 19
theorem sc_l_text : FnScope ["_law_state_here", "_law_menu", "_law_text_here", "_law_k", "_law_strange", "_law_at"] ["_law_state_here"] (defScope s_l_text) := ⟨rfl, rfl, rfl, by decide +kernel, rfl, by decide +kernel, by decide +kernel⟩
abbrev s_l_cut : Stmt := topS 20
theorem sc_l_cut : FnScope ["_law_text_here", "_law_run", "_law_found", "_law_before", "_law_sign"] ["_law_text_here"] (defScope s_l_cut) := ⟨rfl, rfl, rfl, by decide +kernel, rfl, by decide +kernel, by decide +kernel⟩
abbrev s_l_tokens : Stmt := topS 21
theorem sc_l_tokens : FnScope ["_law_text_here", "_law_number_here", "e"] ["_law_text_here", "_law_number_here"] (defScope s_l_tokens) := ⟨rfl, rfl, rfl, by decide +kernel, rfl, by decide +kernel, by decide +kernel⟩
abbrev s_l_number : Stmt := topS 22
theorem sc_l_number : FnScope ["_law_state_here", "_law_menu", "_law_place"] ["_law_state_here"] (defScope s_l_number) := ⟨rfl, rfl, rfl, by decide +kernel, rfl, by decide +kernel, by decide +kernel⟩
abbrev s_l_written : Stmt := topS 23
theorem sc_l_written : FnScope ["_law_state_here", "_law_low", "_law_high", "_law_near", "_law_text_here", "_law_way", "_law_menu"] ["_law_state_here", "_law_low", "_law_high"] (defScope s_l_written) := ⟨rfl, rfl, rfl, by decide +kernel, rfl, by decide +kernel, by decide +kernel⟩
abbrev s_l_value : Stmt := topS 24
theorem sc_l_value : FnScope ["_law_text_here", "_law_low", "_law_high", "_law_sign", "_law_value_here"] ["_law_text_here", "_law_low", "_law_high"] (defScope s_l_value) := ⟨rfl, rfl, rfl, by decide +kernel, rfl, by decide +kernel, by decide +kernel⟩
abbrev s_l_read : Stmt := topS 25
theorem sc_l_read : FnScope ["_law_text_here", "_law_low", "_law_high", "_law_number_here", "e"] ["_law_text_here", "_law_low", "_law_high", "_law_number_here"] (defScope s_l_read) := ⟨rfl, rfl, rfl, by decide +kernel, rfl, by decide +kernel, by decide +kernel⟩
abbrev s_l_numbers_right : Stmt := topS 26
theorem sc_l_numbers_right : FnScope ["_law_state_here", "_law_low", "_law_high", "_law_number_here", "_law_text_here", "_law_rows", "_law_row", "_law_due"] ["_law_state_here", "_law_low", "_law_high", "_law_number_here"] (defScope s_l_numbers_right) := ⟨rfl, rfl, rfl, by decide +kernel, rfl, by decide +kernel, by decide +kernel⟩
abbrev s_l_whole_right : Stmt := topS 27
theorem sc_l_whole_right : FnScope ["_law_state_here", "_law_low", "_law_high", "_law_value_here"] ["_law_state_here", "_law_low", "_law_high"] (defScope s_l_whole_right) := ⟨rfl, rfl, rfl, by decide +kernel, rfl, by decide +kernel, by decide +kernel⟩
abbrev s_law : Stmt := topS 28
theorem sc_law : FnScope ["_law_script", "_law_state_here", "_law_step", "_law_text_here", "_law_number_here", "_law_told", "_law_due", "_law_low", "_law_high"] ["_law_script"] (defScope s_law) := ⟨rfl, rfl, rfl, by decide +kernel, rfl, by decide +kernel, by decide +kernel⟩
structure Ad where
  f_is_digit : Addr
  d_is_digit : FuncData
  f_is_word_sign : Addr
  d_is_word_sign : FuncData
  f_end_of_piece : Addr
  d_end_of_piece : FuncData
  f_tokens : Addr
  d_tokens : FuncData
  f_is_decimal : Addr
  d_is_decimal : FuncData
  f_read_number : Addr
  d_read_number : FuncData
  f_is_int : Addr
  d_is_int : FuncData
  f_is_whole : Addr
  d_is_whole : FuncData
  f_l_state : Addr
  d_l_state : FuncData
  f_l_draw : Addr
  d_l_draw : FuncData
  f_l_wide : Addr
  d_l_wide : FuncData
  f_l_alike : Addr
  d_l_alike : FuncData
  f_l_text : Addr
  d_l_text : FuncData
  f_l_cut : Addr
  d_l_cut : FuncData
  f_l_tokens : Addr
  d_l_tokens : FuncData
  f_l_number : Addr
  d_l_number : FuncData
  f_l_written : Addr
  d_l_written : FuncData
  f_l_value : Addr
  d_l_value : FuncData
  f_l_read : Addr
  d_l_read : FuncData
  f_l_numbers_right : Addr
  d_l_numbers_right : FuncData
  f_l_whole_right : Addr
  d_l_whole_right : FuncData
  f_law : Addr
  d_law : FuncData
  c_LookerError : Addr
  c_BadText : Addr
structure Top (K : PySem.W.Frag) (mg : Str → Option Value) (a : Ad) : Prop where
  F_is_digit : Fun K "_is_digit" "_is_digit" s_is_digit a.f_is_digit a.d_is_digit
  m_is_digit : mg "_is_digit" = some (.ref a.f_is_digit)
  b_is_digit : Binds K a.d_is_digit ["sign"] []
  F_is_word_sign : Fun K "_is_word_sign" "_is_word_sign" s_is_word_sign a.f_is_word_sign a.d_is_word_sign
  m_is_word_sign : mg "_is_word_sign" = some (.ref a.f_is_word_sign)
  b_is_word_sign : Binds K a.d_is_word_sign ["sign"] []
  F_end_of_piece : Fun K "_end_of_piece" "_end_of_piece" s_end_of_piece a.f_end_of_piece a.d_end_of_piece
  m_end_of_piece : mg "_end_of_piece" = some (.ref a.f_end_of_piece)
  b_end_of_piece : Binds K a.d_end_of_piece ["text", "at", "line"] []
  -- FunD tokens
  F_tokens : FunD K "tokens" "tokens" (defArgs s_tokens) (defBody s_tokens) (defScope s_tokens) [] [("line", .int 1)] a.f_tokens a.d_tokens
  m_tokens : mg "tokens" = some (.ref a.f_tokens)
  F_is_decimal : Fun K "_is_decimal" "_is_decimal" s_is_decimal a.f_is_decimal a.d_is_decimal
  m_is_decimal : mg "_is_decimal" = some (.ref a.f_is_decimal)
  b_is_decimal : Binds K a.d_is_decimal ["text"] []
  -- FunD read_number
  F_read_number : FunD K "read_number" "read_number" (defArgs s_read_number) (defBody s_read_number) (defScope s_read_number) [] [("least", .int 0), ("most", .int 999), ("line", .int 1)] a.f_read_number a.d_read_number
  m_read_number : mg "read_number" = some (.ref a.f_read_number)
  F_is_int : Fun K "is_int" "is_int" s_is_int a.f_is_int a.d_is_int
  m_is_int : mg "is_int" = some (.ref a.f_is_int)
  b_is_int : Binds K a.d_is_int ["value"] []
  F_is_whole : Fun K "is_whole" "is_whole" s_is_whole a.f_is_whole a.d_is_whole
  m_is_whole : mg "is_whole" = some (.ref a.f_is_whole)
  b_is_whole : Binds K a.d_is_whole ["value", "least", "most"] []
  F_l_state : Fun K "_law_state" "_law_state" s_l_state a.f_l_state a.d_l_state
  m_l_state : mg "_law_state" = some (.ref a.f_l_state)
  b_l_state : Binds K a.d_l_state ["_law_script"] []
  F_l_draw : Fun K "_law_draw" "_law_draw" s_l_draw a.f_l_draw a.d_l_draw
  m_l_draw : mg "_law_draw" = some (.ref a.f_l_draw)
  b_l_draw : Binds K a.d_l_draw ["_law_state_here", "_law_many"] []
  F_l_wide : Fun K "_law_wide" "_law_wide" s_l_wide a.f_l_wide a.d_l_wide
  m_l_wide : mg "_law_wide" = some (.ref a.f_l_wide)
  b_l_wide : Binds K a.d_l_wide ["_law_feed", "_law_many"] []
  F_l_alike : Fun K "_law_alike" "_law_alike" s_l_alike a.f_l_alike a.d_l_alike
  m_l_alike : mg "_law_alike" = some (.ref a.f_l_alike)
  b_l_alike : Binds K a.d_l_alike ["_law_actual", "_law_due"] []
  F_l_text : Fun K "_law_text" "_law_text" s_l_text a.f_l_text a.d_l_text
  m_l_text : mg "_law_text" = some (.ref a.f_l_text)
  b_l_text : Binds K a.d_l_text ["_law_state_here"] []
  F_l_cut : Fun K "_law_cut" "_law_cut" s_l_cut a.f_l_cut a.d_l_cut
  m_l_cut : mg "_law_cut" = some (.ref a.f_l_cut)
  b_l_cut : Binds K a.d_l_cut ["_law_text_here"] []
  F_l_tokens : Fun K "_law_tokens" "_law_tokens" s_l_tokens a.f_l_tokens a.d_l_tokens
  m_l_tokens : mg "_law_tokens" = some (.ref a.f_l_tokens)
  b_l_tokens : Binds K a.d_l_tokens ["_law_text_here", "_law_number_here"] []
  F_l_number : Fun K "_law_number" "_law_number" s_l_number a.f_l_number a.d_l_number
  m_l_number : mg "_law_number" = some (.ref a.f_l_number)
  b_l_number : Binds K a.d_l_number ["_law_state_here"] []
  F_l_written : Fun K "_law_written" "_law_written" s_l_written a.f_l_written a.d_l_written
  m_l_written : mg "_law_written" = some (.ref a.f_l_written)
  b_l_written : Binds K a.d_l_written ["_law_state_here", "_law_low", "_law_high"] []
  F_l_value : Fun K "_law_value" "_law_value" s_l_value a.f_l_value a.d_l_value
  m_l_value : mg "_law_value" = some (.ref a.f_l_value)
  b_l_value : Binds K a.d_l_value ["_law_text_here", "_law_low", "_law_high"] []
  F_l_read : Fun K "_law_read" "_law_read" s_l_read a.f_l_read a.d_l_read
  m_l_read : mg "_law_read" = some (.ref a.f_l_read)
  b_l_read : Binds K a.d_l_read ["_law_text_here", "_law_low", "_law_high", "_law_number_here"] []
  F_l_numbers_right : Fun K "_law_numbers_right" "_law_numbers_right" s_l_numbers_right a.f_l_numbers_right a.d_l_numbers_right
  m_l_numbers_right : mg "_law_numbers_right" = some (.ref a.f_l_numbers_right)
  b_l_numbers_right : Binds K a.d_l_numbers_right ["_law_state_here", "_law_low", "_law_high", "_law_number_here"] []
  F_l_whole_right : Fun K "_law_whole_right" "_law_whole_right" s_l_whole_right a.f_l_whole_right a.d_l_whole_right
  m_l_whole_right : mg "_law_whole_right" = some (.ref a.f_l_whole_right)
  b_l_whole_right : Binds K a.d_l_whole_right ["_law_state_here", "_law_low", "_law_high"] []
  F_law : Fun K "law" "law" s_law a.f_law a.d_law
  m_law : mg "law" = some (.ref a.f_law)
  b_law : Binds K a.d_law ["_law_script"] []
  m_LookerError : mg "LookerError" = some (.ref a.c_LookerError)
  m_BadText : mg "BadText" = some (.ref a.c_BadText)
  z_ValueError : mg "ValueError" = none
  z_all : mg "all" = none
  z_bool : mg "bool" = none
  z_int : mg "int" = none
  z_isinstance : mg "isinstance" = none
  z_len : mg "len" = none
  z_list : mg "list" = none
  z_max : mg "max" = none
  z_min : mg "min" = none
  z_range : mg "range" = none
  z_str : mg "str" = none
  z_tuple : mg "tuple" = none
end K5

namespace K5
open PySem PySem.Spec PyProof.Rows L2
section
variable {P : Program} {w : World} {K : PySem.W.Frag} {mg : Str → Option Value} {base : Heap} {a : Ad}
/-- no list, tuple or dict is an int or a truth value: what x is, by its type t -/
def spIsInt (K : PySem.W.Frag) : Sp := fun vs H Q _ => ∃ (x : V) (t : String) (b c : Bool), vs = [x] ∧ TyX K H x (.type t) ∧ kitB t "int" = some b ∧ kitB t "bool" = some c ∧ Q (.bl (b && !c)) H
theorem ok_is_int (T : Top K mg a) : FnOk P w K mg base CX0 1 a.f_is_int a.d_is_int ["value"] (spIsInt K) := by
  refine T.F_is_int.ok sc_is_int (fun vs H Q E h => ?_) (fun cdv A outer s H vs Q E hr h => ?_)
  · obtain ⟨x, t, b, c, rfl, _⟩ := h
    rfl
  · obtain ⟨x, t, b, c, rfl, ht, hb, hc, q⟩ := h
    refine ⟨_, (pss_one (ps_ret (pe_and (pe_callB call_isi (by rfl) T.z_isinstance (by decide +kernel) (pa_cons (pv 0) (pa_cons (pe_bltn (v := .ty "int") (by rfl) T.z_int (by decide +kernel) rfl) pa_nil))) (pe_one (pe_not (pe_callB call_isi (by rfl) T.z_isinstance (by decide +kernel) (pa_cons (pv 0) (pa_cons (pe_bltn (v := .ty "bool") (by rfl) T.z_bool (by decide +kernel) rfl) pa_nil)))))))), ?_⟩
    refine ⟨x, rfl, x, .ty "int", .type t, .type "int", b, rfl, .ty _, ht, kit_ty hb, b, rfl, ?_⟩
    cases b with
    | false => exact q
    | true =>
      refine iteT ⟨x, rfl, x, .ty "bool", .type t, .type "bool", c, rfl, .ty _, ht, kit_ty hc, c, rfl, ?_⟩
      simpa using q
end
end K5

namespace K5
open PySem PySem.Spec PyProof.Rows L2
section
variable {P : Program} {w : World} {K : PySem.W.Frag} {mg : Str → Option Value} {base : Heap} {a : Ad}
/-- the drawing state at st -/
structure Sta (H : Hp) (st : Addr) : Prop where
  ex : ∃ (sc : Addr) (ns : List Int) (i b s l : Int), sc ≠ st ∧ H st = some (.lst [.ref sc, .int i, .int b, .int s, .int l]) ∧ H sc = some (.lst (ns.map V.int)) ∧ 0 ≤ i ∧ 0 ≤ b ∧ 0 ≤ s ∧ s < 10 ^ 18 ∧ 0 ≤ l ∧ l ≤ 6
/-- all else stays -/
def Kp (st : Addr) (H H' : Hp) : Prop := ∀ b o, b ≠ st → H b = some o → H' b = some o
theorem Kp.refl (st : Addr) (H : Hp) : Kp st H H := fun _ _ _ h => h
theorem Kp.trans {st : Addr} {H H1 H2 : Hp} (x : Kp st H H1) (y : Kp st H1 H2) : Kp st H H2 := fun b o n h => y b o n (x b o n h)
theorem Kp.put {st : Addr} {H H1 : Hp} {o : HO} (x : Kp st H H1) : Kp st H (upd H1 st o) := fun b u n h => by
  rw [upd_ne n]
  exact x b u n h
theorem Same.kp {st : Addr} {H H' : Hp} (h : Same H H') : Kp st H H' := fun b o _ e => h b o e
def spDraw : Sp := fun vs H Q _ => ∃ (st : Addr) (m : Int), vs = [.ref st, .int m] ∧ Sta H st ∧ 1 ≤ m ∧ m < 2 ^ 60 ∧ ∀ H' v, Kp st H H' → Sta H' st → 0 ≤ v → v < m → Q (.int v) H'
theorem ixv {K : PySem.W.Frag} {i : Nat} {p : Addr} {xs : List V} {v : V} {σ : L2.St} {H : Hp} {Q : VK} (j : Nat) (h0 : σ[i]? = some (some (.ref p))) (h : SqL K H p xs) (e : xs[j]? = some v) (q : Q v H) : tOp (rIx K) (tVar i) (tC (.int (j : Int))) σ H Q :=
  ⟨.ref p, h0, .inl ⟨p, xs, j, v, rfl, rfl, h, atI_nat e, q⟩⟩
theorem eqi {K : PySem.W.Frag} {x y : Int} {H : Hp} {Q : Bool → Hp → Prop} (q : Q (decide (x = y)) H) : (fun x y H Q => rEq x y H Q ∨ rEqD K x y H Q) (.int x) (.int y) H (fun z H' => ∃ k, z = .bl k ∧ Q k H') := .inl ⟨rfl, _, rfl, by
  have e : decide (V.int x = V.int y) = decide (x = y) := by
    by_cases h : x = y
    · rw [decide_eq_true h, decide_eq_true (by rw [h])]
    · rw [decide_eq_false h, decide_eq_false (fun z => h (V.int.inj z))]
  rw [e]; exact q⟩
theorem setv {p : Addr} {xs : List V} {v : V} {H : Hp} {Q : Hp → Prop} (j : Nat) (h : H p = some (.lst xs)) (hj : j < xs.length) (q : Q (upd H p (.lst (xs.set j v)))) : rSetL (.ref p) (.int (j : Int)) v H Q := ⟨p, xs, j, j, rfl, rfl, h, by
  unfold ixN
  rw [if_pos (by omega), if_pos (by omega)]
  simp, q⟩
theorem sta_cell {H : Hp} {st : Addr} {xs : List V} {j : Nat} {v : V} (h : H st = some (.lst xs)) (e : xs[j]? = some v) : (∃ (p : Addr) (ys : List V) (i : Int) (u : V), V.ref st = .ref p ∧ V.int (j : Int) = .int i ∧ SqL K H p ys ∧ atI ys i = some u ∧ u = v) := ⟨st, xs, j, v, rfl, rfl, SqL.of h, atI_nat e, rfl⟩
theorem ok_draw (T : Top K mg a) : FnOk P w K mg base CX0 1 a.f_l_draw a.d_l_draw ["_law_state_here", "_law_many"] spDraw := by
  refine T.F_l_draw.ok sc_l_draw (fun vs H Q E h => ?_) (fun cdv A outer s H vs Q E hr h => ?_)
  · obtain ⟨st, m, rfl, _⟩ := h
    rfl
  · obtain ⟨st, m, rfl, ⟨sc, ns, i, b, s, l, hne, hst, hsc, hi, hb, hs0, hs1, hl0, hl1⟩, hm0, hm1, q⟩ := h
    refine ⟨_, (pss_cons (ps_if (pt_cmpR (OpR.or op_lt op_lt_str) (pv 1) pe_int (nomark _))
      (pss_one (ps_ret pe_int))
      pss_nil)
    (C8.pss_cut (ps_if (PW.pt (pw_and (pt_cmpR (OpR.or op_eq (op_eqD hr.units)) (pe_ix ix_seq (pv 0) pe_int (fun _ _ => rfl)) pe_int (nomark _)) (pw_and (pt_cmpR (OpR.or op_eq (op_eqD hr.units)) (pe_ix ix_seq (pv 0) pe_int (fun _ _ => rfl)) pe_int (nomark _)) (pw_and1 (pt_cmpR (OpR.or op_lt op_lt_str) (pe_ix ix_seq (pv 0) pe_int (fun _ _ => rfl)) (pe_callB (CallR.or call_len_str call_len_seq) (by rfl) T.z_len (by decide +kernel) (pa_cons (pe_ix ix_seq (pv 0) pe_int (fun _ _ => rfl)) pa_nil)) (nomark _))))))
      (pss_cons (ps_set (i := 2) sc_l_draw.nd rfl (.inl rfl) (pe_ix ix_seq (pe_ix ix_seq (pv 0) pe_int (fun _ _ => rfl)) (pe_ix ix_seq (pv 0) pe_int (fun _ _ => rfl)) (fun _ _ => rfl)))
      (pss_cons (ps_asg (pe_op (OpR.or op_add (OpR.or op_add_str (OpR.or op_cat op_catT))) (pe_ix ix_seq (pv 0) pe_int (fun _ _ => rfl)) pe_int) (pg_sub (pv 0) pe_int set_list))
      (pss_cons (ps_if (pt_cmpR (OpR.or op_lt op_lt_str) (pv 2) pe_int (nomark _))
        (pss_one (ps_set (i := 2) sc_l_draw.nd rfl (.inl rfl) (pe_op op_sub pe_int (pe_op (OpR.or op_mul op_mulW) pe_int (pv 2)))))
        pss_nil)
      (pss_one (ps_if (pt_cmpR (OpR.or op_ge op_ge_str) (pv 2) (pe_op op_pow pe_int pe_int) (nomark _))
        (pss_one (ps_asg (pv 2) (pg_sub (pv 0) pe_int set_list)))
        (pss_cons (ps_asg (pv 2) (pg_sub (pv 0) pe_int set_list))
        (pss_one (ps_asg pe_int (pg_sub (pv 0) pe_int set_list)))))))))
      pss_nil)
    (pss_cons (ps_if (pt_cmpR (OpR.or op_gt op_gt_str) (pe_ix ix_seq (pv 0) pe_int (fun _ _ => rfl)) pe_int (nomark _))
      (pss_cons (ps_set (i := 3) sc_l_draw.nd rfl (.inl rfl) (pe_op op_mod (pe_callTy (CallR.or call_int1 call_int_str) (by rfl) T.z_int (by decide +kernel) (pa_cons (pe_ix ix_seq (pv 0) pe_int (fun _ _ => rfl)) pa_nil)) (pv 1)))
      (pss_cons (ps_asg (pe_op op_fdivW (pe_ix ix_seq (pv 0) pe_int (fun _ _ => rfl)) (pv 1)) (pg_sub (pv 0) pe_int set_list))
      (pss_one (ps_ret (pv 3)))))
      pss_nil)
    (pss_cons (ps_if (pt_cmpR (OpR.or op_gt op_gt_str) (pe_ix ix_seq (pv 0) pe_int (fun _ _ => rfl)) pe_int (nomark _))
      (pss_cons (ps_asg (pe_op op_sub (pe_ix ix_seq (pv 0) pe_int (fun _ _ => rfl)) pe_int) (pg_sub (pv 0) pe_int set_list))
      (pss_cons (ps_set (i := 4) sc_l_draw.nd rfl (.inl rfl) (pe_op op_mod (pe_callTy (CallR.or call_int1 call_int_str) (by rfl) T.z_int (by decide +kernel) (pa_cons (pe_op (OpR.or op_mul op_mulW) (pe_ix ix_seq (pv 0) pe_int (fun _ _ => rfl)) (pe_op (OpR.or op_add (OpR.or op_add_str (OpR.or op_cat op_catT))) pe_int (pe_op (OpR.or op_mul op_mulW) pe_int (pe_ix ix_seq (pv 0) pe_int (fun _ _ => rfl))))) pa_nil)) pe_int))
      (pss_cons (ps_set (i := 4) sc_l_draw.nd rfl (.inl rfl) (pe_op op_mod (pe_callTy (CallR.or call_int1 call_int_str) (by rfl) T.z_int (by decide +kernel) (pa_cons (pe_op (OpR.or op_mul op_mulW) (pv 4) (pe_op (OpR.or op_add (OpR.or op_add_str (OpR.or op_cat op_catT))) pe_int (pe_ix ix_seq (pv 0) pe_int (fun _ _ => rfl)))) pa_nil)) pe_int))
      (pss_one (ps_ret (pe_op op_mod (pe_callTy (CallR.or call_int1 call_int_str) (by rfl) T.z_int (by decide +kernel) (pa_cons (pv 4) pa_nil)) (pv 1)))))))
      pss_nil)
    (pss_one (ps_ret pe_int)))))), ?_⟩
    refine ⟨.int m, rfl, .inl ⟨m, 2, rfl, rfl, _, rfl, ite2 (fun e => ?_) (fun e => ?_)⟩⟩
    · exact q H 0 (Kp.refl _ _) ⟨sc, ns, i, b, s, l, hne, hst, hsc, hi, hb, hs0, hs1, hl0, hl1⟩ (by omega) (by omega)
    · have hm2 : 2 ≤ m := by
        have := of_decide_eq_false (Bool.eq_false_iff.mpr e)
        omega
      refine ⟨fun σ' H' => ∃ y2 y3 y4, σ' = [some (.ref st), some (.int m), y2, y3, y4] ∧ Kp st H H' ∧ Sta H' st, ?_, ?_⟩
      · -- load
        have S0 : Sta H st := ⟨sc, ns, i, b, s, l, hne, hst, hsc, hi, hb, hs0, hs1, hl0, hl1⟩
        refine ixv 2 rfl (SqL.of hst) rfl (eqi (ite2 (fun e1 => ?_) (fun e1 => ?_)))
        rotate_left
        · exact iteF ⟨_, _, _, rfl, Kp.refl _ _, S0⟩
        refine ixv 4 rfl (SqL.of hst) rfl (eqi (ite2 (fun e2 => ?_) (fun e2 => ?_)))
        rotate_left
        · exact iteF ⟨_, _, _, rfl, Kp.refl _ _, S0⟩
        refine ixv 1 rfl (SqL.of hst) rfl (ixv 0 rfl (SqL.of hst) rfl (.inr ⟨sc, _, rfl, .inl (SqL.of hsc), .inl ⟨i, _, rfl, rfl, _, rfl, ite2 (fun e3 => ?_) (fun e3 => ?_)⟩⟩))
        rotate_left
        · exact ⟨_, _, _, rfl, Kp.refl _ _, S0⟩
        have h3 : i < ns.length := by
          have := of_decide_eq_true e3
          simpa using this
        obtain ⟨j, rfl⟩ : ∃ j : Nat, i = j := ⟨i.toNat, by omega⟩
        have hj : j < ns.length := by omega
        refine ixv 0 rfl (SqL.of hst) rfl (ixv 1 rfl (SqL.of hst) rfl (.inl ⟨sc, _, _, .int ns[j], rfl, rfl, SqL.of hsc, atI_nat (by simp [hj]), ?_⟩))
        refine ixv 1 rfl (SqL.of hst) rfl (.inl ⟨_, 1, rfl, rfl, ?_⟩)
        refine ⟨.ref st, rfl, setv 1 hst (by simp) ?_⟩
        -- the cell, not below 0
        have tail : ∀ (c : Int) (y3 y4 : Option V), 0 ≤ c → tIfS (tTest (tOp (fun x y H Q => rI0 (fun i j => V.bl (decide (j ≤ i))) x y H Q ∨ ∃ i j, x = V.str i ∧ y = V.str j ∧ Q (V.bl (!decide (i.cps.toList < j.cps.toList))) H) (tVar 2) (tOp (rI CPow fun i j => V.int (i ^ j.toNat)) (tC (.int 10)) (tC (.int 18)))))
            (tAsg (tVar 2) (gSub (tVar 0) (tC (.int 2)) rSetL)) (tSeq (tAsg (tVar 2) (gSub (tVar 0) (tC (.int 3)) rSetL)) (tAsg (tC (.int 6)) (gSub (tVar 0) (tC (.int 4)) rSetL)))
            { nx := fun σ' H' => ∃ y2 y3 y4, σ' = [some (.ref st), some (.int m), y2, y3, y4] ∧ Kp st H H' ∧ Sta H' st, rt := Q } [some (.ref st), some (.int m), some (.int c), y3, y4] (upd H st (.lst [.ref sc, .int (j + 1), .int b, .int s, .int l])) := by
          intro c y3 y4 hc
          have hsc' : (upd H st (.lst [.ref sc, .int (j + 1), .int b, .int s, .int l])) sc = some (.lst (ns.map V.int)) := by
            rw [upd_ne hne]; exact hsc
          refine ⟨.int c, rfl, 10, 18, rfl, rfl, ⟨by decide, by decide⟩, .inl ⟨c, _, rfl, rfl, _, rfl, ite2 (fun e => ?_) (fun e => ?_)⟩⟩
          · refine ⟨.int c, rfl, .ref st, rfl, setv 2 upd_same (by simp) ?_⟩
            refine ⟨_, _, _, rfl, (Kp.refl _ _).put.put, sc, ns, j + 1, c, s, l, hne, upd_same, ?_, by omega, hc, hs0, hs1, hl0, hl1⟩
            rw [upd_ne hne]; exact hsc'
          · have hlt : c < 10 ^ 18 := by
              have := of_decide_eq_false (Bool.eq_false_iff.mpr e)
              have e18 : (10 : Int) ^ (18 : Int).toNat = 10 ^ 18 := rfl
              rw [e18] at this
              omega
            refine ⟨.int c, rfl, .ref st, rfl, setv 3 upd_same (by simp) ?_⟩
            refine ⟨.ref st, rfl, setv 4 upd_same (by simp) ?_⟩
            refine ⟨_, _, _, rfl, (Kp.refl _ _).put.put.put, sc, ns, j + 1, b, c, 6, hne, upd_same, ?_, by omega, hb, hc, hlt, by omega, by omega⟩
            rw [upd_ne hne, upd_ne hne]; exact hsc'
        refine ⟨.int ns[j], rfl, .inl ⟨_, 0, rfl, rfl, _, rfl, ite2 (fun e => ?_) (fun e => ?_)⟩⟩
        · have hneg : ns[j] < 0 := of_decide_eq_true e
          refine ⟨.int ns[j], rfl, .inl ⟨2, _, rfl, rfl, .inl ⟨by decide, by decide⟩, 1, _, rfl, rfl, ?_⟩⟩
          exact tail (1 - 2 * ns[j]) _ _ (by omega)
        · have hpos : ¬ ns[j] < 0 := of_decide_eq_false (Bool.eq_false_iff.mpr e)
          exact tail ns[j] _ _ (by omega)
      · rintro σ' H1 ⟨y2, y3, y4, rfl, hk, sc, ns, i, b, s, l, hne, hst, hsc, hi, hb, hs0, hs1, hl0, hl1⟩
        have hsc2 : ∀ o, (upd H1 st o) sc = some (.lst (ns.map V.int)) := fun o => by
          rw [upd_ne hne]; exact hsc
        refine ixv 2 rfl (SqL.of hst) rfl (.inl ⟨b, 0, rfl, rfl, _, rfl, ite2 (fun e => ?_) (fun e => ?_)⟩)
        · have hb1 : 0 < b := of_decide_eq_true e
          refine ixv 2 rfl (SqL.of hst) rfl (.inl (.inl ⟨b, rfl, .int m, rfl, b, m, rfl, rfl, by omega, ?_⟩))
          refine ixv 2 rfl (SqL.of hst) rfl ⟨.int m, rfl, b, m, rfl, rfl, wide_div (b := 60) (by omega) (by omega) (by decide) (by decide), .ref st, rfl, setv 2 hst (by simp) ?_⟩
          refine ⟨.int (b % m), rfl, q _ _ hk.put ⟨sc, ns, i, b / m, s, l, hne, upd_same, hsc2 _, hi, Int.ediv_nonneg hb (by omega), hs0, hs1, hl0, hl1⟩ (Int.emod_nonneg _ (by omega)) (Int.emod_lt_of_pos _ (by omega))⟩
        · refine ixv 4 rfl (SqL.of hst) rfl (.inl ⟨l, 0, rfl, rfl, _, rfl, ite2 (fun e2 => ?_) (fun e2 => ?_)⟩)
          · have hl2 : 0 < l := of_decide_eq_true e2
            refine ixv 4 rfl (SqL.of hst) rfl ⟨l, 1, rfl, rfl, .ref st, rfl, setv 4 hst (by simp) ?_⟩
            have hA : (upd H1 st (.lst [.ref sc, .int i, .int b, .int s, .int (l - 1)])) st = some (.lst [.ref sc, .int i, .int b, .int s, .int (l - 1)]) := upd_same
            refine ixv 3 rfl (SqL.of hA) rfl (ixv 4 rfl (SqL.of hA) rfl (.inl ⟨2, l - 1, rfl, rfl, .inl ⟨by decide, by decide⟩, ?_⟩))
            refine .inl ⟨48271, _, rfl, rfl, .inl ⟨s, _, rfl, rfl, .inl ⟨by omega, by omega⟩, ?_⟩⟩
            refine .inl (.inl ⟨_, rfl, _, 2147483647, rfl, rfl, by (show (0 : Int) < _; decide), ?_⟩)
            have h4 := Int.emod_nonneg (s * (48271 + 2 * (l - 1))) (show (2147483647 : Int) ≠ 0 by decide)
            have h5 := Int.emod_lt_of_pos (s * (48271 + 2 * (l - 1))) (show (0 : Int) < 2147483647 by decide)
            refine ⟨.int (s * (48271 + 2 * (l - 1)) % 2147483647), rfl, ixv 4 rfl (SqL.of hA) rfl (.inl ⟨16807, l - 1, rfl, rfl, .inl ⟨_, _, rfl, rfl, .inl ⟨by omega, by omega⟩, ?_⟩⟩)⟩
            refine .inl (.inl ⟨_, rfl, _, 1000003, rfl, rfl, by (show (0 : Int) < _; decide), ?_⟩)
            refine ⟨_, rfl, .inl (.inl ⟨_, rfl, .int m, rfl, _, m, rfl, rfl, by omega, ?_⟩)⟩
            exact q _ _ hk.put ⟨sc, ns, i, b, s, l - 1, hne, upd_same, hsc2 _, hi, hb, hs0, hs1, by omega, by omega⟩ (Int.emod_nonneg _ (by omega)) (Int.emod_lt_of_pos _ (by omega))
          · exact q _ _ hk ⟨sc, ns, i, b, s, l, hne, hst, hsc, hi, hb, hs0, hs1, hl0, hl1⟩ (by omega) (by omega)
end
end K5


namespace K5
open PySem PySem.Spec PyProof.Rows L2
section
variable {P : Program} {w : World} {K : PySem.W.Frag} {mg : Str → Option Value} {base : Heap} {a : Ad}
def spState (K : PySem.W.Frag) : Sp := fun vs H Q _ => ∃ (p : Addr) (ns : List Int), vs = [.ref p] ∧ SqL K H p (ns.map V.int) ∧ ∀ H' st, H st = none → Same H H' → Sta H' st → Q (.ref st) H'
theorem same_upd {H : Hp} {p : Addr} {o : HO} (h : H p = none) : Same H (upd H p o) := fun b x e => by
  rw [upd_ne (ne_of_none e h)]
  exact e
theorem ok_state (T : Top K mg a) : FnOk P w K mg base CX0 1 a.f_l_state a.d_l_state ["_law_script"] (spState K) := by
  refine T.F_l_state.ok sc_l_state (fun vs H Q E h => ?_) (fun cdv A outer s H vs Q E hr h => ?_)
  · obtain ⟨st, m, rfl, _⟩ := h
    rfl
  · obtain ⟨p, ns, rfl, hS, q⟩ := h
    refine ⟨_, (pss_one (ps_ret (pe_lst (pa_cons (pe_callTy call_list_of (by rfl) T.z_list (by decide +kernel) (pa_cons (pv 0) pa_nil)) (pa_cons pe_int (pa_cons pe_int (pa_cons pe_int (pa_cons pe_int pa_nil)))))))), ?_⟩
    refine ⟨.ref p, rfl, p, _, rfl, .inl hS, fun sc nsc => ?_⟩
    refine ⟨by show 5 ≤ sizeLine; decide, fun st nst => ?_⟩
    have hne : sc ≠ st := fun e => by
      rw [← e, upd_same] at nst
      cases nst
    have n0 : H st = none := by
      rw [upd_ne (Ne.symm hne)] at nst
      exact nst
    refine q _ st n0 ((same_upd nsc).trans (same_upd nst)) ⟨sc, ns, 0, 0, 0, 0, hne, upd_same, ?_, by omega, by omega, by omega, by decide, by omega, by omega⟩
    rw [upd_ne hne, upd_same]
/-- _law_wide -/
def spWide : Sp := fun vs H Q _ => ∃ (st : Addr) (m : Int), vs = [.ref st, .int m] ∧ Sta H st ∧ 1 ≤ m ∧ ∀ H' v, Kp st H H' → Sta H' st → 0 ≤ v → v < m → Q (.int v) H'
theorem ok_wide (T : Top K mg a) : FnOk P w K mg base CX0 2 a.f_l_wide a.d_l_wide ["_law_feed", "_law_many"] spWide := by
  have G_l_draw := ok_draw (P := P) (w := w) (base := base) T
  refine T.F_l_wide.ok sc_l_wide (fun vs H Q E h => ?_) (fun cdv A outer s H vs Q E hr h => ?_)
  · obtain ⟨st, m, rfl, _⟩ := h
    rfl
  · obtain ⟨st, m, rfl, S, hm, q⟩ := h
    refine ⟨_, (pss_one (ps_ret (pe_op op_mod (pe_callTy (CallR.or call_int1 call_int_str) (by rfl) T.z_int (by decide +kernel) (pa_cons (pe_op (OpR.or op_add (OpR.or op_add_str (OpR.or op_cat op_catT))) (pe_op (OpR.or op_mul op_mulW) pe_int (pe_call G_l_draw (hr.mono (by decide)) (by rfl) T.m_l_draw T.F_l_draw.kp T.b_l_draw .nil pass0 (pa_cons (pv 0) (pa_cons pe_int pa_nil)))) (pe_call G_l_draw (hr.mono (by decide)) (by rfl) T.m_l_draw T.F_l_draw.kp T.b_l_draw .nil pass0 (pa_cons (pv 0) (pa_cons pe_int pa_nil)))) pa_nil)) (pv 1)))), ?_⟩
    refine ⟨.ref st, rfl, st, 60, rfl, S, by decide, by decide, fun H1 v1 k1 S1 a1 b1 => ?_⟩
    refine .inl ⟨60, v1, rfl, rfl, .inl ⟨by decide, by decide⟩, ?_⟩
    refine ⟨.ref st, rfl, st, 60, rfl, S1, by decide, by decide, fun H2 v2 k2 S2 a2 b2 => ?_⟩
    refine .inl ⟨60 * v1, v2, rfl, rfl, .inl (.inl ⟨_, rfl, .int m, rfl, _, m, rfl, rfl, by omega, ?_⟩)⟩
    exact q _ _ (k1.trans k2) S2 (Int.emod_nonneg _ (by omega)) (Int.emod_lt_of_pos _ (by omega))
/-! ### alike -/
theorem tyx_l {H : Hp} {p : Addr} {xs : List V} (h : SqL K H p xs) : TyX K H (.ref p) (.type "list") := by
  rcases h with (h | ⟨o, h⟩) | ⟨o, its, n, h, hc, _⟩
  · exact .base (.lst h)
  · exact .base (.frz h)
  · exact .kList h hc
theorem tyx_t {H : Hp} {p : Addr} {xs : List V} (h : SqT K H p xs) : TyX K H (.ref p) (.type "tuple") := by
  rcases h with (h | ⟨o, h⟩) | ⟨o, its, n, h, hc, _⟩
  · exact .base (.tup h)
  · exact .fTuple h
  · exact .kTuple h hc
/-- alike by one more layer -/
inductive SmS (K : PySem.W.Frag) (R : Hp → V → V → Prop) (H : Hp) : V → V → Prop where
  | non : SmS K R H .non .non
  | bl (b : Bool) : SmS K R H (.bl b) (.bl b)
  | int (i : Int) : SmS K R H (.int i) (.int i)
  | str (x : Str) : SmS K R H (.str x) (.str x)
  | lst {p q : Addr} {xs ys : List V} (hx : SqL K H p xs) (hy : SqL K H q ys) (l : xs.length = ys.length) (lt : xs.length ≤ 1000000) (r : ∀ (i : Nat) x y, xs[i]? = some x → ys[i]? = some y → R H x y) : SmS K R H (.ref p) (.ref q)
  | tup {p q : Addr} {xs ys : List V} (hx : SqT K H p xs) (hy : SqT K H q ys) (l : xs.length = ys.length) (lt : xs.length ≤ 1000000) (r : ∀ (i : Nat) x y, xs[i]? = some x → ys[i]? = some y → R H x y) : SmS K R H (.ref p) (.ref q)
def Sm (K : PySem.W.Frag) : Nat → Hp → V → V → Prop
  | 0 => fun _ _ _ => False
  | n + 1 => SmS K (Sm K n)
def spAl (R : Hp → V → V → Prop) : Sp := fun vs H Q _ => ∃ x y, vs = [x, y] ∧ R H x y ∧ Q (.bl true) H
theorem isiv {K : PySem.W.Frag} {σ : L2.St} {H : Hp} {i : Nat} {x : V} {t c : String} {b : Bool} {Q : VK} (h0 : σ[i]? = some (some x)) (ht : TyX K H x (.type t)) (hb : kitB t c = some b) (q : Q (.bl b) H) : tCB (rIsi K) (tCons (tVar i) (tCons (tC (.ty c)) tNil)) σ H Q :=
  ⟨x, h0, x, .ty c, .type t, .type c, b, rfl, .ty _, ht, kit_ty hb, q⟩
theorem isit {K : PySem.W.Frag} {σ : L2.St} {H : Hp} {i : Nat} {x : V} {t c : String} {b : Bool} {Q : Bool → Hp → Prop} (h0 : σ[i]? = some (some x)) (ht : TyX K H x (.type t)) (hb : kitB t c = some b) (q : Q b H) : tB (tCB (rIsi K) (tCons (tVar i) (tCons (tC (.ty c)) tNil))) σ H Q :=
  isiv h0 ht hb ⟨b, rfl, q⟩
theorem al_step {k : Nat} {R : Hp → V → V → Prop} (T : Top K mg a) (G_l_alike : FnOk P w K mg base CX0 k a.f_l_alike a.d_l_alike ["_law_actual", "_law_due"] (spAl R)) : FnOk P w K mg base CX0 (k + 1) a.f_l_alike a.d_l_alike ["_law_actual", "_law_due"] (spAl (SmS K R)) := by
  refine T.F_l_alike.ok sc_l_alike (fun vs H Q E h => ?_) (fun cdv A outer s H vs Q E hr h => ?_)
  · obtain ⟨x, y, rfl, _⟩ := h
    rfl
  · obtain ⟨x, y, rfl, S, q⟩ := h
    refine ⟨_, (pss_cons (ps_if (pt_cmpR op_isN (pv 1) pe_non (nomark _))
      (pss_one (ps_ret (pe_cmpR op_isN (pv 0) pe_non (nomark _))))
      pss_nil)
    (pss_cons (ps_if (PW.pt (pw_or (pt_val (pe_callB call_isi (by rfl) T.z_isinstance (by decide +kernel) (pa_cons (pv 1) (pa_cons (pe_bltn (v := .ty "bool") (by rfl) T.z_bool (by decide +kernel) rfl) pa_nil)))) (pw_or1 (pt_val (pe_callB call_isi (by rfl) T.z_isinstance (by decide +kernel) (pa_cons (pv 0) (pa_cons (pe_bltn (v := .ty "bool") (by rfl) T.z_bool (by decide +kernel) rfl) pa_nil)))))))
      (pss_one (ps_ret (pe_and (pe_callB call_isi (by rfl) T.z_isinstance (by decide +kernel) (pa_cons (pv 1) (pa_cons (pe_bltn (v := .ty "bool") (by rfl) T.z_bool (by decide +kernel) rfl) pa_nil))) (pe_and (pe_callB call_isi (by rfl) T.z_isinstance (by decide +kernel) (pa_cons (pv 0) (pa_cons (pe_bltn (v := .ty "bool") (by rfl) T.z_bool (by decide +kernel) rfl) pa_nil))) (pe_one (pe_cmpR (OpR.or op_eq (op_eqD hr.units)) (pv 0) (pv 1) (nomark _)))))))
      pss_nil)
    (pss_cons (ps_if (pt_val (pe_callB call_isi (by rfl) T.z_isinstance (by decide +kernel) (pa_cons (pv 1) (pa_cons (pe_bltn (v := .ty "int") (by rfl) T.z_int (by decide +kernel) rfl) pa_nil))))
      (pss_one (ps_ret (pe_and (pe_callB call_isi (by rfl) T.z_isinstance (by decide +kernel) (pa_cons (pv 0) (pa_cons (pe_bltn (v := .ty "int") (by rfl) T.z_int (by decide +kernel) rfl) pa_nil))) (pe_one (pe_cmpR (OpR.or op_eq (op_eqD hr.units)) (pv 0) (pv 1) (nomark _))))))
      pss_nil)
    (pss_cons (ps_if (pt_val (pe_callB call_isi (by rfl) T.z_isinstance (by decide +kernel) (pa_cons (pv 1) (pa_cons (pe_bltn (v := .ty "str") (by rfl) T.z_str (by decide +kernel) rfl) pa_nil))))
      (pss_one (ps_ret (pe_and (pe_callB call_isi (by rfl) T.z_isinstance (by decide +kernel) (pa_cons (pv 0) (pa_cons (pe_bltn (v := .ty "str") (by rfl) T.z_str (by decide +kernel) rfl) pa_nil))) (pe_one (pe_cmpR (OpR.or op_eq (op_eqD hr.units)) (pv 0) (pv 1) (nomark _))))))
      pss_nil)
    (pss_cons (ps_if (pt_val (pe_callB call_isi (by rfl) T.z_isinstance (by decide +kernel) (pa_cons (pv 1) (pa_cons (pe_bltn (v := .ty "list") (by rfl) T.z_list (by decide +kernel) rfl) pa_nil))))
      (pss_one (ps_if (pt_not (pt_val (pe_callB call_isi (by rfl) T.z_isinstance (by decide +kernel) (pa_cons (pv 0) (pa_cons (pe_bltn (v := .ty "list") (by rfl) T.z_list (by decide +kernel) rfl) pa_nil)))))
        (pss_one (ps_ret pe_bl))
        pss_nil))
      (pss_one (ps_if (pt_not (pt_val (pe_callB call_isi (by rfl) T.z_isinstance (by decide +kernel) (pa_cons (pv 0) (pa_cons (pe_bltn (v := .ty "tuple") (by rfl) T.z_tuple (by decide +kernel) rfl) pa_nil)))))
        (pss_one (ps_ret pe_bl))
        pss_nil)))
    (pss_cons (ps_if (pt_cmpR (OpR.or op_ne (op_neD hr.units)) (pe_callB (CallR.or call_len_str call_len_seq) (by rfl) T.z_len (by decide +kernel) (pa_cons (pv 0) pa_nil)) (pe_callB (CallR.or call_len_str call_len_seq) (by rfl) T.z_len (by decide +kernel) (pa_cons (pv 1) pa_nil)) (nomark _))
      (pss_one (ps_ret pe_bl))
      pss_nil)
    (pss_cons (ps_for PassesOwn.never rfl (pi_range1 (by rfl) T.z_range (pa_cons (pe_callB (CallR.or call_len_str call_len_seq) (by rfl) T.z_len (by decide +kernel) (pa_cons (pv 1) pa_nil)) pa_nil)) (pg_name (i := 2) sc_l_alike.nd rfl (.inl rfl))
      (pss_one (ps_if (pt_not (pt_val (pe_call G_l_alike hr (by rfl) T.m_l_alike T.F_l_alike.kp T.b_l_alike .nil pass0 (pa_cons (pe_ix ix_seq (pv 0) (pv 2) (fun _ _ => rfl)) (pa_cons (pe_ix ix_seq (pv 1) (pv 2) (fun _ _ => rfl)) pa_nil)))))
        (pss_one (ps_ret pe_bl))
        pss_nil)))
    (pss_one (ps_ret pe_bl))))))))), ?_⟩
    cases S with
    | non => exact ⟨_, rfl, rfl, _, rfl, iteT ⟨_, rfl, rfl, q⟩⟩
    | bl b =>
      refine ⟨_, rfl, rfl, _, rfl, iteF ?_⟩
      refine isit rfl (.base (.bl b)) (b := true) (by decide +kernel) ?_
      refine isit rfl (.base (.bl b)) (b := true) (by decide +kernel) ?_
      refine isit rfl (.base (.bl b)) (b := true) (by decide +kernel) ?_
      refine ⟨_, rfl, _, rfl, .inl ⟨rfl, ?_⟩⟩
      rw [decide_eq_true rfl]
      exact q
    | int i =>
      refine ⟨_, rfl, rfl, _, rfl, iteF ?_⟩
      refine isit rfl (.base (.int i)) (b := false) (by decide +kernel) ?_
      refine isit rfl (.base (.int i)) (b := false) (by decide +kernel) ?_
      refine isit rfl (.base (.int i)) (b := true) (by decide +kernel) ?_
      refine isit rfl (.base (.int i)) (b := true) (by decide +kernel) ?_
      refine ⟨_, rfl, _, rfl, .inl ⟨rfl, ?_⟩⟩
      rw [decide_eq_true rfl]
      exact q
    | str z =>
      refine ⟨_, rfl, rfl, _, rfl, iteF ?_⟩
      refine isit rfl (.base (.str z)) (b := false) (by decide +kernel) ?_
      refine isit rfl (.base (.str z)) (b := false) (by decide +kernel) ?_
      refine isit rfl (.base (.str z)) (b := false) (by decide +kernel) ?_
      refine isit rfl (.base (.str z)) (b := true) (by decide +kernel) ?_
      refine isit rfl (.base (.str z)) (b := true) (by decide +kernel) ?_
      refine ⟨_, rfl, _, rfl, .inl ⟨rfl, ?_⟩⟩
      rw [decide_eq_true rfl]
      exact q
    | @lst p p' xs ys hx hy l lt r =>
      refine ⟨_, rfl, rfl, _, rfl, iteF ?_⟩
      refine isit rfl (tyx_l hy) (b := false) (by decide +kernel) ?_
      refine isit rfl (tyx_l hx) (b := false) (by decide +kernel) ?_
      refine isit rfl (tyx_l hy) (b := false) (by decide +kernel) ?_
      refine isit rfl (tyx_l hy) (b := false) (by decide +kernel) ?_
      refine isit rfl (tyx_l hy) (b := true) (by decide +kernel) ?_
      refine isit rfl (tyx_l hx) (b := true) (by decide +kernel) ?_
      refine ⟨_, rfl, .inr ⟨p, xs, rfl, .inl hx, _, rfl, .inr ⟨p', ys, rfl, .inl hy, .inl ⟨rfl, _, rfl, ?_⟩⟩⟩⟩
      rw [l]
      refine iteNS rfl ?_
      refine ⟨_, rfl, .inr ⟨p', ys, rfl, .inl hy, _, rfl, by omega, by omega, for_range (lo := 0) (n := ys.length) (fun i σ' H' => ∃ y2, σ' = [some (.ref p), some (.ref p'), y2] ∧ H' = H) ⟨_, rfl, rfl⟩ ?_ ?_⟩⟩
      · rintro i σ' H' hi ⟨y2, rfl, rfl⟩
        have h1 : xs[i]? = some xs[i] := List.getElem?_eq_getElem (by omega)
        have h2 : ys[i]? = some ys[i] := List.getElem?_eq_getElem hi
        rw [Int.zero_add]
        refine ⟨_, rfl, _, rfl, .inl ⟨p, xs, i, xs[i], rfl, rfl, hx, atI_nat h1, ?_⟩⟩
        refine ⟨_, rfl, _, rfl, .inl ⟨p', ys, i, ys[i], rfl, rfl, hy, atI_nat h2, ?_⟩⟩
        exact ⟨_, _, rfl, r i _ _ h1 h2, _, rfl, _, rfl, rfl⟩
      · rintro σ' H' ⟨y2, rfl, rfl⟩
        exact q
    | @tup p p' xs ys hx hy l lt r =>
      refine ⟨_, rfl, rfl, _, rfl, iteF ?_⟩
      refine isit rfl (tyx_t hy) (b := false) (by decide +kernel) ?_
      refine isit rfl (tyx_t hx) (b := false) (by decide +kernel) ?_
      refine isit rfl (tyx_t hy) (b := false) (by decide +kernel) ?_
      refine isit rfl (tyx_t hy) (b := false) (by decide +kernel) ?_
      refine isit rfl (tyx_t hy) (b := false) (by decide +kernel) ?_
      refine isit rfl (tyx_t hx) (b := true) (by decide +kernel) ?_
      refine ⟨_, rfl, .inr ⟨p, xs, rfl, .inr hx, _, rfl, .inr ⟨p', ys, rfl, .inr hy, .inl ⟨rfl, _, rfl, ?_⟩⟩⟩⟩
      rw [l]
      refine iteNS rfl ?_
      refine ⟨_, rfl, .inr ⟨p', ys, rfl, .inr hy, _, rfl, by omega, by omega, for_range (lo := 0) (n := ys.length) (fun i σ' H' => ∃ y2, σ' = [some (.ref p), some (.ref p'), y2] ∧ H' = H) ⟨_, rfl, rfl⟩ ?_ ?_⟩⟩
      · rintro i σ' H' hi ⟨y2, rfl, rfl⟩
        have h1 : xs[i]? = some xs[i] := List.getElem?_eq_getElem (by omega)
        have h2 : ys[i]? = some ys[i] := List.getElem?_eq_getElem hi
        rw [Int.zero_add]
        refine ⟨_, rfl, _, rfl, .inr (.inl ⟨p, xs, i, xs[i], rfl, rfl, hx, atI_nat h1, ?_⟩)⟩
        refine ⟨_, rfl, _, rfl, .inr (.inl ⟨p', ys, i, ys[i], rfl, rfl, hy, atI_nat h2, ?_⟩)⟩
        exact ⟨_, _, rfl, r i _ _ h1 h2, _, rfl, _, rfl, rfl⟩
      · rintro σ' H' ⟨y2, rfl, rfl⟩
        exact q
theorem ok_alike (T : Top K mg a) : ∀ n, FnOk P w K mg base CX0 n a.f_l_alike a.d_l_alike ["_law_actual", "_law_due"] (spAl (Sm K n))
  | 0 => ⟨fun vs H Q E h => by
      obtain ⟨x, y, rfl, h, _⟩ := h
      exact h.elim, fun A outer s H args us vs Q E hr he hb hv h => by
      obtain ⟨x, y, rfl, h, _⟩ := h
      exact h.elim⟩
  | n + 1 => al_step T (ok_alike T n)
end
end K5


namespace K5
open PySem PySem.Spec PyProof.Rows L2
/-! ### signs -/
def Dg (c : Nat) : Bool := decide (48 ≤ c) && decide (c ≤ 57)
def Lw (c : Nat) : Bool := decide (97 ≤ c) && decide (c ≤ 122)
def Wd (c : Nat) : Bool := Lw c || Dg c
theorem lt1 (c d : Nat) : decide (([c] : List Nat) < [d]) = decide (c < d) := by
  by_cases h : c < d
  · rw [decide_eq_true h]
    exact decide_eq_true (List.Lex.rel h)
  · rw [decide_eq_false h]
    refine decide_eq_false fun z => ?_
    cases z with
    | rel q => exact h q
    | cons q => cases q
theorem le1 (c d : Nat) : (!decide (([d] : List Nat) < [c])) = decide (c ≤ d) := by
  rw [lt1]
  by_cases h : c ≤ d
  · rw [decide_eq_true h, decide_eq_false (by omega)]
    rfl
  · rw [decide_eq_false h, decide_eq_true (by omega)]
    rfl
abbrev sg (c : Nat) : V := .str ⟨#[c]⟩
abbrev tx (cs : List Nat) : V := .str ⟨cs.toArray⟩
def initStmt : Stmt := inClass (topS 2) 0
theorem sc_init : FnScope ["self", "line"] ["self", "line"] (defScope initStmt) := ⟨rfl, rfl, rfl, by decide +kernel, rfl, by decide +kernel, by decide +kernel⟩
structure TopX (K : PySem.W.Frag) (a : Ad) (fI : Addr) (dI : FuncData) : Prop where
  ox : OexC K a.c_BadText
  iC : PySem.W.findIn K (.ref a.c_BadText) "__init__" = some (some (.ref fI))
  tI : PySem.W.typeIn K (.ref fI) = some (.type "function")
  noL : PySem.W.findIn K (.ref a.c_BadText) "line" = some none
  F_init : Fun K "__init__" "BadText.__init__" initStmt fI dI
  b_init : Binds K dI ["self", "line"] []
  xf : XfC K a.c_BadText
  te : PySem.W.exmOne K (.ref a.c_BadText) (.ref a.c_BadText) = some true
  su : PySem.W.kitCls K (.ref a.c_BadText) (.ref a.c_LookerError) = some true
section
variable {P : Program} {w : World} {K : PySem.W.Frag} {mg : Str → Option Value} {base : Heap} {a : Ad} {fI : Addr} {dI : FuncData}
theorem pass0F {X : Cx} : Passes CX0 X (fun _ _ _ => False) := fun _ _ _ _ _ _ _ h => h.elim
def spDig (f : Nat → Bool) : Sp := fun vs H Q _ => ∃ c, vs = [sg c] ∧ Q (.bl (f c)) H
theorem ok_is_digit (T : Top K mg a) : FnOk P w K mg base CX0 1 a.f_is_digit a.d_is_digit ["sign"] (spDig Dg) := by
  refine T.F_is_digit.ok sc_is_digit (fun vs H Q E h => ?_) (fun cdv A outer s H vs Q E hr h => ?_)
  · obtain ⟨c, rfl, _⟩ := h
    rfl
  · obtain ⟨c, rfl, q⟩ := h
    refine ⟨_, (pss_one (ps_ret (pe_chain (OpR.or op_le op_le_str) (OpR.or op_le op_le_str) pe_str (pv 0) pe_str))), ?_⟩
    refine ⟨_, rfl, .inr ⟨_, _, rfl, rfl, _, rfl, ?_⟩⟩
    have e1 : (!decide (([c] : List Nat) < [48])) = decide (48 ≤ c) := le1 48 c
    have e2 : (!decide (([57] : List Nat) < [c])) = decide (c ≤ 57) := le1 c 57
    show if (!decide (([c] : List Nat) < [48])) = true then _ else _
    rw [e1]
    refine ite2 (fun h1 => .inr ⟨_, _, rfl, rfl, ?_⟩) (fun h1 => ?_)
    · show Q (.bl (!decide (([57] : List Nat) < [c]))) H
      rw [e2]
      have : Dg c = decide (c ≤ 57) := by unfold Dg; rw [h1]; rfl
      rw [← this]; exact q
    · have : Dg c = false := by unfold Dg; rw [Bool.eq_false_iff.mpr h1]; rfl
      rw [this] at q; exact q
theorem ok_is_word (T : Top K mg a) : FnOk P w K mg base CX0 2 a.f_is_word_sign a.d_is_word_sign ["sign"] (spDig Wd) := by
  have G_is_digit := ok_is_digit (P := P) (w := w) (base := base) T
  refine T.F_is_word_sign.ok sc_is_word_sign (fun vs H Q E h => ?_) (fun cdv A outer s H vs Q E hr h => ?_)
  · obtain ⟨c, rfl, _⟩ := h
    rfl
  · obtain ⟨c, rfl, q⟩ := h
    refine ⟨_, (pss_one (ps_ret (pe_or (pe_chain (OpR.or op_le op_le_str) (OpR.or op_le op_le_str) pe_str (pv 0) pe_str) (pe_one (pe_call G_is_digit (hr.mono (by decide)) (by rfl) T.m_is_digit T.F_is_digit.kp T.b_is_digit .nil pass0 (pa_cons (pv 0) pa_nil)))))), ?_⟩
    have e1 : (!decide (([c] : List Nat) < [97])) = decide (97 ≤ c) := le1 97 c
    have e2 : (!decide (([122] : List Nat) < [c])) = decide (c ≤ 122) := le1 c 122
    have fin : ∀ b : Bool, b = Lw c → (∃ k, V.bl b = .bl k ∧ if k = true then Q (.bl true) H else tCall (spDig Dg) [] E0 (tCons (tVar 0) tNil) [some (sg c)] H Q) := fun b hb => by
      refine ⟨b, rfl, ite2 (fun h1 => ?_) (fun h1 => ?_)⟩
      · have : Wd c = true := by unfold Wd; rw [← hb, h1]; rfl
        rw [this] at q; exact q
      · refine ⟨_, rfl, c, rfl, ?_⟩
        have : Wd c = Dg c := by unfold Wd; rw [← hb, Bool.eq_false_iff.mpr h1]; rfl
        rw [← this]; exact q
    refine ⟨_, rfl, .inr ⟨_, _, rfl, rfl, _, rfl, ?_⟩⟩
    show if (!decide (([c] : List Nat) < [97])) = true then _ else _
    rw [e1]
    refine ite2 (fun h1 => .inr ⟨_, _, rfl, rfl, ?_⟩) (fun h1 => ?_)
    · refine fin _ ?_
      show (!decide (([122] : List Nat) < [c])) = _
      rw [e2]; unfold Lw; rw [h1]; rfl
    · refine fin false ?_
      unfold Lw; rw [Bool.eq_false_iff.mpr h1]; rfl
/-! ### the error -/
def spInit (K : PySem.W.Frag) (C : Addr) : Sp := fun vs H Q _ => ∃ (e : Addr) (v : V), vs = [.ref e, v] ∧ H e = some (exo e C none) ∧ ∀ dx, H dx = none → dx ≠ e → Q .non (upd (upd H dx (exd dx [("line", v)])) e (exo e C (some dx)))
theorem ok_init (TX : TopX K a fI dI) : FnOk P w K mg base CX0 1 fI dI ["self", "line"] (spInit K a.c_BadText) := by
  refine TX.F_init.ok sc_init (fun vs H Q E h => ?_) (fun cdv A outer s H vs Q E hr h => ?_)
  · obtain ⟨e, v, rfl, _⟩ := h
    rfl
  · obtain ⟨e, v, rfl, he, q⟩ := h
    refine ⟨_, pss_one (ps_ost (pv 0) (pv 1)), ?_⟩
    exact ⟨v, rfl, .ref e, rfl, e, _, rfl, TX.ox, TX.noL, .inl ⟨he, fun dx hd ne => q dx hd ne⟩⟩
/-- what is raised -/
def RaisesLine (C : Addr) (H : Hp) (v : V) (E : XK) : Prop := ∀ d H', H d = none → Same H H' → H' d = some (.xd [("line", v)]) → E (.ref C) (some d) H'
theorem raise_line {C : Addr} {H : Hp} {v : V} {E : XK} {ta : TA} {σ : L2.St} (ha : ∀ Q : List V → Hp → Prop, Q [v] H → ta σ H Q) (h : RaisesLine C H v E) : tMkO C (spInit K C) [] ta σ H E := by
  refine ha _ ⟨by show 1 ≤ 1000; decide, fun e ne => ⟨e, v, rfl, upd_same, fun dx hd hne => ⟨rfl, dx, [("line", v)], upd_same, ?_, ?_, ?_⟩⟩⟩
  · rw [upd_ne hne, upd_same]
  · rw [upd_ne hne] at hd; exact hd
  · rw [upd_ne hne] at hd
    refine h dx _ hd (fun b o hb => ?_) upd_same
    rw [upd_ne (ne_of_none hb hd), del_ne (ne_of_none hb ne), upd_ne (ne_of_none hb ne), upd_ne (ne_of_none hb hd), upd_ne (ne_of_none hb ne)]
    exact hb
end
end K5


namespace K5
open PySem PySem.Spec PyProof.Rows L2
/-! ### the mathematics -/
def run (l : List Nat) : Nat := (l.takeWhile Wd).length
theorem tw_lt {p : Nat → Bool} : ∀ {l : List Nat} {j : Nat}, j < (l.takeWhile p).length → ∃ c, l[j]? = some c ∧ p c = true
  | [], j, h => by simp at h
  | c :: r, j, h => by
    rw [List.takeWhile_cons] at h
    by_cases hc : p c = true
    · rw [if_pos hc] at h
      cases j with
      | zero => exact ⟨c, rfl, hc⟩
      | succ j => 
        have h' : j < (r.takeWhile p).length := by simpa using h
        obtain ⟨d, e, hd⟩ := tw_lt h'
        exact ⟨d, by simpa using e, hd⟩
    · rw [if_neg hc] at h
      simp at h
theorem tw_end {p : Nat → Bool} : ∀ {l : List Nat} {c : Nat}, l[(l.takeWhile p).length]? = some c → p c = false
  | [], c, h => by simp at h
  | d :: r, c, h => by
    rw [List.takeWhile_cons] at h
    by_cases hc : p d = true
    · rw [if_pos hc] at h
      exact tw_end (by simpa using h)
    · rw [if_neg hc] at h
      have : d = c := by simpa using h
      rw [← this]
      simpa using hc
theorem tw_le {p : Nat → Bool} (l : List Nat) : (l.takeWhile p).length ≤ l.length := by
  induction l with
  | nil => simp
  | cons c r ih =>
    rw [List.takeWhile_cons]
    split
    · simp only [List.length_cons]; omega
    · simp
def Sg (c : Nat) : Bool := decide (c ∈ [40, 41, 44, 46, 58, 61, 60, 43, 32])
/-- how long the piece (or space) at the head is -/
def piece (l : List Nat) : Option Nat := if 0 < run l then some (run l) else if l.take 2 = [60, 61] then some 2 else match l with
  | c :: _ => if Sg c = true then some 1 else none
  | [] => none
theorem cut_nat (cs : List Nat) (i j : Nat) (hi : i ≤ cs.length) : cutS ⟨cs.toArray⟩ (some (i : Int)) (some (j : Int)) = ⟨((cs.drop i).take (j - i)).toArray⟩ := by
  unfold cutS
  have hl : (⟨cs.toArray⟩ : Str).length = cs.length := by show cs.toArray.size = _; simp
  rw [hl, HT.sIx_nat, HT.sIx_nat]
  have e : min i cs.length = i := Nat.min_eq_left hi
  rw [e]
  show (⟨(((cs.toArray).toList.drop i).take (min j cs.length - i)).toArray⟩ : Str) = _
  congr 2
  rw [List.toList_toArray]
  by_cases h : j ≤ cs.length
  · rw [Nat.min_eq_left h]
  · rw [Nat.min_eq_right (by omega)]
    rw [List.take_of_length_le (by simp), List.take_of_length_le (by simp; omega)]
theorem tx_eq (l : List Nat) (z : Str) : decide (tx l = V.str z) = decide (l = z.cps.toList) := by
  by_cases h : l = z.cps.toList
  · rw [decide_eq_true h]
    refine decide_eq_true ?_
    rw [h]
  · rw [decide_eq_false h]
    refine decide_eq_false fun q => h ?_
    have := V.str.inj q
    rw [← this]
section
variable {P : Program} {w : World} {K : PySem.W.Frag} {mg : Str → Option Value} {base : Heap} {a : Ad} {fI : Addr} {dI : FuncData}
def spEnd (C : Addr) : Sp := fun vs H Q E => ∃ (cs : List Nat) (i : Nat) (v : V), vs = [tx cs, .int i, v] ∧ i < cs.length ∧ cs.length ≤ 1000 ∧ (∀ e, piece (cs.drop i) = some e → Q (.int ((i + e : Nat) : Int)) H) ∧ (piece (cs.drop i) = none → RaisesLine C H v E)
theorem small_le {n : Nat} (h : n ≤ 1000) : n ≤ sizeLine := Nat.le_of_lt (small1000 h)
theorem ok_end (T : Top K mg a) (TX : TopX K a fI dI) : FnOk P w K mg base (L2.CX P w) 3 a.f_end_of_piece a.d_end_of_piece ["text", "at", "line"] (spEnd a.c_BadText) := by
  have G_is_word_sign := ok_is_word (P := P) (w := w) (base := base) T
  have G_init := ok_init (P := P) (w := w) (mg := mg) (base := base) TX
  refine T.F_end_of_piece.okX sc_end_of_piece (fun vs H Q E h => ?_) (fun cdv A outer s H vs Q E hr h => ?_)
  · obtain ⟨cs, i, v, rfl, _⟩ := h
    rfl
  · obtain ⟨cs, i, v, rfl, hi, hl, q1, q2⟩ := h
    refine ⟨_, (pss_cons (ps_set (i := 3) sc_end_of_piece.nd rfl (.inl rfl) (pv 1))
    (C8.pss_cut (ps_while (passes_of rfl) (PW.pt (pw_and (pt_cmpR (OpR.or op_lt op_lt_str) (pv 3) (pe_callB (CallR.or call_len_str call_len_seq) (by rfl) T.z_len (by decide +kernel) (pa_cons (pv 0) pa_nil)) (nomark _)) (pw_and1 (pt_val (pe_call G_is_word_sign (hr.mono (by decide)) (by rfl) T.m_is_word_sign T.F_is_word_sign.kp T.b_is_word_sign .nil pass0 (pa_cons (pe_ix ix_seq (pv 0) (pv 3) (fun _ _ => rfl)) pa_nil))))))
      (pss_one (ps_aug (i := 3) sc_end_of_piece.nd rfl (.inl rfl) pe_int ip_add)))
    (pss_cons (ps_if (pt_cmpR (OpR.or op_gt op_gt_str) (pv 3) (pv 1) (nomark _))
      (pss_one (ps_ret (pv 3)))
      pss_nil)
    (pss_cons (ps_if (pt_cmpR (OpR.or op_eq (op_eqD hr.units)) (pe_slice (SlR.or sl_str (SlR.or sl_list sl_tup)) (pv 0) (po_some (pv 1)) (po_some (pe_op (OpR.or op_add (OpR.or op_add_str (OpR.or op_cat op_catT))) (pv 1) pe_int))) pe_str (nomark _))
      (pss_one (ps_ret (pe_op (OpR.or op_add (OpR.or op_add_str (OpR.or op_cat op_catT))) (pv 1) pe_int)))
      pss_nil)
    (pss_cons (ps_if (pt_cmpR (OpR.or op_notIn_sign (OpR.or op_notin_str op_notIn_seq)) (pe_ix ix_seq (pv 0) (pv 1) (fun _ _ => rfl)) pe_str rfl)
      (pss_one (ps_raise rfl (takes_of rfl rfl rfl rfl) (pmk_oex TX.ox TX.iC TX.tI G_init (hr.mono (by decide)) TX.b_init .nil pass0F (by rfl) T.m_BadText (pa_cons (pv 2) pa_nil))))
      pss_nil)
    (pss_one (ps_ret (pe_op (OpR.or op_add (OpR.or op_add_str (OpR.or op_cat op_catT))) (pv 1) pe_int)))))))), ?_⟩
    have hz : (⟨cs.toArray⟩ : Str).length = cs.length := by show cs.toArray.size = _; simp
    have hzl : (⟨cs.toArray⟩ : Str).length ≤ sizeLine := by rw [hz]; exact small_le hl
    have hnr : run (cs.drop i) ≤ cs.length - i := by have := tw_le (p := Wd) (cs.drop i); simpa [run] using this
    refine ⟨.int i, rfl, fun σ' H' => σ' = [some (tx cs), some (.int i), some v, some (.int ((i + run (cs.drop i) : Nat) : Int))] ∧ H' = H, ⟨fun m σ' H' => ∃ j : Nat, σ' = [some (tx cs), some (.int i), some v, some (.int ((i + j : Nat) : Int))] ∧ H' = H ∧ j ≤ run (cs.drop i) ∧ m = run (cs.drop i) - j, ⟨_, 0, rfl, rfl, Nat.zero_le _, rfl⟩, ?_⟩, ?_⟩
    rotate_left
    · rintro σ' H' ⟨rfl, rfl⟩
      refine ⟨_, rfl, _, rfl, .inl ⟨_, _, rfl, rfl, _, rfl, ?_⟩⟩
      by_cases hn : 0 < run (cs.drop i)
      · rw [decide_eq_true (by omega)]
        refine iteT ⟨_, rfl, ?_⟩
        have := q1 (run (cs.drop i)) (by unfold piece; rw [if_pos hn])
        exact this
      rw [decide_eq_false (by omega)]
      refine iteF ⟨_, rfl, _, rfl, _, rfl, _, rfl, .inl ⟨_, 2, rfl, rfl, _, rfl, .inl ⟨_, rfl, hzl, .inl ⟨rfl, _, rfl, ?_⟩⟩⟩⟩
      have e2 : (i : Int) + 2 = ((i + 2 : Nat) : Int) := rfl
      rw [e2, cut_nat cs i (i + 2) (by omega), show i + 2 - i = 2 by omega, tx_eq]
      have e3 : (PySem.Str.ofString "<=").cps.toList = [60, 61] := by decide +kernel
      rw [e3]
      by_cases h2 : (cs.drop i).take 2 = [60, 61]
      · rw [decide_eq_true h2]
        refine iteT ⟨_, rfl, .inl ⟨_, 2, rfl, rfl, ?_⟩⟩
        exact q1 2 (by unfold piece; rw [if_neg hn, if_pos h2])
      rw [decide_eq_false h2]
      have hd : cs.drop i = cs[i] :: cs.drop (i + 1) := List.drop_eq_getElem_cons hi
      refine iteF ⟨_, rfl, _, rfl, .inr (.inr ⟨_, _, cs[i], rfl, rfl, hzl, atI_nat (by simp [hi]), .inl ⟨_, _, rfl, rfl, _, rfl, ?_⟩⟩)⟩
      have e4 : (PySem.Str.ofString "(),.:=<+ ").cps.toList = [40, 41, 44, 46, 58, 61, 60, 43, 32] := by decide +kernel
      rw [e4]
      have ep : piece (cs.drop i) = if Sg cs[i] = true then some 1 else none := by
        unfold piece
        rw [if_neg hn, if_neg h2, hd]
      by_cases h3 : cs[i] ∈ [40, 41, 44, 46, 58, 61, 60, 43, 32]
      · rw [decide_eq_true h3]
        refine iteF ⟨_, rfl, .inl ⟨_, 1, rfl, rfl, ?_⟩⟩
        exact q1 1 (by rw [ep, if_pos (show Sg cs[i] = true from decide_eq_true h3)])
      · rw [decide_eq_false h3]
        refine iteT (raise_line (fun Q q => ⟨_, rfl, q⟩) (q2 ?_))
        rw [ep, if_neg (by unfold Sg; rw [decide_eq_false h3]; exact Bool.false_ne_true)]
    rintro m σ' H' ⟨j, rfl, rfl, hj, rfl⟩
    refine ⟨_, rfl, _, rfl, .inl ⟨_, rfl, hzl, .inl ⟨_, _, rfl, rfl, _, rfl, ?_⟩⟩⟩
    rw [hz]
    by_cases h : j < run (cs.drop i)
    · obtain ⟨c, hc, hw⟩ := tw_lt h
      have hc' : cs[i + j]? = some c := by simpa using hc
      rw [decide_eq_true (by omega)]
      refine iteT ⟨_, rfl, _, rfl, .inr (.inr ⟨_, _, c, rfl, rfl, hzl, ?_, c, rfl, ?_⟩)⟩
      · exact atI_nat (by simpa using hc')
      · refine ⟨true, by rw [hw], iteT ⟨fun σ' H2 => ∃ j' : Nat, σ' = [some (tx cs), some (.int i), some v, some (.int ((i + j' : Nat) : Int))] ∧ H2 = H' ∧ j' ≤ run (cs.drop i) ∧ j < j', ?_, ?_⟩⟩
        · rintro σ2 H2 ⟨j', rfl, rfl, h1, h2⟩
          exact ⟨_, by omega, j', rfl, rfl, h1, rfl⟩
        · refine ⟨_, rfl, _, _, rfl, rfl, j + 1, ?_, rfl, by omega, by omega⟩
          show [_, _, _, _] = [_, _, _, _]
          congr 5
    · have hj' : j = run (cs.drop i) := by omega
      have hlast : ∀ c, cs[i + j]? = some c → Wd c = false := fun c hc => tw_end (p := Wd) (l := cs.drop i) (by
        show (cs.drop i)[run (cs.drop i)]? = some c
        rw [← hj']; simpa using hc)
      by_cases hin : i + j < cs.length
      · have hc : cs[i + j]? = some cs[i + j] := List.getElem?_eq_getElem hin
        rw [decide_eq_true (by omega)]
        refine iteT ⟨_, rfl, _, rfl, .inr (.inr ⟨_, _, cs[i + j], rfl, rfl, hzl, ?_, cs[i + j], rfl, ?_⟩)⟩
        · exact atI_nat (by simpa using hc)
        refine ⟨false, by rw [hlast _ hc], iteF ⟨?_, rfl⟩⟩
        rw [hj']
      · rw [decide_eq_false (by omega)]
        refine iteF (iteF ⟨?_, rfl⟩)
        rw [hj']
end
end K5


namespace K5
open PySem PySem.Spec PyProof.Rows L2
theorem piece_pos {l : List Nat} {e : Nat} (h : piece l = some e) : 1 ≤ e := by
  unfold piece at h
  split at h
  · cases h; omega
  · split at h
    · cases h; omega
    · split at h
      · split at h
        · cases h; omega
        · cases h
      · cases h
theorem piece_le {l : List Nat} {e : Nat} (h : piece l = some e) : e ≤ l.length := by
  unfold piece at h
  split at h
  · cases h; exact tw_le l
  · split at h
    · rename_i _ h2
      cases h
      have := congrArg List.length h2
      simp only [List.length_take, List.length_cons, List.length_nil] at this
      omega
    · split at h
      · split at h
        · cases h; simp
        · cases h
      · cases h
/-- the pieces -/
def tk (l : List Nat) : Option (List (List Nat)) := if h : l = [] then some [] else match piece l with
  | none => none
  | some e => (tk (l.drop (max e 1))).map fun r => if l.head? = some 32 then r else l.take e :: r
termination_by l.length
decreasing_by
  have : 0 < l.length := List.length_pos_iff.mpr h
  simp only [List.length_drop]
  omega
theorem tk_nil : tk [] = some [] := by rw [tk]; rfl
theorem tk_bad {l : List Nat} (h0 : l ≠ []) (h : piece l = none) : tk l = none := by
  rw [tk, dif_neg h0, h]
theorem tk_step {l : List Nat} {e : Nat} (h0 : l ≠ []) (h : piece l = some e) : tk l = (tk (l.drop e)).map fun r => if l.head? = some 32 then r else l.take e :: r := by
  rw [tk, dif_neg h0, h]
  have := piece_pos h
  show Option.map _ (tk (l.drop (max e 1))) = _
  rw [Nat.max_eq_left this]
theorem RaisesLine.mono {C : Addr} {H H2 : Hp} {v : V} {E : XK} (s : Same H H2) (h : RaisesLine C H v E) : RaisesLine C H2 v E := fun d H' hd hs e => h d H' (s.free hd) (s.trans hs) e
theorem Same.mut {H H' : Hp} {p : Addr} {o : HO} (e : Same H H') (h : H p = none) : Same H (upd H' p o) := fun b u hb => by
  rw [upd_ne (ne_of_none hb h)]
  exact e b u hb
section
variable {P : Program} {w : World} {K : PySem.W.Frag} {mg : Str → Option Value} {base : Heap} {a : Ad} {fI : Addr} {dI : FuncData}
def spTok (C : Addr) : Sp := fun vs H Q E => ∃ (cs : List Nat) (v : V), vs = [tx cs, v] ∧ cs.length ≤ 1000 ∧ (∀ fs p H', tk cs = some fs → H p = none → Same H H' → H' p = some (.lst (fs.map tx)) → Q (.ref p) H') ∧ (tk cs = none → RaisesLine C H v E)
theorem ok_tokens (T : Top K mg a) (TX : TopX K a fI dI) : FnOk P w K mg base (L2.CX P w) 4 a.f_tokens a.d_tokens ["text", "line"] (spTok a.c_BadText) := by
  have G_end_of_piece := ok_end (P := P) (w := w) (base := base) T TX
  refine T.F_tokens.ok sc_tokens (fun vs H Q E h => ?_) (fun cdv A outer s H vs Q E hr h => ?_)
  · obtain ⟨cs, v, rfl, _⟩ := h
    rfl
  · obtain ⟨cs, v, rfl, hl, q1, q2⟩ := h
    refine ⟨_, (pss_cons (ps_set (i := 2) sc_tokens.nd rfl (.inl rfl) (pe_lst pa_nil))
    (pss_cons (ps_set (i := 3) sc_tokens.nd rfl (.inl rfl) pe_int)
    (C8.pss_cut (ps_while (passes_of rfl) (pt_cmpR (OpR.or op_lt op_lt_str) (pv 3) (pe_callB (CallR.or call_len_str call_len_seq) (by rfl) T.z_len (by decide +kernel) (pa_cons (pv 0) pa_nil)) (nomark _))
      (pss_cons (ps_set (i := 4) sc_tokens.nd rfl (.inl rfl) (pe_call G_end_of_piece (hr.mono (by decide)) (by rfl) T.m_end_of_piece T.F_end_of_piece.kp T.b_end_of_piece .nil (passes_call (takes_of rfl rfl rfl rfl) (fun _ _ _ _ h => h)) (pa_cons (pv 0) (pa_cons (pv 3) (pa_cons (pv 1) pa_nil)))))
      (pss_cons (ps_if (pt_cmpR (OpR.or op_ne (op_neD hr.units)) (pe_ix ix_seq (pv 0) (pv 3) (fun _ _ => rfl)) pe_str (nomark _))
        (pss_one (ps_expr (pe_bm PySem.F.plainAttrs_list PySem.F.slot_list_append PySem.F.type_list_append mt_append (pv 2) (pa_cons (pe_slice (SlR.or sl_str (SlR.or sl_list sl_tup)) (pv 0) (po_some (pv 3)) (po_some (pv 4))) pa_nil))))
        pss_nil)
      (pss_one (ps_set (i := 3) sc_tokens.nd rfl (.inl rfl) (pv 4))))))
    (pss_one (ps_ret (pv 2)))))), ?_⟩
    have hz : (⟨cs.toArray⟩ : Str).length = cs.length := by show cs.toArray.size = _; simp
    have hzl : (⟨cs.toArray⟩ : Str).length ≤ sizeLine := by rw [hz]; exact small_le hl
    refine ⟨Nat.zero_le _, fun p np => ⟨fun σ' H' => ∃ y3 y4 fs, σ' = [some (tx cs), some v, some (.ref p), y3, y4] ∧ tk cs = some fs ∧ Same H H' ∧ H' p = some (.lst (fs.map tx)), ?_, ?_⟩⟩
    rotate_left
    · rintro σ' H' ⟨y3, y4, fs, rfl, hf, hs, hp⟩
      exact ⟨_, rfl, q1 fs p H' hf np hs hp⟩
    refine ⟨fun m σ' H' => ∃ (i : Nat) (fs : List (List Nat)) (y4 : Option V), σ' = [some (tx cs), some v, some (.ref p), some (.int (i : Int)), y4] ∧ i ≤ cs.length ∧ m = cs.length - i ∧ fs.length ≤ i ∧ tk cs = (tk (cs.drop i)).map (fs ++ ·) ∧ Same H H' ∧ H' p = some (.lst (fs.map tx)), ⟨_, 0, [], none, rfl, Nat.zero_le _, rfl, Nat.zero_le _, by simp, Same.mut (Same.refl _) np, upd_same⟩, ?_⟩
    rintro m σ' H' ⟨i, fs, y4, rfl, hi, rfl, hfl, ht, hs, hp⟩
    refine ⟨_, rfl, _, rfl, .inl ⟨_, rfl, hzl, .inl ⟨_, _, rfl, rfl, _, rfl, ?_⟩⟩⟩
    rw [hz]
    refine ite2 (fun h => ?_) (fun h => ?_)
    · have hlt : i < cs.length := by have := of_decide_eq_true h; omega
      have hd : cs.drop i = cs[i] :: cs.drop (i + 1) := List.drop_eq_getElem_cons hlt
      have h0 : cs.drop i ≠ [] := by rw [hd]; exact List.cons_ne_nil _ _
      refine ⟨fun σ' H'' => ∃ (i2 : Nat) (fs : List (List Nat)) (y4 : Option V), σ' = [some (tx cs), some v, some (.ref p), some (.int (i2 : Int)), y4] ∧ i2 ≤ cs.length ∧ i < i2 ∧ fs.length ≤ i2 ∧ tk cs = (tk (cs.drop i2)).map (fs ++ ·) ∧ Same H H'' ∧ H'' p = some (.lst (fs.map tx)), ?_, ?_⟩
      · rintro σ2 H2 ⟨i2, fs2, y, rfl, h1, h2, h2b, h3, h4, h5⟩
        exact ⟨cs.length - i2, by omega, i2, fs2, y, rfl, h1, rfl, h2b, h3, h4, h5⟩
      refine ⟨_, rfl, _, rfl, _, rfl, cs, i, v, rfl, hlt, hl, fun e he => ?_, fun he => ?_⟩
      · have e1 := piece_pos he
        have e2 := piece_le he
        have e3 : i + e ≤ cs.length := by
          rw [List.length_drop] at e2
          omega
        have ht2 := tk_step h0 he
        have hd2 : (cs.drop i).head? = some cs[i] := by rw [hd]; rfl
        rw [hd2, List.drop_drop] at ht2
        refine ⟨_, rfl, _, rfl, .inr (.inr ⟨_, _, cs[i], rfl, rfl, hzl, atI_nat (by simp [hlt]), .inl ⟨rfl, _, rfl, ?_⟩⟩)⟩
        have e4 : decide (sg cs[i] = V.str (PySem.Str.ofString " ")) = decide (cs[i] = 32) := by
          have := tx_eq [cs[i]] (PySem.Str.ofString " ")
          have e5 : (PySem.Str.ofString " ").cps.toList = [32] := by decide +kernel
          rw [e5] at this
          have e6 : decide ([cs[i]] = [32]) = decide (cs[i] = 32) := by simp
          rw [e6] at this
          exact this
        rw [e4]
        by_cases h32 : cs[i] = 32
        · rw [decide_eq_true h32]
          refine iteF ⟨_, rfl, i + e, fs, _, rfl, e3, by omega, by omega, ?_, hs, hp⟩
          rw [ht, ht2, h32]
          simp [Function.comp_def]
        · rw [decide_eq_false h32]
          refine iteT ⟨_, rfl, .inl ⟨rfl, _, SqL.of hp⟩, _, rfl, _, rfl, _, rfl, _, rfl, _, rfl, .inl ⟨_, rfl, hzl, p, _, _, rfl, rfl, hp, ?_, ?_⟩⟩
          · rw [List.length_map]
            exact small1000 (by omega)
          · rw [cut_nat cs i (i + e) hi, show i + e - i = e by omega]
            refine ⟨_, rfl, i + e, fs ++ [(cs.drop i).take e], _, rfl, e3, by omega, by simp; omega, ?_, Same.mut hs np, ?_⟩
            · rw [ht, ht2]
              simp [Function.comp_def, h32]
            · rw [upd_same, List.map_append]
              rfl
      · exact (q2 (by rw [ht, tk_bad h0 he]; rfl)).mono hs
    · have hge : i = cs.length := by have := of_decide_eq_false (Bool.eq_false_iff.mpr h); omega
      refine ⟨_, _, fs, rfl, ?_, hs, hp⟩
      rw [ht, hge, List.drop_length, tk_nil]
      simp
end
end K5


namespace K5
open PySem PySem.Spec PyProof.Rows L2
def ext (b c : Nat) : Bool := (Wd c && Wd b) || (decide (c = 61) && decide (b = 60))
def S8 : List Nat := [40, 41, 44, 46, 58, 61, 60, 43]
def okc (c : Nat) : Bool := Wd c || decide (c ∈ S8)
def extl (f : List (List Nat)) (c : Nat) : List (List Nat) := f.set (f.length - 1) (f.getD (f.length - 1) [] ++ [c])
def lawRun : List (List Nat) → Nat → List Nat → Option (List (List Nat))
  | f, _, [] => some f
  | f, b, c :: r => if ext b c = true then lawRun (extl f c) c r else if okc c = true then lawRun (f ++ [[c]]) c r else if c = 32 then lawRun f c r else none
def runL : List Nat := (PySem.Str.ofString "abcdefghijklmnopqrstuvwxyz0123456789").cps.toList
theorem runL_eq : runL = [97,98,99,100,101,102,103,104,105,106,107,108,109,110,111,112,113,114,115,116,117,118,119,120,121,122,48,49,50,51,52,53,54,55,56,57] := by decide +kernel
theorem runL_wd (c : Nat) : decide (c ∈ runL) = Wd c := by
  rw [runL_eq]
  unfold Wd Lw Dg
  rw [Bool.eq_iff_iff]
  simp only [decide_eq_true_eq, Bool.or_eq_true, Bool.and_eq_true, List.mem_cons, List.not_mem_nil, or_false]
  omega
/-! ### it is the program's cutting -/
theorem extl_last (f : List (List Nat)) (w : List Nat) (c : Nat) : extl (f ++ [w]) c = f ++ [w ++ [c]] := by
  unfold extl
  have e : (f ++ [w]).length - 1 = f.length := by simp
  rw [e]
  have g : (f ++ [w]).getD f.length [] = w := by
    rw [List.getD_eq_getElem?_getD, List.getElem?_append_right (Nat.le_refl _)]
    simp
  rw [g, List.set_append_right _ _ (Nat.le_refl _)]
  simp
theorem run_words : ∀ (ws r : List Nat) (f : List (List Nat)) (w : List Nat) (b : Nat), Wd b = true → (∀ c ∈ ws, Wd c = true) → lawRun (f ++ [w]) b (ws ++ r) = lawRun (f ++ [w ++ ws]) ((b :: ws).getLast (by simp)) r
  | [], r, f, w, b, hb, _ => by simp
  | c :: ws, r, f, w, b, hb, hw => by
    have hc : Wd c = true := hw c (by simp)
    have he : ext b c = true := by unfold ext; rw [hb, hc]; rfl
    show (if ext b c = true then lawRun (extl (f ++ [w]) c) c (ws ++ r) else _) = _
    rw [if_pos he, extl_last, run_words ws r f (w ++ [c]) c hc (fun d hd => hw d (by simp [hd]))]
    simp [List.getLast_cons]
/-- the head does not go on with what stands before it -/
def Fresh (b : Nat) (l : List Nat) : Prop := ∀ c, l.head? = some c → ext b c = false
theorem fresh_sp (l : List Nat) : Fresh 32 l := fun c _ => by
  unfold ext
  have : Wd 32 = false := by decide
  rw [this]
  simp
theorem tw_all : ∀ (l : List Nat), ∀ c ∈ l.takeWhile Wd, Wd c = true
  | [], c, h => by simp at h
  | d :: r, c, h => by
    rw [List.takeWhile_cons] at h
    split at h
    · rename_i hd
      rcases List.mem_cons.mp h with e | e
      · rw [e]; exact hd
      · exact tw_all r c e
    · simp at h
theorem tw_drop (l : List Nat) : l.takeWhile Wd ++ l.drop (run l) = l := by
  have h : l.takeWhile Wd = l.take (run l) := by
    unfold run
    induction l with
    | nil => rfl
    | cons c r ih =>
      rw [List.takeWhile_cons]
      split
      · simp only [List.length_cons, List.take_succ_cons]; rw [← ih]
      · rfl
  rw [h]
  exact List.take_append_drop _ _
theorem tw_take (l : List Nat) : l.take (run l) = l.takeWhile Wd := by
  have h := tw_drop l
  have h2 := List.take_append_drop (run l) l
  have h3 : l.take (run l) ++ l.drop (run l) = l.takeWhile Wd ++ l.drop (run l) := h2.trans h.symm
  exact List.append_cancel_right h3
theorem law_tk : ∀ (n : Nat) (l : List Nat) (f : List (List Nat)) (b : Nat), l.length ≤ n → Fresh b l → lawRun f b l = (tk l).map (f ++ ·)
  | n, [], f, b, _, _ => by
    rw [tk_nil]
    show some f = some (f ++ [])
    rw [List.append_nil]
  | 0, c :: r, f, b, hn, _ => by simp at hn
  | n + 1, c :: r, f, b, hn, hf => by
    have hl : r.length ≤ n := by simpa using hn
    have he : ext b c = false := hf c rfl
    have h0 : (c :: r) ≠ [] := List.cons_ne_nil _ _
    have start : lawRun f b (c :: r) = if okc c = true then lawRun (f ++ [[c]]) c r else if c = 32 then lawRun f c r else none := by
      show (if ext b c = true then _ else _) = _
      rw [he, if_neg Bool.false_ne_true]
    rw [start]
    by_cases hw : Wd c = true
    · have hok : okc c = true := by unfold okc; rw [hw]; rfl
      have hrun : run (c :: r) = run r + 1 := by
        unfold run
        rw [List.takeWhile_cons, if_pos hw]; rfl
      have hp : piece (c :: r) = some (run r + 1) := by
        unfold piece
        rw [hrun, if_pos (by omega)]
      have h32 : ¬ c = 32 := fun e => by rw [e] at hw; exact absurd hw (by decide)
      rw [if_pos hok, tk_step h0 hp]
      have ew : (c :: r).take (run r + 1) = c :: r.takeWhile Wd := by
        rw [List.take_succ_cons, tw_take]
      have hdr : (c :: r).drop (run r + 1) = r.drop (run r) := rfl
      rw [ew, hdr]
      have key := run_words (r.takeWhile Wd) (r.drop (run r)) f [c] c hw (tw_all r)
      rw [tw_drop] at key
      rw [key]
      have hlast : Wd ((c :: r.takeWhile Wd).getLast (by simp)) = true := by
        have : ∀ d ∈ c :: r.takeWhile Wd, Wd d = true := fun d hd => by
          rcases List.mem_cons.mp hd with e | e
          · rw [e]; exact hw
          · exact tw_all r d e
        exact this _ (List.getLast_mem _)
      rw [law_tk n (r.drop (run r)) _ _ (by simp; omega) (fun d hd => ?_)]
      · simp [Function.comp_def, h32]
      · have hd' : r[run r]? = some d := by simpa [List.head?_drop] using hd
        have hnw : Wd d = false := tw_end (p := Wd) hd'
        unfold ext
        rw [hnw]
        have : ¬ ((c :: r.takeWhile Wd).getLast (by simp)) = 60 := fun e => by
          rw [e] at hlast
          exact absurd hlast (by decide)
        simp [this]
    · have hw' : Wd c = false := Bool.eq_false_iff.mpr hw
      have hrun : run (c :: r) = 0 := by
        unfold run
        rw [List.takeWhile_cons, if_neg hw]; rfl
      by_cases h2 : (c :: r).take 2 = [60, 61]
      · obtain ⟨r', rfl, rfl⟩ : ∃ r', c = 60 ∧ r = 61 :: r' := by
          cases r with
          | nil => simp at h2
          | cons d r' =>
            have : c = 60 ∧ d = 61 := by simpa using h2
            exact ⟨r', this.1, by rw [this.2]⟩
        have hp : piece (60 :: 61 :: r') = some 2 := by
          unfold piece
          rw [hrun, if_neg (by omega), if_pos h2]
        rw [if_pos (by decide), tk_step h0 hp]
        show lawRun (f ++ [[60]]) 60 (61 :: r') = _
        have e1 : lawRun (f ++ [[60]]) 60 (61 :: r') = lawRun (f ++ [[60, 61]]) 61 r' := by
          show (if ext 60 61 = true then lawRun (extl (f ++ [[60]]) 61) 61 r' else _) = _
          rw [if_pos (by decide), extl_last]; rfl
        rw [e1, law_tk n r' _ _ (by simp at hl; omega) (fun d hd => ?_)]
        · simp [Function.comp_def]
        · unfold ext
          have : Wd 61 = false := by decide
          rw [this]; simp
      · have hp : piece (c :: r) = if Sg c = true then some 1 else none := by
          unfold piece
          rw [hrun, if_neg (by omega), if_neg h2]
        have hfr : Fresh c r := fun d hd => by
          unfold ext
          rw [hw']
          cases r with
          | nil => cases hd
          | cons d' r' =>
            have e : d' = d := by simpa using hd
            subst e
            have : ¬ (c = 60 ∧ d' = 61) := by simpa using h2
            by_cases h61 : d' = 61
            · have : ¬ c = 60 := fun e => this ⟨e, h61⟩
              simp [this]
            · simp [h61]
        by_cases hs : c = 32
        · subst hs
          rw [if_neg (by decide), if_pos rfl, tk_step h0 (by rw [hp]; rfl : piece (32 :: r) = some 1), law_tk n r f 32 hl hfr]
          simp [Function.comp_def]
        · by_cases hok : okc c = true
          · have hS : c ∈ S8 := by
              unfold okc at hok
              rw [hw'] at hok
              simpa using hok
            have hsg : Sg c = true := by
              refine decide_eq_true ?_
              simp only [S8, List.mem_cons, List.not_mem_nil, or_false] at hS ⊢
              omega
            rw [if_pos hok, tk_step h0 (by rw [hp, if_pos hsg] : piece (c :: r) = some 1), law_tk n r _ c hl hfr]
            simp [Function.comp_def, hs]
          · have hsg : ¬ Sg c = true := fun z => hok (by
              have z' : c ∈ [40, 41, 44, 46, 58, 61, 60, 43, 32] := of_decide_eq_true z
              unfold okc
              rw [hw']
              refine decide_eq_true (p := c ∈ S8) ?_
              simp only [S8, List.mem_cons, List.not_mem_nil, or_false] at z' ⊢
              omega)
            rw [if_neg hok, if_neg hs, tk_bad h0 (by rw [hp, if_neg hsg])]
            rfl
theorem cut_tk (l : List Nat) : lawRun [] 32 l = tk l := by
  rw [law_tk l.length l [] 32 (Nat.le_refl _) (fresh_sp l)]
  cases tk l <;> rfl
end K5


namespace K5
open PySem PySem.Spec PyProof.Rows L2
theorem cps_tx (cs : List Nat) : (⟨cs.toArray⟩ : Str).cps.toList = cs := by simp
theorem get_tx (cs : List Nat) (i : Nat) : (⟨cs.toArray⟩ : Str).cps[i]? = cs[i]? := by simp
theorem len_tx (cs : List Nat) : (⟨cs.toArray⟩ : Str).length = cs.length := by show cs.toArray.size = _; simp
theorem cat_tx (l m : List Nat) : ((⟨l.toArray⟩ : Str) ++ (⟨m.toArray⟩ : Str)) = ⟨(l ++ m).toArray⟩ := by
  show (⟨l.toArray ++ m.toArray⟩ : Str) = _
  simp
theorem sg_eq (c : Nat) (z : Str) (d : Nat) (h : z.cps.toList = [d]) : decide (sg c = V.str z) = decide (c = d) := by
  have := tx_eq [c] z
  rw [h] at this
  have e6 : decide ([c] = [d]) = decide (c = d) := by simp
  rw [e6] at this
  exact this
section
variable {P : Program} {w : World} {K : PySem.W.Frag} {mg : Str → Option Value} {base : Heap} {a : Ad}
theorem setz {p : Addr} {xs : List V} {v : V} {H : Hp} {Q : Hp → Prop} {k : Int} (j : Nat) (hk : k = (j : Int)) (h : H p = some (.lst xs)) (hj : j < xs.length) (q : Q (upd H p (.lst (xs.set j v)))) : rSetL (.ref p) (.int k) v H Q := by
  subst hk
  exact setv j h hj q
theorem if_ans {c : TT} {t u : TS} {D : Ends} {σ : L2.St} {H : Hp} {b : Bool} (h : Ans c σ H b) (h1 : b = true → t D σ H) (h2 : b = false → u D σ H) : tIfS c t u D σ H := by
  refine h _ ?_
  show if b = true then t D σ H else u D σ H
  exact ite2 h1 (fun e => h2 (Bool.eq_false_iff.mpr e))
theorem ans_or2 {t u : TT} {σ : L2.St} {H : Hp} {b1 b2 : Bool} (h1 : Ans t σ H b1) (h2 : Ans u σ H b2) : Ans (tOr t u) σ H (b1 || b2) := by
  cases b1 with
  | true => exact ans_or1 h1
  | false => exact ans_or h1 h2
def spCut : Sp := fun vs H Q _ => ∃ cs : List Nat, vs = [tx cs] ∧ cs.length ≤ 1000 ∧ (∀ fs p H', tk cs = some fs → fs.length ≤ 1000 → H p = none → Same H H' → H' p = some (.lst (fs.map tx)) → Q (.ref p) H') ∧ (tk cs = none → ∀ H', Same H H' → Q .non H')
theorem ok_cut (T : Top K mg a) : FnOk P w K mg base CX0 1 a.f_l_cut a.d_l_cut ["_law_text_here"] spCut := by
  refine T.F_l_cut.ok sc_l_cut (fun vs H Q E h => ?_) (fun cdv A outer s H vs Q E hr h => ?_)
  · obtain ⟨cs, rfl, _⟩ := h
    rfl
  · obtain ⟨cs, rfl, hl, q1, q2⟩ := h
    refine ⟨_, (pss_cons (ps_set (i := 1) sc_l_cut.nd rfl (.inl rfl) pe_str)
    (pss_cons (ps_set (i := 2) sc_l_cut.nd rfl (.inl rfl) (pe_lst pa_nil))
    (pss_cons (ps_set (i := 3) sc_l_cut.nd rfl (.inl rfl) pe_str)
    (pss_cons (ps_for PassesOwn.never rfl (pi_str (pv 0)) (pg_name (i := 4) sc_l_cut.nd rfl (.inl rfl))
      (C8.pss_cut (ps_if (PW.pt (pw_or (PW.pt (pw_and (pt_cmpR (OpR.or op_in_sign (OpR.or op_in_str op_in_seq)) (pv 4) (pv 1) rfl) (pw_and1 (pt_cmpR (OpR.or op_in_sign (OpR.or op_in_str op_in_seq)) (pv 3) (pv 1) rfl)))) (pw_or1 (PW.pt (pw_and (pt_cmpR (OpR.or op_eq (op_eqD hr.units)) (pv 4) pe_str (nomark _)) (pw_and1 (pt_cmpR (OpR.or op_eq (op_eqD hr.units)) (pv 3) pe_str (nomark _))))))))
        (pss_one (ps_asg (pe_op (OpR.or op_add (OpR.or op_add_str (OpR.or op_cat op_catT))) (pe_ix ix_seq (pv 2) (pe_op op_sub (pe_callB (CallR.or call_len_str call_len_seq) (by rfl) T.z_len (by decide +kernel) (pa_cons (pv 2) pa_nil)) pe_int) (fun _ _ => rfl)) (pv 4)) (pg_sub (pv 2) (pe_op op_sub (pe_callB (CallR.or call_len_str call_len_seq) (by rfl) T.z_len (by decide +kernel) (pa_cons (pv 2) pa_nil)) pe_int) set_list)))
        (pss_one (ps_if (PW.pt (pw_or (pt_cmpR (OpR.or op_in_sign (OpR.or op_in_str op_in_seq)) (pv 4) (pv 1) rfl) (pw_or1 (pt_cmpR (OpR.or op_in_sign (OpR.or op_in_str op_in_seq)) (pv 4) pe_str rfl))))
          (pss_one (ps_expr (pe_bm PySem.F.plainAttrs_list PySem.F.slot_list_append PySem.F.type_list_append mt_append (pv 2) (pa_cons (pv 4) pa_nil))))
          (pss_one (ps_if (pt_cmpR (OpR.or op_ne (op_neD hr.units)) (pv 4) pe_str (nomark _))
            (pss_one (ps_ret pe_non))
            pss_nil)))))
      (pss_one (ps_set (i := 3) sc_l_cut.nd rfl (.inl rfl) (pv 4)))))
    (pss_one (ps_ret (pv 2))))))), ?_⟩
    refine ⟨Nat.zero_le _, fun p np => ?_⟩
    have e32 : (PySem.Str.ofString " ").cps.toList = [32] := by decide +kernel
    have e61 : (PySem.Str.ofString "=").cps.toList = [61] := by decide +kernel
    have e60 : (PySem.Str.ofString "<").cps.toList = [60] := by decide +kernel
    have e8 : (PySem.Str.ofString "(),.:=<+").cps.toList = S8 := by decide +kernel
    have esp : V.str (PySem.Str.ofString " ") = sg 32 := by decide +kernel
    refine ⟨_, rfl, _, rfl, for_it walk_str (fun i σ' H' => ∃ (f : List (List Nat)) (b : Nat) (y4 : Option V), σ' = [some (tx cs), some (.str (PySem.Str.ofString "abcdefghijklmnopqrstuvwxyz0123456789")), some (.ref p), some (sg b), y4] ∧ H' p = some (.lst (f.map tx)) ∧ Same H H' ∧ f.length ≤ i ∧ (∀ u ∈ f, u.length ≤ i) ∧ ((Wd b = true ∨ b = 60) → f ≠ []) ∧ tk cs = lawRun f b (cs.drop i)) ?_ (fun _ _ _ _ _ => trivial) ?_ ?_⟩
    · refine ⟨[], 32, none, ?_, upd_same, Same.mut (Same.refl _) np, Nat.zero_le _, by simp, fun h => by rcases h with h | h <;> revert h <;> decide, by rw [List.drop_zero, cut_tk]⟩
      show [_, _, _, _, _] = [_, _, _, _, _]
      rw [esp]
    · rintro i x σ' H1 H' hi ⟨f, b, y4, rfl, hp, hs, hfl, hfu, hne, ht⟩ ⟨rfl, c, hc, rfl⟩
      rw [get_tx] at hc
      have hi2 : i < cs.length := by simpa using hi
      have hd : cs.drop i = c :: cs.drop (i + 1) := by
        rw [List.drop_eq_getElem_cons hi2]
        congr 1
        exact Option.some.inj ((List.getElem?_eq_getElem hi2).symm.trans hc)
      rw [hd] at ht
      have hrc : decide (c ∈ (PySem.Str.ofString "abcdefghijklmnopqrstuvwxyz0123456789").cps.toList) = Wd c := runL_wd c
      have hrb : decide (b ∈ (PySem.Str.ofString "abcdefghijklmnopqrstuvwxyz0123456789").cps.toList) = Wd b := runL_wd b
      have ht' : tk cs = if ext b c = true then lawRun (extl f c) c (cs.drop (i + 1)) else if okc c = true then lawRun (f ++ [[c]]) c (cs.drop (i + 1)) else if c = 32 then lawRun f c (cs.drop (i + 1)) else none := ht
      refine ⟨fun σ2 H2 => σ2 = [some (tx cs), some (.str (PySem.Str.ofString "abcdefghijklmnopqrstuvwxyz0123456789")), some (.ref p), some (sg b), some (sg c)] ∧ ∃ f', H2 p = some (.lst (f'.map tx)) ∧ Same H H2 ∧ f'.length ≤ i + 1 ∧ (∀ u ∈ f', u.length ≤ i + 1) ∧ ((Wd c = true ∨ c = 60) → f' ≠ []) ∧ tk cs = lawRun f' c (cs.drop (i + 1)), ?_, ?_⟩
      rotate_left
      · rintro σ2 H2 ⟨rfl, f', h1, h2, h3, h4, h5, h6⟩
        exact ⟨_, rfl, f', c, _, rfl, h1, h2, h3, h4, h5, h6⟩
      refine if_ans (b := ext b c) (ans_or2 (ans_and2 (fun Q q => ⟨_, rfl, _, rfl, .inl ⟨_, _, rfl, rfl, _, rfl, by rw [hrc]; exact q⟩⟩) (fun Q q => ⟨_, rfl, _, rfl, .inl ⟨_, _, rfl, rfl, _, rfl, by rw [hrb]; exact q⟩⟩))
        (ans_and2 (fun Q q => ⟨_, rfl, .inl ⟨rfl, _, rfl, by rw [sg_eq c _ 61 e61]; exact q⟩⟩) (fun Q q => ⟨_, rfl, .inl ⟨rfl, _, rfl, by rw [sg_eq b _ 60 e60]; exact q⟩⟩))) (fun he => ?_) (fun he => ?_)
      · rw [if_pos he] at ht'
        have hbad : Wd b = true ∨ b = 60 := by
          unfold ext at he
          simp only [Bool.or_eq_true, Bool.and_eq_true, decide_eq_true_eq] at he
          rcases he with h | h
          · exact .inl h.2
          · exact .inr h.2
        have hf0 := hne hbad
        have hpos : 0 < f.length := List.length_pos_iff.mpr hf0
        have hlast : (f.map tx)[f.length - 1]? = some (tx (f.getD (f.length - 1) [])) := by
          rw [List.getElem?_map, List.getD_eq_getElem?_getD, List.getElem?_eq_getElem (by omega)]
          rfl
        have hmem : (f.getD (f.length - 1) []).length ≤ i := by
          rw [List.getD_eq_getElem?_getD, List.getElem?_eq_getElem (by omega)]
          exact hfu _ (List.getElem_mem _)
        have ecast : ((f.map tx).length : Int) - 1 = ((f.length - 1 : Nat) : Int) := by
          rw [List.length_map]; omega
        refine ⟨.ref p, rfl, .ref p, rfl, .inr ⟨p, _, rfl, .inl (SqL.of hp), _, _, rfl, rfl, .inl ⟨p, _, _, tx (f.getD (f.length - 1) []), rfl, rfl, SqL.of hp, by rw [ecast]; exact atI_nat hlast, _, rfl, .inr (.inl ⟨_, _, rfl, rfl, ?_, ?_⟩)⟩⟩⟩
        · rw [len_tx]
          exact Nat.le_trans (Nat.add_le_add_right hmem 1) (small_le (by omega))
        · refine ⟨.ref p, rfl, .ref p, rfl, .inr ⟨p, _, rfl, .inl (SqL.of hp), _, _, rfl, rfl, setz (f.length - 1) ecast hp (by rw [List.length_map]; omega) ⟨rfl, extl f c, ?_, Same.mut hs np, ?_, ?_, fun _ => ?_, ht'⟩⟩⟩
          · rw [upd_same]
            have : (⟨(f.getD (f.length - 1) []).toArray⟩ : Str) ++ (⟨#[c]⟩ : Str) = ⟨(f.getD (f.length - 1) [] ++ [c]).toArray⟩ := cat_tx _ [c]
            rw [this]
            unfold extl
            rw [List.map_set]
          · unfold extl; rw [List.length_set]; omega
          · intro u hu
            unfold extl at hu
            rcases List.mem_or_eq_of_mem_set hu with h | h
            · have := hfu u h; omega
            · rw [h, List.length_append]
              show _ + 1 ≤ _
              omega
          · intro z
            have := congrArg List.length z
            unfold extl at this
            rw [List.length_set] at this
            simp at this
            exact hf0 this
      · rw [if_neg (Bool.eq_false_iff.mp he)] at ht'
        refine if_ans (b := okc c) (ans_or2 (fun Q q => ⟨_, rfl, _, rfl, .inl ⟨_, _, rfl, rfl, _, rfl, by rw [hrc]; exact q⟩⟩) (fun Q q => ⟨_, rfl, .inl ⟨_, _, rfl, rfl, _, rfl, by rw [e8]; exact q⟩⟩)) (fun ho => ?_) (fun ho => ?_)
        · rw [if_pos ho] at ht'
          refine ⟨.ref p, rfl, .inl ⟨rfl, _, SqL.of hp⟩, _, rfl, p, _, _, rfl, rfl, hp, ?_, rfl, f ++ [[c]], ?_, Same.mut hs np, by simp; omega, ?_, fun _ => by simp, ht'⟩
          · rw [List.length_map]; exact small1000 (by omega)
          · rw [upd_same, List.map_append]; rfl
          · intro u hu
            rcases List.mem_append.mp hu with h | h
            · have := hfu u h; omega
            · have : u = [c] := by simpa using h
              rw [this]; show 1 ≤ _; omega
        · rw [if_neg (Bool.eq_false_iff.mp ho)] at ht'
          refine if_ans (b := !decide (c = 32)) (fun Q q => ⟨_, rfl, .inl ⟨rfl, _, rfl, by rw [sg_eq c _ 32 e32]; exact q⟩⟩) (fun h => ?_) (fun h => ?_)
          · have h' : ¬ c = 32 := by simpa using h
            rw [if_neg h'] at ht'
            exact q2 ht' _ hs
          · have h' : c = 32 := by simpa using h
            rw [if_pos h'] at ht'
            refine ⟨rfl, f, hp, hs, by omega, fun u hu => by have := hfu u hu; omega, fun z => ?_, ht'⟩
            rw [h'] at z
            exact absurd z (by decide)
    · rintro σ' H' ⟨f, b, y4, rfl, hp, hs, hfl, hfu, hne, ht⟩
      have hf : tk cs = some f := by
        rw [ht]
        have : cs.drop (⟨cs.toArray⟩ : Str).cps.size = [] := by simp
        rw [this]
        rfl
      refine ⟨_, rfl, q1 f p H' hf ?_ np hs hp⟩
      have : f.length ≤ cs.length := by simpa using hfl
      omega
end
end K5


namespace K5
open PySem PySem.Spec PyProof.Rows L2
theorem Sta.ne {H : Hp} {st p : Addr} (S : Sta H st) (h : H p = none) : p ≠ st := by
  obtain ⟨sc, ns, i, b, s, l, hne, hst, _⟩ := S.ex
  exact fun e => by rw [e, hst] at h; cases h
theorem Sta.new {H : Hp} {st p : Addr} {o : HO} (S : Sta H st) (h : H p = none) : Sta (upd H p o) st := by
  obtain ⟨sc, ns, i, b, s, l, hne, hst, hsc, r⟩ := S.ex
  exact ⟨sc, ns, i, b, s, l, hne, by rw [upd_ne (ne_of_none hst h)]; exact hst, by rw [upd_ne (ne_of_none hsc h)]; exact hsc, r⟩
theorem Kp.new {st p : Addr} {H H' : Hp} {o : HO} (k : Kp st H H') (h : H' p = none) : Kp st H (upd H' p o) := fun b u n e => by
  have := k b u n e
  rw [upd_ne (ne_of_none this h)]
  exact this
theorem Kp.mut {st p : Addr} {H H' : Hp} {o : HO} (k : Kp st H H') (h : H p = none) : Kp st H (upd H' p o) := fun b u n e => by
  rw [upd_ne (ne_of_none e h)]
  exact k b u n e
theorem Kp.tup {st p : Addr} {H H' : Hp} {xs : List V} (k : Kp st H H') (n : p ≠ st) (h : H p = some (.tup xs)) : H' p = some (.tup xs) := k p _ n h
theorem cut_pre (cs : List Nat) (j : Nat) : cutS ⟨cs.toArray⟩ none (some (j : Int)) = ⟨(cs.take j).toArray⟩ := by
  have := cut_nat cs 0 j (Nat.zero_le _)
  unfold cutS at *
  rw [HT.sIx_none]
  rw [show (((0 : Nat) : Int)) = 0 from rfl] at this
  rw [show HT.sIx (⟨cs.toArray⟩ : Str).length 0 (some (0 : Int)) = 0 from by rw [show (0 : Int) = ((0 : Nat) : Int) from rfl, HT.sIx_nat, Nat.zero_min]] at this
  rw [this]
  simp
theorem cut_suf (cs : List Nat) (j : Nat) (h : j ≤ cs.length) : cutS ⟨cs.toArray⟩ (some (j : Int)) none = ⟨(cs.drop j).toArray⟩ := by
  have := cut_nat cs j cs.length h
  unfold cutS at *
  rw [HT.sIx_none]
  rw [HT.sIx_nat (⟨cs.toArray⟩ : Str).length _ cs.length, len_tx, Nat.min_self] at this
  rw [len_tx, this]
  rw [List.take_of_length_le (by simp)]
def txLe (n : Nat) : V → Bool
  | .str z => decide (z.length ≤ n)
  | _ => false
theorem txLe_of {n : Nat} {v : V} (h : txLe n v = true) : ∃ l : List Nat, v = tx l ∧ l.length ≤ n := by
  cases v with
  | str z =>
    refine ⟨z.cps.toList, by cases z; simp, ?_⟩
    have : z.length ≤ n := of_decide_eq_true h
    rw [Array.length_toList]
    exact this
  | _ => cases h
theorem at_all {n : Nat} {xs : List V} (h : xs.all (txLe n) = true) {j : Nat} (hj : j < xs.length) : ∃ l : List Nat, xs[j]? = some (tx l) ∧ l.length ≤ n := by
  have h1 := List.getElem?_eq_getElem hj
  obtain ⟨l, e, hl⟩ := txLe_of (List.all_eq_true.mp h _ (List.getElem_mem hj))
  exact ⟨l, by rw [h1, e], hl⟩
def menu1 : List V := [.str "<=", .str "a", .str "z", .str "0", .str "9", .str "(", .str ")", .str ",", .str ".", .str ":", .str "=", .str "<", .str "+", .str " ", .str " ", .str "not", .str "b12"]
def menu2 : List V := [.str "size", .str "or 7", .str "  "]
section
variable {P : Program} {w : World} {K : PySem.W.Frag} {mg : Str → Option Value} {base : Heap} {a : Ad}
def spText : Sp := fun vs H Q _ => ∃ st : Addr, vs = [.ref st] ∧ Sta H st ∧ ∀ H' cs, Kp st H H' → Sta H' st → cs.length ≤ 400 → Q (tx cs) H'
theorem ok_text (T : Top K mg a) : FnOk P w K mg base CX0 3 a.f_l_text a.d_l_text ["_law_state_here"] spText := by
  have G_l_draw := ok_draw (P := P) (w := w) (base := base) T
  have G_l_wide := ok_wide (P := P) (w := w) (base := base) T
  refine T.F_l_text.ok sc_l_text (fun vs H Q E h => ?_) (fun cdv A outer s H vs Q E hr h => ?_)
  · obtain ⟨st, rfl, _⟩ := h
    rfl
  · obtain ⟨st, rfl, S, q⟩ := h
    refine ⟨_, (pss_cons (ps_set (i := 1) sc_l_text.nd rfl (.inl rfl) (pe_tup (pa_cons pe_str (pa_cons pe_str (pa_cons pe_str (pa_cons pe_str (pa_cons pe_str (pa_cons pe_str (pa_cons pe_str (pa_cons pe_str (pa_cons pe_str (pa_cons pe_str (pa_cons pe_str (pa_cons pe_str (pa_cons pe_str (pa_cons pe_str (pa_cons pe_str (pa_cons pe_str (pa_cons pe_str pa_nil)))))))))))))))))))
    (pss_cons (ps_set (i := 1) sc_l_text.nd rfl (.inl rfl) (pe_op (OpR.or op_add (OpR.or op_add_str (OpR.or op_cat op_catT))) (pv 1) (pe_tup (pa_cons pe_str (pa_cons pe_str (pa_cons pe_str pa_nil))))))
    (pss_cons (ps_set (i := 2) sc_l_text.nd rfl (.inl rfl) pe_str)
    (pss_cons (ps_for PassesOwn.never rfl (pi_range1 (by rfl) T.z_range (pa_cons (pe_op op_sub pe_int (pe_call G_l_draw (hr.mono (by decide)) (by rfl) T.m_l_draw T.F_l_draw.kp T.b_l_draw .nil pass0 (pa_cons (pv 0) (pa_cons pe_int pa_nil)))) pa_nil)) (pg_name (i := 3) sc_l_text.nd rfl (.inl rfl))
      (pss_one (ps_set (i := 2) sc_l_text.nd rfl (.inl rfl) (pe_op (OpR.or op_add (OpR.or op_add_str (OpR.or op_cat op_catT))) (pv 2) (pe_ix ix_seq (pv 1) (pe_call G_l_draw (hr.mono (by decide)) (by rfl) T.m_l_draw T.F_l_draw.kp T.b_l_draw .nil pass0 (pa_cons (pv 0) (pa_cons pe_int pa_nil))) (fun _ _ => rfl))))))
    (pss_cons (ps_set (i := 4) sc_l_text.nd rfl (.inl rfl) pe_str)
    (pss_cons (ps_for PassesOwn.never rfl (pi_range1 (by rfl) T.z_range (pa_cons (pe_ix ix_seq (pe_tup (pa_cons pe_int (pa_cons pe_int (pa_cons pe_int (pa_cons pe_int (pa_cons pe_int (pa_cons pe_int pa_nil))))))) (pe_call G_l_draw (hr.mono (by decide)) (by rfl) T.m_l_draw T.F_l_draw.kp T.b_l_draw .nil pass0 (pa_cons (pv 0) (pa_cons pe_int pa_nil))) (fun _ _ => rfl)) pa_nil)) (pg_name (i := 3) sc_l_text.nd rfl (.inl rfl))
      (pss_cons (ps_set (i := 5) sc_l_text.nd rfl (.inl rfl) (pe_call G_l_wide (hr.mono (by decide)) (by rfl) T.m_l_wide T.F_l_wide.kp T.b_l_wide .nil pass0 (pa_cons (pv 0) (pa_cons (pe_op (OpR.or op_add (OpR.or op_add_str (OpR.or op_cat op_catT))) (pe_callB (CallR.or call_len_str call_len_seq) (by rfl) T.z_len (by decide +kernel) (pa_cons (pv 2) pa_nil)) pe_int) pa_nil))))
      (pss_one (ps_set (i := 2) sc_l_text.nd rfl (.inl rfl) (pe_op (OpR.or op_add (OpR.or op_add_str (OpR.or op_cat op_catT))) (pe_op (OpR.or op_add (OpR.or op_add_str (OpR.or op_cat op_catT))) (pe_slice (SlR.or sl_str (SlR.or sl_list sl_tup)) (pv 2) po_none (po_some (pv 5))) (pe_ix ix_seq (pv 4) (pe_call G_l_draw (hr.mono (by decide)) (by rfl) T.m_l_draw T.F_l_draw.kp T.b_l_draw .nil pass0 (pa_cons (pv 0) (pa_cons pe_int pa_nil))) (fun _ _ => rfl))) (pe_slice (SlR.or sl_str (SlR.or sl_list sl_tup)) (pv 2) (po_some (pv 5)) po_none))))))
    (pss_one (ps_ret (pv 2))))))))), ?_⟩
    refine ⟨by show 17 ≤ sizeLine; decide, fun p1 n1 => ⟨_, rfl, by show 3 ≤ sizeLine; decide, fun p2 n2 => ?_⟩⟩
    have ne12 : p1 ≠ p2 := fun e => by rw [← e, upd_same] at n2; cases n2
    have t1 : (upd (upd H p1 (.tup menu1)) p2 (.tup menu2)) p1 = some (.tup menu1) := by rw [upd_ne ne12, upd_same]
    refine .inr (.inr (.inr ⟨p1, p2, menu1, menu2, rfl, rfl, SqT.of t1, SqT.of upd_same, by decide, by show 20 ≤ sizeLine; decide, fun (z : menu2 = []) => (List.cons_ne_nil _ _ z).elim, fun (_ : menu2 ≠ []) p3 n3 => ?_⟩))
    have S3 : Sta (upd (upd (upd H p1 (.tup menu1)) p2 (.tup menu2)) p3 (.tup (menu1 ++ menu2))) st := ((S.new n1).new n2).new n3
    have k3 : Kp st H (upd (upd (upd H p1 (.tup menu1)) p2 (.tup menu2)) p3 (.tup (menu1 ++ menu2))) := (((Kp.refl st H).new n1).new n2).new n3
    have np3 : p3 ≠ st := ((S.new n1).new n2).ne n3
    have h3 : (upd (upd (upd H p1 (.tup menu1)) p2 (.tup menu2)) p3 (.tup (menu1 ++ menu2))) p3 = some (.tup (menu1 ++ menu2)) := upd_same
    have hm : (menu1 ++ menu2).all (txLe 4) = true := by decide +kernel
    have hml : (menu1 ++ menu2).length = 20 := by decide +kernel
    have etx0 : V.str (PySem.Str.ofString "") = tx [] := by decide +kernel
    refine ⟨.ref st, rfl, st, 41, rfl, S3, by decide, by decide, fun H4 v k4 S4 v0 v1 => ⟨40, v, rfl, rfl, _, rfl, by omega, by omega, for_range (lo := 0) (n := (40 - v).toNat) (fun i σ' H' => ∃ cs y3, σ' = [some (.ref st), some (.ref p3), some (tx cs), y3, none, none] ∧ Kp st H H' ∧ Sta H' st ∧ cs.length ≤ 4 * i ∧ H' p3 = some (.tup (menu1 ++ menu2))) ⟨[], none, ?_, k3.trans k4, S4, by simp, k4.tup np3 h3⟩ ?_ ?_⟩⟩
    · show [_, _, _, _, _, _] = [_, _, _, _, _, _]
      rw [etx0]
    · rintro i σ' H' hi ⟨cs, y3, rfl, k', S', hl, hp3⟩
      refine ⟨_, rfl, .ref p3, rfl, .ref st, rfl, st, 20, rfl, S', by decide, by decide, fun H5 u k5 S5 u0 u1 => ?_⟩
      obtain ⟨j, rfl⟩ : ∃ j : Nat, u = j := ⟨u.toNat, by omega⟩
      obtain ⟨l, hj, hl4⟩ := at_all hm (j := j) (by rw [hml]; omega)
      have hp : H5 p3 = some (.tup (menu1 ++ menu2)) := k5.tup np3 hp3
      refine .inr (.inl ⟨p3, _, _, tx l, rfl, rfl, SqT.of hp, atI_nat hj, .inr (.inl ⟨_, _, rfl, rfl, ?_, ?_⟩)⟩)
      · rw [len_tx, len_tx]
        exact small_le (by omega)
      · rw [cat_tx]
        exact ⟨cs ++ l, _, rfl, k'.trans k5, S5, by rw [List.length_append]; omega, hp⟩
    · rintro σ' H' ⟨cs, y3, rfl, k', S', hl, hp3⟩
      have el : (PySem.Str.ofString "ABZ_-;>~*|!?/\x40[]{}^$&#\n\t").length = 24 := by decide +kernel
      refine ⟨by show 6 ≤ sizeLine; decide, fun p4 n4 => ⟨.ref st, rfl, st, 6, rfl, S'.new n4, by decide, by decide, fun H5 u k5 S5 u0 u1 => ?_⟩⟩
      obtain ⟨j, rfl⟩ : ∃ j : Nat, u = j := ⟨u.toNat, by omega⟩
      have hp4 : H5 p4 = some (.tup [.int 0, .int 0, .int 0, .int 1, .int 2, .int 3]) := k5.tup (S'.ne n4) upd_same
      obtain ⟨m, hm6, hm3⟩ : ∃ m : Nat, ([.int 0, .int 0, .int 0, .int 1, .int 2, .int 3] : List V)[j]? = some (.int (m : Int)) ∧ m ≤ 3 := by
        have : j = 0 ∨ j = 1 ∨ j = 2 ∨ j = 3 ∨ j = 4 ∨ j = 5 := by omega
        rcases this with e | e | e | e | e | e <;> subst e
        · exact ⟨0, rfl, by omega⟩
        · exact ⟨0, rfl, by omega⟩
        · exact ⟨0, rfl, by omega⟩
        · exact ⟨1, rfl, by omega⟩
        · exact ⟨2, rfl, by omega⟩
        · exact ⟨3, rfl, by omega⟩
      have k5' : Kp st H H5 := (k'.new n4).trans k5
      refine .inr (.inl ⟨p4, _, _, .int m, rfl, rfl, SqT.of hp4, atI_nat hm6, m, rfl, by omega, by omega, for_range (lo := 0) (n := m) (fun i σ' H' => ∃ cs y3 y5, σ' = [some (.ref st), some (.ref p3), some (tx cs), y3, some (.str (PySem.Str.ofString "ABZ_-;>~*|!?/\x40[]{}^$&#\n\t")), y5] ∧ Kp st H H' ∧ Sta H' st ∧ cs.length ≤ 160 + i) ⟨cs, y3, none, rfl, k5', S5, by omega⟩ ?_ ?_⟩)
      · rintro i σ' H' hi ⟨cs, y3, y5, rfl, k', S', hl⟩
        have hz : (⟨cs.toArray⟩ : Str).length ≤ sizeLine := by rw [len_tx]; exact small_le (by omega)
        refine ⟨.ref st, rfl, _, rfl, .inl ⟨_, rfl, hz, .inl ⟨_, 1, rfl, rfl, st, _, rfl, S', by omega, fun H6 t k6 S6 t0 t1 => ?_⟩⟩⟩
        rw [len_tx] at t1
        obtain ⟨at', rfl⟩ : ∃ j : Nat, t = j := ⟨t.toNat, by omega⟩
        refine ⟨_, rfl, _, rfl, _, rfl, .inl ⟨_, rfl, hz, _, rfl, .ref st, rfl, st, 24, rfl, S6, by decide, by decide, fun H7 r k7 S7 r0 r1 => ?_⟩⟩
        obtain ⟨g, rfl⟩ : ∃ j : Nat, r = j := ⟨r.toNat, by omega⟩
        have hg : g < (PySem.Str.ofString "ABZ_-;>~*|!?/\x40[]{}^$&#\n\t").cps.toList.length := by
          rw [Array.length_toList]
          have : (PySem.Str.ofString "ABZ_-;>~*|!?/\x40[]{}^$&#\n\t").cps.size = 24 := el
          omega
        have hc := List.getElem?_eq_getElem hg
        generalize (PySem.Str.ofString "ABZ_-;>~*|!?/\x40[]{}^$&#\n\t").cps.toList[g] = c at hc
        rw [cut_pre]
        refine .inr (.inr ⟨_, _, c, rfl, rfl, by rw [el]; decide, atI_nat hc, .inr (.inl ⟨_, _, rfl, rfl, ?_, _, rfl, _, rfl, _, rfl, .inl ⟨_, rfl, hz, .inr (.inl ⟨_, _, rfl, rfl, ?_, ?_⟩)⟩⟩)⟩)
        · rw [len_tx]
          show (cs.take at').length + 1 ≤ sizeLine
          rw [List.length_take]
          exact small_le (by omega)
        · have e : (⟨(cs.take at').toArray⟩ : Str) ++ (⟨#[c]⟩ : Str) = ⟨(cs.take at' ++ [c]).toArray⟩ := cat_tx _ [c]
          rw [e, cut_suf cs at' (by omega), len_tx, len_tx, List.length_append, List.length_take, List.length_drop]
          exact small_le (by simp; omega)
        · have e : (⟨(cs.take at').toArray⟩ : Str) ++ (⟨#[c]⟩ : Str) = ⟨(cs.take at' ++ [c]).toArray⟩ := cat_tx _ [c]
          rw [e, cut_suf cs at' (by omega), cat_tx]
          refine ⟨cs.take at' ++ [c] ++ cs.drop at', _, _, rfl, (k'.trans k6).trans k7, S7, ?_⟩
          simp
          omega
      · rintro σ' H' ⟨cs, y3, y5, rfl, k', S', hl⟩
        exact ⟨_, rfl, q _ _ k' S' (by omega)⟩
end
end K5

/-! isinstance of a caught error that has a dict; calls with keywords inside a try -/
namespace PySem.W
open PySem PySem.Spec PySem.Calls PyProof.Rows
section
variable {K : Frag} {x t : Value} {HH : Heap → Prop}
theorem own_ans_true {c : Value} (ty : ∀ (M : Model) (h : Heap), HH h → Looks M h (typeOf x) t) (e : kitCls K t c = some true) : Answers (fun s => K.In s.heap ∧ HH s.heap) x c true := by
  intro dep tk prog w A R sh hs
  obtain ⟨hp0, gg, dd, t5, o5⟩ := sh
  obtain ⟨⟨XX, pp⟩, hq⟩ := hs
  unfold Builtin.«isinstance.nested»
  refine wpAny_bind ((ty (model prog w) hp0 pp).at ?_)
  by_cases qq : (t == c) = true
  · rw [if_pos qq]
    first
      | ((repeat lk); exact hq t5)
      | exact wpAny_bind (wpAny_rule (hq t5))
      | exact wpAny_bind (wpAny_rule (wpAny_pure (hq t5)))
  · rw [if_neg qq]
    obtain ⟨c1, c2, c3⟩ := kit_cls (M := model prog w) XX e
    have c3' : Looks (model prog w) hp0 (isSubtype t c) true := c3
    have LI : Looks (model prog w) hp0 (isInstance x c) true := Looks.andThen (ty (model prog w) hp0 pp) c3'
    refine wpAny_bind (c1.at ?_)
    rw [if_pos (by decide)]
    k_delta "plainIsInstance"
    refine wpAny_bind (wpAny_bind (c2.at ?_))
    simp only [Bool.not_true, Bool.false_eq_true, if_false]
    refine wpAny_bind (LI.at ?_)
    first
      | exact wpAny_pure (wpAny_pure (hq t5))
      | (simp only [if_true]; first | exact wpAny_pure (wpAny_pure (hq t5)) | exact wpAny_pure (hq t5) | exact wpAny_bind (wpAny_pure (wpAny_pure (hq t5))))
theorem own_isi_true {prog : Program} {w : World} {A : Around} {E : Value → Shared → Prop} {Q : Value → Shared → Prop} {s : Shared} {c : Value} (ty : ∀ (M : Model) (h : Heap), HH h → Looks M h (typeOf x) t) (X : K.In s.heap) (p : HH s.heap)
    (e : kitCls K t c = some true) (hx : x ≠ .builtin "__main__.__loader__#opaque") (h : ∀ tk, Q (.bool true) { s with toks := tk }) : wpAny (model prog w) A (PySem.call (.builtin "isinstance") [x, c]) Q E s :=
  call_isinstance (S := fun _ R s => (K.In s.heap ∧ HH s.heap) ∧ ∀ tk, R (.ok (.ret (.bool true))) { s with toks := tk })
    (fun prog w A R s hs => isinstance_outer (own_ans_true ty e 0 _ prog w A R s hs) hx) ⟨⟨X, p⟩, h⟩
end
end PySem.W
namespace K5
open PySem PySem.Spec PyProof.Rows L2
theorem call_isT {X : Cx} {a : Addr} {oe : Obj} {cls : Value} {d : Option Addr} {pn : List (Addr × Obj)} (hz : Zc cls d oe) :
    CallR (X.suite a ((a, oe) :: pn)) (.builtin "isinstance") (fun xs H Q => ∃ c : Addr, xs = [.ref a, .ref c] ∧ PySem.W.kitCls X.K cls (.ref c) = some true ∧ Q (.bl true) H) := by
  intro pins s σ H xs us Q I r h
  obtain ⟨c, rfl, e, q⟩ := h
  obtain ⟨u1, u2, rfl, r1, r2⟩ := vals2 r
  cases (show u1 = Value.ref a from r1)
  cases (show u2 = Value.ref c from r2)
  obtain ⟨hget, _⟩ := I.pin (a, oe) (List.mem_append.mpr (.inl List.mem_cons_self))
  have e1 : oe.cls = cls := hz.1
  refine PySem.W.own_isi_true (HH := fun h => h.get? a = some oe) (t := oe.cls) (fun M h p => (PySem.W.Looks.ld p).andThen .now) I.kIn hget (by rw [e1]; exact e) (fun z => nomatch z) fun tk => ⟨.bl true, H, I.tok tk, rfl, q⟩
/-! ### keywords, within a try -/
def tCallNS (n m : Nat) (sp : Sp) (gV : List V → List V → List V) (E : L2.St → XK) (t tk : TA) : TE := fun σ H Q => t σ H fun vs H1 => tk σ H1 fun zs H2 => vs.length = n ∧ zs.length = m ∧ sp (gV vs zs) H2 Q (E σ)
section
variable {X : Cx} {CX : CXT} {k n : Nat} {f : Addr} {fd : FuncData} {ps ks : List Str} {sp : Sp} {E : L2.St → XK} {x : Str} {p pos : Pos} {e : Expr} {es : List Expr} {kws : List Keyword} {t tk : TA} {g : List Value → List Value → List Value} {gV : List V → List V → List V}
theorem pe_callNS (F : FnOk X.prog X.w X.K X.mg X.base CX k f fd ps sp) (hr : Room k X.A) (hg : Gl X x) (hm : X.mg x = some (.ref f)) (hk : PySem.W.keepIn X.K (.ref f) = true) (hb : KBn X.K fd ps n ks g gV) (hx : ∀ σ, PassesAt CX X σ (E σ))
    (ha : PA X (e :: es) t) (hkw : PK X kws tk) (hall : (backToKw pos (keywordEach kws X.env)).all (·.1.isSome) = true := by rfl) (hks : (backToKw pos (keywordEach kws X.env)).filterMap (·.1) = ks := by rfl)
    (hdb : (x == ("__debug__" : Str)) = false := by decide) (he : starEach (e :: es) X.env = (false, eval e X.env) :: starEach es X.env := by rfl)
    (hpl : ((backTo pos (starEach (e :: es) X.env)).any (·.1) || (backToKw pos (keywordEach kws X.env)).any (·.1.isNone)) = false := by rfl) :
    PE X (.Call (.Name x p) (e :: es) kws pos) (tCallNS n ks.length sp gV E t tk) := by
  refine ⟨fun pins s σ H Q I h => wpAny_Call_Name_kw (ld_glob I hg hm ?_ hdb)⟩
  refine PySem.W.callWith_KW (h₀ := X.base) I.ok.mod.kin hk hall (thn (ha.run pos pins s σ H _ I h) fun us s1 ⟨vs, H1, I1, r, q⟩ => ?_) hpl he
  refine thn (hkw.run pos pins s1 σ H1 _ I1 q) fun ws s2 ⟨zs, H2, I2, rz, l1, l2, q2⟩ => ⟨I2.kIn, ?_⟩
  rw [hks]
  have rr := hb.rel r rz
  refine wpAny_call (codeAny_mono (F.run X.A X.stack s2 H2 ⟨us, ks.zip ws⟩ (g us ws) (gV vs zs) Q (E σ) hr I2.env0 (hb.to s2 us ws I2.kIn (r.length.symm.trans l1) (rz.length.symm.trans l2)) rr q2) fun rs s' hq => ?_)
  cases rs with
  | error er => exact hx σ pins H2 s2 er s' I2 hq
  | ok fl =>
    cases fl with
    | ret u => exact I2.after hq
    | next => exact False.elim hq
    | brk => exact False.elim hq
    | cont => exact False.elim hq
end
theorem kb0 {K : PySem.W.Frag} {x qual : Str} {params : Arguments} {body : List Stmt} {scope : Scope} {kws : List (Str × V)} {f : Addr} {fd : FuncData} {ps : List Str} (F : FunD K x qual params body scope [] kws f fd) (n : Nat) (ks : List Str) (ms : List (Str × V))
    (g : {α : Type} → List α → List α → List α → List α) (hk : kws ≠ []) (hms : ∀ q ∈ ms, q ∈ kws)
    (hrel : ∀ {vs mz zs : List V} {us mv ws : List Value}, Vals vs us → Vals mz mv → Vals zs ws → Vals (g vs mz zs) (g us mv ws))
    (h : ∀ (D : Addr) (doc pm : Value) (an : Option Addr) (cdv ct : Value) (us mv ws : List Value), us.length = n → mv.length = ms.length → ws.length = ks.length →
      KwChain D ((ms.map (·.1)).zip mv) (bindArgs (PySem.W.fnOf x qual params body scope .none (.ref D) doc pm an cdv ct) ⟨us, ks.zip ws⟩) (ps.zip (g us mv ws))) :
    ∃ mv : List Value, KBn K fd ps n ks (fun us ws => g us mv ws) (fun vs zs => g vs (ms.map (·.2)) zs) := by
  obtain ⟨oc, od, dV, kV, doc, pm, an, cdv, ct, osl, rfl, lk, hcd, hD, hK⟩ := F.ex
  rcases hD with ⟨_, rfl⟩ | ⟨e, _⟩
  · rcases hK with e | ⟨D, rfl, hq⟩
    · exact absurd e hk
    · obtain ⟨mv, hl, rk, hks⟩ := kwd_vals (ms := ms) fun q hm => hq q (hms q hm)
      exact ⟨mv, ⟨fun s us ws X l1 l2 => BindsTo.of_looks fun M => KwChain.looks X hks (h D doc pm an cdv ct us mv ws l1 hl l2), fun r1 r2 => hrel r1 rk r2⟩⟩
  · exact absurd rfl e
end K5

namespace K5
open PySem PySem.Spec PyProof.Rows L2
section
variable {P : Program} {w : World} {K : PySem.W.Frag} {mg : Str → Option Value} {base : Heap} {a : Ad} {fI : Addr} {dI : FuncData}
theorem kbt0 (T : Top K mg a) : ∃ mv : List Value, KBn K a.d_tokens ["text", "line"] 1 [] (fun us ws => us ++ mv) (fun vs zs => vs ++ [.int 1]) :=
  kb0 T.F_tokens 1 [] [("line", .int 1)] (fun us mv ws => us ++ mv) (by simp) (fun q h => h) (fun r1 r2 r3 => r1.append r2) fun D doc pm an cdv ct us mv ws l1 l2 l3 => by
    match us, mv, ws, l1, l2, l3 with
    | [u], [m], [], _, _, _ => exact ⟨_, _, _, _, _, _, rfl, rfl, rfl⟩
theorem kbt1 (T : Top K mg a) : ∃ mv : List Value, KBn K a.d_tokens ["text", "line"] 1 ["line"] (fun us ws => us ++ ws) (fun vs zs => vs ++ zs) :=
  kb0 T.F_tokens 1 ["line"] [] (fun us mv ws => us ++ ws) (by simp) (fun q h => by cases h) (fun r1 r2 r3 => r1.append r3) fun D doc pm an cdv ct us mv ws l1 l2 l3 => by
    match us, mv, ws, l1, l2, l3 with
    | [u], [], [m], _, _, _ => exact rfl
def lineV (n : Int) : List V := [.str "line", .int (if n = 0 then 1 else n)]
def spTokL : Sp := fun vs H Q _ => ∃ (cs : List Nat) (n : Int), vs = [tx cs, .int n] ∧ cs.length ≤ 1000 ∧ (∀ fs p H', tk cs = some fs → H p = none → Same H H' → H' p = some (.lst (fs.map tx)) → Q (.ref p) H') ∧ (tk cs = none → ∀ p H', H p = none → Same H H' → H' p = some (.tup (lineV n)) → Q (.ref p) H')
theorem ok_tokL (T : Top K mg a) (TX : TopX K a fI dI) : FnOk P w K mg base CX0 5 a.f_l_tokens a.d_l_tokens ["_law_text_here", "_law_number_here"] spTokL := by
  have G_tokens := ok_tokens (P := P) (w := w) (base := base) T TX
  obtain ⟨mv0, KB0⟩ := kbt0 T
  obtain ⟨_, KB1⟩ := kbt1 T
  refine T.F_l_tokens.ok sc_l_tokens (fun vs H Q E h => ?_) (fun cdv A outer s H vs Q E hr h => ?_)
  · obtain ⟨cs, n, rfl, _⟩ := h
    rfl
  · obtain ⟨cs, n, rfl, hl, q1, q2⟩ := h
    refine ⟨_, pss_cons (ps_try_as (i := 2) (Wout := fun _ _ _ _ => False) rfl rfl sc_l_tokens.nd rfl rfl ⟨rfl, by decide, .inl T.m_BadText⟩ takes0
        (fun W pn xe tk _ => pss_cons (ps_if (pt_cmpR op_eq (pv 1) pe_int (nomark _)) (pss_one (ps_ret (pe_callNS (ks := []) G_tokens (hr.mono (by decide)) (by rfl) T.m_tokens T.F_tokens.kp KB0 (fun σ => passAt tk σ) (pa_cons (pv 0) pa_nil) pk_nil))) pss_nil)
          (pss_one (ps_ret (pe_callNS (ks := ["line"]) G_tokens (hr.mono (by decide)) (by rfl) T.m_tokens T.F_tokens.kp KB1 (fun σ => passAt tk σ) (pa_cons (pv 0) pa_nil) (pk_cons (pv 1) pk_nil)))))
        (fun ea oe cls d pn hz hf => pss_one (ps_if (pt_val (pe_callB (call_isT hz) (by rfl) T.z_isinstance (by decide +kernel) (pa_cons (pv 2) (pa_cons (pe_glob (v := .ref _) (by rfl) T.m_LookerError rfl) pa_nil))))
          (pss_one (ps_ret (pe_tup (pa_cons pe_str (pa_cons (pe_xf TX.xf TX.noL hz hf (pv 2)) pa_nil))))) pss_nil)))
      (pss_one (ps_ret pe_non)), ?_⟩
    have fin : ∀ (v : V) (H' : Hp) (d ea : Addr) (p : Addr) , tk cs = none → V.int (if n = 0 then 1 else n) = v → Same H H' → H' p = none → Q (.ref p) (upd H' p (.tup [.str "line", v])) := fun v H' d ea p ht hv hs np => by
      subst hv
      exact q2 ht p _ (hs.free np) (hs.trans (same_upd np)) upd_same
    refine ⟨.int n, rfl, rfl, _, rfl, ite2 (fun h => ?_) (fun h => ?_)⟩
    · have h0 : n = 0 := V.int.inj (of_decide_eq_true h)
      refine ⟨_, rfl, rfl, rfl, cs, .int 1, rfl, hl, q1, fun ht d H' hd hs hx => ⟨true, TX.te, fun _ ea hea => ?_, fun z => by cases z⟩⟩
      refine ⟨.ref ea, rfl, a.c_LookerError, rfl, TX.su, true, rfl, iteT ⟨.ref ea, rfl, rfl, rfl, d, _, .int 1, rfl, hx, rfl, by show 2 ≤ sizeLine; decide, fun p np => fin _ _ d ea p ht (by rw [if_pos h0]) hs np⟩⟩
    · have h0 : ¬ n = 0 := fun e => h (decide_eq_true (by rw [e]))
      refine ⟨_, rfl, _, rfl, rfl, rfl, cs, .int n, rfl, hl, q1, fun ht d H' hd hs hx => ⟨true, TX.te, fun _ ea hea => ?_, fun z => by cases z⟩⟩
      refine ⟨.ref ea, rfl, a.c_LookerError, rfl, TX.su, true, rfl, iteT ⟨.ref ea, rfl, rfl, rfl, d, _, .int n, rfl, hx, rfl, by show 2 ≤ sizeLine; decide, fun p np => fin _ _ d ea p ht (by rw [if_neg h0]) hs np⟩⟩
end
end K5


namespace K5
open PySem PySem.Spec PyProof.Rows L2
def valid (cs : List Nat) : Bool := !(decide (cs = []) || (decide (cs.head? = some 48) && !decide (cs = [48]))) && cs.all Dg
section
variable {P : Program} {w : World} {K : PySem.W.Frag} {mg : Str → Option Value} {base : Heap} {a : Ad} {fI : Addr} {dI : FuncData}
def spWhole (K : PySem.W.Frag) : Sp := fun vs H Q _ => ∃ (x : V) (lo hi : Int), vs = [x, .int lo, .int hi] ∧ ((∃ i, x = .int i ∧ Q (.bl (decide (lo ≤ i) && decide (i ≤ hi))) H) ∨ (∃ (t : String) (b c : Bool), TyX K H x (.type t) ∧ kitB t "int" = some b ∧ kitB t "bool" = some c ∧ (b && !c) = false ∧ Q (.bl false) H))
theorem ok_whole (T : Top K mg a) : FnOk P w K mg base CX0 2 a.f_is_whole a.d_is_whole ["value", "least", "most"] (spWhole K) := by
  have G_is_int := ok_is_int (P := P) (w := w) (base := base) T
  refine T.F_is_whole.ok sc_is_whole (fun vs H Q E h => ?_) (fun cdv A outer s H vs Q E hr h => ?_)
  · obtain ⟨x, lo, hi, rfl, _⟩ := h
    rfl
  · obtain ⟨x, lo, hi, rfl, h⟩ := h
    refine ⟨_, (pss_one (ps_ret (pe_and (pe_call G_is_int (hr.mono (by decide)) (by rfl) T.m_is_int T.F_is_int.kp T.b_is_int .nil pass0 (pa_cons (pv 0) pa_nil)) (pe_one (pe_chain (OpR.or op_le op_le_str) (OpR.or op_le op_le_str) (pv 1) (pv 0) (pv 2)))))), ?_⟩
    rcases h with ⟨i, rfl, q⟩ | ⟨t, b, c, ht, hb, hc, hf, q⟩
    · refine ⟨.int i, rfl, .int i, "int", true, false, rfl, .base (.int i), by decide +kernel, by decide +kernel, true, rfl, ?_⟩
      refine iteT ⟨.int lo, rfl, .int i, rfl, .inl ⟨lo, i, rfl, rfl, _, rfl, ite2 (fun h1 => ⟨.int hi, rfl, .inl ⟨i, hi, rfl, rfl, ?_⟩⟩) (fun h1 => ?_)⟩⟩
      · rw [h1, Bool.true_and] at q; exact q
      · rw [Bool.eq_false_iff.mpr h1, Bool.false_and] at q; exact q
    · refine ⟨x, rfl, x, t, b, c, rfl, ht, hb, hc, false, by rw [hf], iteF q⟩
def spDec : Sp := fun vs H Q _ => ∃ cs : List Nat, vs = [tx cs] ∧ cs.length ≤ 1000 ∧ ∀ H', Same H H' → Q (.bl (valid cs)) H'
theorem ok_dec (T : Top K mg a) : FnOk P w K mg base CX0 2 a.f_is_decimal a.d_is_decimal ["text"] spDec := by
  have G_is_digit := ok_is_digit (P := P) (w := w) (base := base) T
  refine T.F_is_decimal.ok sc_is_decimal (fun vs H Q E h => ?_) (fun cdv A outer s H vs Q E hr h => ?_)
  · obtain ⟨cs, rfl, _⟩ := h
    rfl
  · obtain ⟨cs, rfl, hl, q⟩ := h
    refine ⟨_, (pss_cons (ps_if (PW.pt (pw_or (pt_cmpR (OpR.or op_eq (op_eqD hr.units)) (pv 0) pe_str (nomark _)) (pw_or1 (PW.pt (pw_and (pt_cmpR (OpR.or op_eq (op_eqD hr.units)) (pe_ix ix_seq (pv 0) pe_int (fun _ _ => rfl)) pe_str (nomark _)) (pw_and1 (pt_cmpR (OpR.or op_ne (op_neD hr.units)) (pv 0) pe_str (nomark _))))))))
      (pss_one (ps_ret pe_bl))
      pss_nil)
    (pss_one (ps_ret (pe_callB (cr_all rfl) (by rfl) T.z_all (by decide +kernel) (pa_cons (pe_lc (own := [("sign", 1)]) rfl sc_is_decimal.nd (pi_str (pv 0)) (blkOk_by (own := [("sign", 1)]) (N := ["text", "sign"]) (sc := defScope s_is_decimal) (by decide +kernel)) (fun _ _ _ _ _ => (pg_name (i := 1) sc_is_decimal.nd rfl (.inl rfl))) (fun _ _ _ _ _ => pts_nil) (fun _ _ _ _ _ => (pe_call G_is_digit (hr.mono (by decide)) (by rfl) T.m_is_digit T.F_is_digit.kp T.b_is_digit .nil pass0 (pa_cons (pv 1) pa_nil)))) pa_nil))))), ?_⟩
    have hz : (⟨cs.toArray⟩ : Str).length ≤ sizeLine := by rw [len_tx]; exact small_le hl
    have e48 : (PySem.Str.ofString "0").cps.toList = [48] := by decide +kernel
    have enil : (PySem.Str.ofString "").cps.toList = [] := by decide +kernel
    refine if_ans (b := decide (cs = []) || (decide (cs.head? = some 48) && !decide (cs = [48]))) (fun Q' q' => ?_) (fun h => ?_) (fun h => ?_)
    · -- the test
      refine ⟨_, rfl, .inl ⟨rfl, _, rfl, ?_⟩⟩
      rw [tx_eq, enil]
      refine ite2 (fun h => ?_) (fun h => ?_)
      · rw [h, Bool.true_or] at q'; exact q'
      · rw [Bool.eq_false_iff.mpr h, Bool.false_or] at q'
        have hne : cs ≠ [] := fun e => h (decide_eq_true e)
        obtain ⟨c, r, rfl⟩ := List.exists_cons_of_ne_nil hne
        refine ⟨_, rfl, .inr (.inr ⟨_, 0, c, rfl, rfl, hz, atI_nat (j := 0) rfl, .inl ⟨rfl, _, rfl, ?_⟩⟩)⟩
        rw [sg_eq c _ 48 e48]
        have eh : decide ((c :: r).head? = some 48) = decide (c = 48) := by simp
        rw [eh] at q'
        refine ite2 (fun h2 => ⟨_, rfl, .inl ⟨rfl, _, rfl, ?_⟩⟩) (fun h2 => ?_)
        · rw [tx_eq, e48]
          rw [h2, Bool.true_and] at q'; exact q'
        · rw [Bool.eq_false_iff.mpr h2, Bool.false_and] at q'; exact q'
    · have hv : valid cs = false := by unfold valid; rw [h]; rfl
      have := q H (Same.refl H)
      rw [hv] at this
      exact this
    · have hv : valid cs = cs.all Dg := by unfold valid; rw [h]; rfl
      refine ⟨_, rfl, _, rfl, fun D nD => ?_⟩
      refine lc_it walk_str (fun i H' => Same H H' ∧ H' D = some (.lst ((cs.take i).map fun c => V.bl (Dg c)))) ⟨Same.mut (Same.refl _) nD, by rw [upd_same]; rfl⟩ (fun _ _ _ _ => trivial) ?_ ?_
      · rintro i x H1 H' hi ⟨hs, hD⟩ ⟨rfl, c, hc, rfl⟩
        rw [get_tx] at hc
        refine ⟨rfl, _, rfl, c, rfl, _, hD, ?_, Same.mut hs nD, ?_⟩
        · rw [List.length_map, List.length_take]
          exact small1000 (by omega)
        · rw [upd_same, List.take_add_one, hc, List.map_append]
          rfl
      · rintro H' ⟨hs, hD⟩
        have e : cs.take (⟨cs.toArray⟩ : Str).cps.size = cs := by simp
        rw [e] at hD
        refine ⟨D, cs.map Dg, rfl, ?_, ?_⟩
        · rw [List.map_map]; exact SqL.of hD
        · have e2 : (cs.map Dg).all id = cs.all Dg := by rw [List.all_map]; rfl
          rw [e2, ← hv]
          exact q H' hs
end
end K5


namespace K5
open PySem PySem.Spec PyProof.Rows L2
/-! ### numbers as texts -/
def strI (i : Int) : List Nat := (PySem.Str.ofString (toString i)).cps.toList
theorem str_tx (i : Int) : V.str (PySem.Str.ofString (toString i)) = tx (strI i) := by
  unfold strI
  cases PySem.Str.ofString (toString i)
  simp
theorem str_tx' (i : Int) : PySem.Str.ofString (toString i) = ⟨(strI i).toArray⟩ := V.str.inj (str_tx i)
theorem strI_nat (m : Nat) : strI (m : Int) = TL.numL m := TL.tl_num m
theorem strI_len {i : Int} (h0 : -2 ≤ i) (h1 : i < 10 ^ 10) : (strI i).length ≤ 10 := by
  by_cases h : 0 ≤ i
  · obtain ⟨m, rfl⟩ := Int.eq_ofNat_of_zero_le h
    rw [strI_nat]
    exact TL.numL_len (by decide) (by omega)
  · have : i = -1 ∨ i = -2 := by omega
    rcases this with e | e <;> subst e <;> decide +kernel
theorem strI_ne {i : Int} (h0 : -2 ≤ i) (h1 : i < 10 ^ 10) : strI i ≠ [] := by
  by_cases h : 0 ≤ i
  · obtain ⟨m, rfl⟩ := Int.eq_ofNat_of_zero_le h
    rw [strI_nat]
    exact TL.numL_ne m
  · have : i = -1 ∨ i = -2 := by omega
    rcases this with e | e <;> subst e <;> decide +kernel
theorem log_ok {i : Int} (h0 : -2 ≤ i) (h1 : i < 10 ^ 10) : i.natAbs.log2 < 1920 := by
  have : i.natAbs < 2 ^ 40 := by omega
  have := PySem.Flt.log2_lt_of (k := 40) (by decide) this
  omega
open NumText
theorem val_acc : ∀ (l : List Nat) (x : Nat), l.foldl (fun acc c => acc * 10 + (c - 48)) x = x * 10 ^ l.length + l.foldl (fun acc c => acc * 10 + (c - 48)) 0
  | [], x => by simp
  | c :: r, x => by
    rw [List.foldl_cons, List.foldl_cons, val_acc r (x * 10 + (c - 48)), val_acc r (0 * 10 + (c - 48)), List.length_cons, Nat.pow_succ, Nat.zero_mul, Nat.zero_add, Nat.add_mul]
    have : x * 10 * 10 ^ r.length = x * (10 ^ r.length * 10) := by rw [Nat.mul_assoc, Nat.mul_comm 10]
    omega
theorem val_cons (c : Nat) (r : List Nat) : digitsVal (c :: r) = (c - 48) * 10 ^ r.length + digitsVal r := by
  unfold digitsVal
  rw [List.foldl_cons, val_acc r (0 * 10 + (c - 48)), Nat.zero_mul, Nat.zero_add]
theorem val_lt : ∀ {l : List Nat}, AllDigits l → digitsVal l < 10 ^ l.length
  | [], _ => by decide
  | c :: r, h => by
    rw [val_cons, List.length_cons, Nat.pow_succ]
    have h1 := val_lt h.tail
    have h2 := h.head
    have h3 : (c - 48) * 10 ^ r.length ≤ 9 * 10 ^ r.length := Nat.mul_le_mul_right _ (by omega)
    omega
theorem dg_all {cs : List Nat} (h : cs.all Dg = true) : AllDigits cs := fun c hc => by
  have := List.all_eq_true.mp h c hc
  unfold Dg at this
  simp only [Bool.and_eq_true, decide_eq_true_eq] at this
  exact this
theorem valid_iff (cs : List Nat) : valid cs = true ↔ cs ≠ [] ∧ (cs.head? = some 48 → cs = [48]) ∧ cs.all Dg = true := by
  unfold valid
  simp only [Bool.and_eq_true, Bool.not_eq_true', Bool.or_eq_false_iff, decide_eq_false_iff_not, Bool.and_eq_false_iff]
  constructor
  · rintro ⟨⟨h1, h2⟩, h3⟩
    refine ⟨h1, fun h => ?_, h3⟩
    rcases h2 with h2 | h2
    · exact absurd h h2
    · simpa using h2
  · rintro ⟨h1, h2, h3⟩
    refine ⟨⟨h1, ?_⟩, h3⟩
    by_cases h : cs.head? = some 48
    · exact .inr (by simpa using h2 h)
    · exact .inl h
theorem len_bound {cs : List Nat} {hi : Int} (hv : valid cs = true) (h : (digitsVal cs : Int) ≤ hi) : cs.length ≤ (strI hi).length := by
  obtain ⟨h1, h2, h3⟩ := (valid_iff cs).mp hv
  obtain ⟨m, rfl⟩ := Int.eq_ofNat_of_zero_le (show 0 ≤ hi by omega)
  rw [strI_nat]
  have hne : 0 < (TL.numL m).length := List.length_pos_iff.mpr (TL.numL_ne m)
  have hm : m < 10 ^ (TL.numL m).length := by
    have := val_lt (TL.numL_digits m)
    rw [TL.numL_val] at this
    exact this
  have hd := dg_all h3
  cases cs with
  | nil => exact absurd rfl h1
  | cons c r =>
    cases r with
    | nil => exact hne
    | cons d r' =>
      have hc : c ≠ 48 := fun e => by
        have := h2 (by rw [e]; rfl)
        simp at this
      have h4 := hd.head
      have h5 : 1 * 10 ^ (d :: r').length ≤ (c - 48) * 10 ^ (d :: r').length := Nat.mul_le_mul_right _ (by omega)
      have h6 : digitsVal (c :: d :: r') = (c - 48) * 10 ^ (d :: r').length + digitsVal (d :: r') := val_cons _ _
      have h7 : 10 ^ (d :: r').length < 10 ^ (TL.numL m).length := by omega
      have h8 := (Nat.pow_lt_pow_iff_right (a := 10) (by decide)).mp h7
      simp only [List.length_cons] at h8 ⊢
      omega
def valOf (cs : List Nat) (lo hi : Int) : Option Int := if valid cs = true ∧ lo ≤ (digitsVal cs : Int) ∧ (digitsVal cs : Int) ≤ hi then some (digitsVal cs : Int) else none
section
variable {P : Program} {w : World} {K : PySem.W.Frag} {mg : Str → Option Value} {base : Heap} {a : Ad} {fI : Addr} {dI : FuncData}
def spNum (C : Addr) : Sp := fun vs H Q E => ∃ (cs : List Nat) (lo hi : Int) (v : V), vs = [tx cs, .int lo, .int hi, v] ∧ cs.length ≤ 1000 ∧ -2 ≤ hi ∧ hi < 10 ^ 10 ∧ (∀ n H', valOf cs lo hi = some n → Same H H' → Q (.int n) H') ∧ (valOf cs lo hi = none → RaisesLine C H v E)
theorem ok_num (T : Top K mg a) (TX : TopX K a fI dI) : FnOk P w K mg base (L2.CX P w) 4 a.f_read_number a.d_read_number ["text", "least", "most", "line"] (spNum a.c_BadText) := by
  have G_is_decimal := ok_dec (P := P) (w := w) (base := base) T
  have G_init := ok_init (P := P) (w := w) (mg := mg) (base := base) TX
  refine T.F_read_number.ok sc_read_number (fun vs H Q E h => ?_) (fun cdv A outer s H vs Q E hr h => ?_)
  · obtain ⟨cs, lo, hi, v, rfl, _⟩ := h
    rfl
  · obtain ⟨cs, lo, hi, v, rfl, hl, hh0, hh1, q1, q2⟩ := h
    refine ⟨_, (pss_cons (ps_if (PW.pt (pw_or (pt_cmpR (OpR.or op_gt op_gt_str) (pe_callB (CallR.or call_len_str call_len_seq) (by rfl) T.z_len (by decide +kernel) (pa_cons (pv 0) pa_nil)) (pe_callB (CallR.or call_len_str call_len_seq) (by rfl) T.z_len (by decide +kernel) (pa_cons (pe_callTy call_str_int (by rfl) T.z_str (by decide +kernel) (pa_cons (pv 2) pa_nil)) pa_nil)) (nomark _)) (pw_or1 (pt_not (pt_val (pe_call G_is_decimal (hr.mono (by decide)) (by rfl) T.m_is_decimal T.F_is_decimal.kp T.b_is_decimal .nil pass0 (pa_cons (pv 0) pa_nil)))))))
      (pss_one (ps_raise rfl (takes_of rfl rfl rfl rfl) (pmk_oex TX.ox TX.iC TX.tI G_init (hr.mono (by decide)) TX.b_init .nil pass0F (by rfl) T.m_BadText (pa_cons (pv 3) pa_nil))))
      pss_nil)
    (pss_cons (ps_set (i := 4) sc_read_number.nd rfl (.inl rfl) (pe_callTy (CallR.or call_int1 call_int_str) (by rfl) T.z_int (by decide +kernel) (pa_cons (pv 0) pa_nil)))
    (pss_cons (ps_if (pt_not (pt_chain (OpR.or op_le op_le_str) (OpR.or op_le op_le_str) (pv 1) (pv 4) (pv 2)))
      (pss_one (ps_raise rfl (takes_of rfl rfl rfl rfl) (pmk_oex TX.ox TX.iC TX.tI G_init (hr.mono (by decide)) TX.b_init .nil pass0F (by rfl) T.m_BadText (pa_cons (pv 3) pa_nil))))
      pss_nil)
    (pss_one (ps_ret (pv 4)))))), ?_⟩
    have hz : (⟨cs.toArray⟩ : Str).length ≤ sizeLine := by rw [len_tx]; exact small_le hl
    have hs := strI_len hh0 hh1
    refine ⟨_, rfl, .inl ⟨_, rfl, hz, _, rfl, hi, rfl, log_ok hh0 hh1, .inl ⟨_, rfl, ?_, .inl ⟨_, _, rfl, rfl, _, rfl, ?_⟩⟩⟩⟩
    · rw [str_tx', len_tx]; exact small_le (by omega)
    rw [str_tx', len_tx, len_tx]
    refine ite2 (fun h => ?_) (fun h => ?_)
    · have hlt := of_decide_eq_true h
      refine iteT (raise_line (fun Q q => ⟨_, rfl, q⟩) (q2 ?_))
      unfold valOf
      rw [if_neg]
      rintro ⟨h1, h2, h3⟩
      have := len_bound h1 h3
      omega
    · have hle := of_decide_eq_false (Bool.eq_false_iff.mpr h)
      refine ⟨_, rfl, cs, rfl, hl, fun H' sm => ⟨_, rfl, ?_⟩⟩
      by_cases hv : valid cs = true
      · rw [hv]
        obtain ⟨h1, h2, h3⟩ := (valid_iff cs).mp hv
        have hd := dg_all h3
        refine iteF ⟨_, rfl, .inr ⟨_, _, rfl, PySem.intText_digits (x := ⟨cs.toArray⟩) (by rw [cps_tx]; exact hd) (by rw [cps_tx]; exact h1) (by rw [len_tx]; omega), by rw [len_tx]; omega, ?_⟩⟩
        rw [cps_tx]
        refine ⟨_, rfl, _, rfl, .inl ⟨_, _, rfl, rfl, _, rfl, ite2 (fun h4 => ⟨_, rfl, .inl ⟨_, _, rfl, rfl, _, rfl, ?_⟩⟩) (fun h4 => ?_)⟩⟩
        · by_cases h5 : (digitsVal cs : Int) ≤ hi
          · rw [decide_eq_true h5]
            refine iteF ⟨_, rfl, q1 _ _ ?_ sm⟩
            unfold valOf
            rw [if_pos ⟨hv, of_decide_eq_true h4, h5⟩]
          · rw [decide_eq_false h5]
            refine iteT (raise_line (fun Q q => ⟨_, rfl, q⟩) ((q2 ?_).mono sm))
            unfold valOf
            rw [if_neg (fun z => h5 z.2.2)]
        · refine ⟨false, rfl, iteT (raise_line (fun Q q => ⟨_, rfl, q⟩) ((q2 ?_).mono sm))⟩
          unfold valOf
          rw [if_neg (fun z => h4 (decide_eq_true z.2.1))]
      · rw [Bool.eq_false_iff.mpr hv]
        refine iteT (raise_line (fun Q q => ⟨_, rfl, q⟩) ((q2 ?_).mono sm))
        unfold valOf
        rw [if_neg (fun z => hv z.1)]
end
end K5

namespace K5
open PySem PySem.Spec PyProof.Rows L2
section
variable {P : Program} {w : World} {K : PySem.W.Frag} {mg : Str → Option Value} {base : Heap} {a : Ad} {fI : Addr} {dI : FuncData}
abbrev numPs : List Str := ["text", "least", "most", "line"]
theorem kbn0 (T : Top K mg a) : ∃ mv : List Value, KBn K a.d_read_number numPs 1 [] (fun us ws => us ++ mv) (fun vs zs => vs ++ [.int 0, .int 999, .int 1]) :=
  kb0 T.F_read_number 1 [] [("least", .int 0), ("most", .int 999), ("line", .int 1)] (fun us mv ws => us ++ mv) (by simp) (fun q h => h) (fun r1 r2 r3 => r1.append r2) fun D doc pm an cdv ct us mv ws l1 l2 l3 => by
    match us, mv, ws, l1, l2, l3 with
    | [u], [m1, m2, m3], [], _, _, _ => exact ⟨_, _, _, _, _, _, rfl, rfl, ⟨_, _, _, _, _, _, rfl, rfl, ⟨_, _, _, _, _, _, rfl, rfl, rfl⟩⟩⟩
theorem kbn3 (T : Top K mg a) : ∃ mv : List Value, KBn K a.d_read_number numPs 1 ["least", "most", "line"] (fun us ws => us ++ ws) (fun vs zs => vs ++ zs) :=
  kb0 T.F_read_number 1 ["least", "most", "line"] [] (fun us mv ws => us ++ ws) (by simp) (fun q h => by cases h) (fun r1 r2 r3 => r1.append r3) fun D doc pm an cdv ct us mv ws l1 l2 l3 => by
    match us, mv, ws, l1, l2, l3 with
    | [u], [], [m1, m2, m3], _, _, _ => exact rfl
theorem kbnL (T : Top K mg a) : ∃ mv : List Value, KBn K a.d_read_number numPs 1 ["least"] (fun us ws => us ++ (ws ++ mv)) (fun vs zs => vs ++ (zs ++ [.int 999, .int 1])) :=
  kb0 T.F_read_number 1 ["least"] [("most", .int 999), ("line", .int 1)] (fun us mv ws => us ++ (ws ++ mv)) (by simp) (fun q h => List.mem_cons_of_mem _ h) (fun r1 r2 r3 => r1.append (r3.append r2)) fun D doc pm an cdv ct us mv ws l1 l2 l3 => by
    match us, mv, ws, l1, l2, l3 with
    | [u], [m1, m2], [k], _, _, _ => exact ⟨_, _, _, _, _, _, rfl, rfl, ⟨_, _, _, _, _, _, rfl, rfl, rfl⟩⟩
def midG {α : Type} (us mv ws : List α) : List α := match mv with
  | [] => us ++ ws
  | m :: r => us ++ (m :: (ws ++ r))
theorem midG_rel {vs mz zs : List V} {us mv ws : List Value} (r1 : Vals vs us) (r2 : Vals mz mv) (r3 : Vals zs ws) : Vals (midG vs mz zs) (midG us mv ws) := by
  cases r2 with
  | nil => exact r1.append r3
  | cons h t => exact r1.append (.cons h (r3.append t))
theorem kbnM (T : Top K mg a) : ∃ mv : List Value, KBn K a.d_read_number numPs 1 ["most"] (fun us ws => midG us mv ws) (fun vs zs => midG vs [.int 0, .int 1] zs) :=
  kb0 T.F_read_number 1 ["most"] [("least", .int 0), ("line", .int 1)] (fun us mv ws => midG us mv ws) (by simp) (fun q h => by
    rcases List.mem_cons.mp h with e | e
    · rw [e]; simp
    · rw [List.mem_singleton.mp e]; simp) midG_rel fun D doc pm an cdv ct us mv ws l1 l2 l3 => by
    match us, mv, ws, l1, l2, l3 with
    | [u], [m1, m2], [k], _, _, _ => exact ⟨_, _, _, _, _, _, rfl, rfl, ⟨_, _, _, _, _, _, rfl, rfl, rfl⟩⟩
theorem int_dec (x y : Int) : decide (V.int x = V.int y) = decide (x = y) := by
  by_cases h : x = y
  · rw [decide_eq_true h, decide_eq_true (by rw [h])]
  · rw [decide_eq_false h, decide_eq_false (fun z => h (V.int.inj z))]
def effL (lo hi n : Int) : Int := if 0 < n then lo else if lo = -2 then 0 else lo
def effM (lo hi n : Int) : Int := if 0 < n then hi else if lo = -2 ∧ hi = -2 then 999 else if lo = -2 then hi else 999
def effN (n : Int) : Int := if 0 < n then n else 1
def spRead : Sp := fun vs H Q _ => ∃ (cs : List Nat) (lo hi n : Int), vs = [tx cs, .int lo, .int hi, .int n] ∧ cs.length ≤ 1000 ∧ -2 ≤ hi ∧ hi < 10 ^ 10 ∧
  (∀ k H', valOf cs (effL lo hi n) (effM lo hi n) = some k → Same H H' → Q (.int k) H') ∧ (valOf cs (effL lo hi n) (effM lo hi n) = none → ∀ p H', H p = none → Same H H' → H' p = some (.tup [.str "line", .int (effN n)]) → Q (.ref p) H')
theorem ok_read (T : Top K mg a) (TX : TopX K a fI dI) : FnOk P w K mg base CX0 5 a.f_l_read a.d_l_read ["_law_text_here", "_law_low", "_law_high", "_law_number_here"] spRead := by
  have G := ok_num (P := P) (w := w) (base := base) T TX
  obtain ⟨mv0, KB0⟩ := kbn0 T
  obtain ⟨_, KB3⟩ := kbn3 T
  obtain ⟨mvL, KBL⟩ := kbnL T
  obtain ⟨mvM, KBM⟩ := kbnM T
  refine T.F_l_read.ok sc_l_read (fun vs H Q E h => ?_) (fun cdv A outer s H vs Q E hr h => ?_)
  · obtain ⟨cs, lo, hi, n, rfl, _⟩ := h
    rfl
  · obtain ⟨cs, lo, hi, n, rfl, hl, hh0, hh1, q1, q2⟩ := h
    refine ⟨_, pss_cons (ps_try_as (i := 4) (Wout := fun _ _ _ _ => False) rfl rfl sc_l_read.nd rfl rfl ⟨rfl, by decide, .inl T.m_BadText⟩ takes0
        (fun W pn xe tk _ => pss_cons (ps_if (pt_cmpR op_gt (pv 3) pe_int (nomark _)) (pss_one (ps_ret (pe_callNS (ks := ["least", "most", "line"]) G (hr.mono (by decide)) (by rfl) T.m_read_number T.F_read_number.kp KB3 (fun σ => passAt tk σ) (pa_cons (pv 0) pa_nil) (pk_cons (pv 1) (pk_cons (pv 2) (pk_cons (pv 3) pk_nil)))))) pss_nil)
          (pss_cons (ps_if (PW.pt (pw_and (pt_cmpR op_eq (pv 1) (pe_un un_neg pe_int) (nomark _)) (pw_and1 (pt_cmpR op_eq (pv 2) (pe_un un_neg pe_int) (nomark _))))) (pss_one (ps_ret (pe_callNS (ks := []) G (hr.mono (by decide)) (by rfl) T.m_read_number T.F_read_number.kp KB0 (fun σ => passAt tk σ) (pa_cons (pv 0) pa_nil) pk_nil))) pss_nil)
          (pss_cons (ps_if (pt_cmpR op_eq (pv 1) (pe_un un_neg pe_int) (nomark _)) (pss_one (ps_ret (pe_callNS (ks := ["most"]) G (hr.mono (by decide)) (by rfl) T.m_read_number T.F_read_number.kp KBM (fun σ => passAt tk σ) (pa_cons (pv 0) pa_nil) (pk_cons (pv 2) pk_nil)))) pss_nil)
          (pss_one (ps_ret (pe_callNS (ks := ["least"]) G (hr.mono (by decide)) (by rfl) T.m_read_number T.F_read_number.kp KBL (fun σ => passAt tk σ) (pa_cons (pv 0) pa_nil) (pk_cons (pv 1) pk_nil)))))))
        (fun ea oe cls d pn hz hf => pss_one (ps_if (pt_val (pe_callB (call_isT hz) (by rfl) T.z_isinstance (by decide +kernel) (pa_cons (pv 4) (pa_cons (pe_glob (v := .ref _) (by rfl) T.m_LookerError rfl) pa_nil))))
          (pss_one (ps_ret (pe_tup (pa_cons pe_str (pa_cons (pe_xf TX.xf TX.noL hz hf (pv 4)) pa_nil))))) pss_nil)))
      (pss_one (ps_ret pe_non)), ?_⟩
    have fin : ∀ (v : V) (H' : Hp) (p : Addr), valOf cs (effL lo hi n) (effM lo hi n) = none → V.int (effN n) = v → Same H H' → H' p = none → Q (.ref p) (upd H' p (.tup [.str "line", v])) := fun v H' p ht hv hs np => by
      subst hv
      exact q2 ht p _ (hs.free np) (hs.trans (same_upd np)) upd_same
    have e2 : (-(2 : Int)) = -2 := rfl
    refine ⟨_, rfl, _, _, rfl, rfl, _, rfl, ite2 (fun h => ?_) (fun h => ?_)⟩
    · have h0 : 0 < n := of_decide_eq_true h
      have eL : effL lo hi n = lo := if_pos h0
      have eM : effM lo hi n = hi := if_pos h0
      have eN : effN n = n := if_pos h0
      rw [eL, eM] at q1 fin
      refine ⟨_, rfl, _, rfl, _, rfl, _, rfl, rfl, rfl, cs, lo, hi, .int n, rfl, hl, hh0, hh1, q1, fun ht d H' hd hs hx => ⟨true, TX.te, fun _ ea hea => ?_, fun z => by cases z⟩⟩
      exact ⟨.ref ea, rfl, a.c_LookerError, rfl, TX.su, true, rfl, iteT ⟨.ref ea, rfl, rfl, rfl, d, _, .int n, rfl, hx, rfl, by show 2 ≤ sizeLine; decide, fun p np => fin _ _ p ht (by rw [eN]) hs np⟩⟩
    · have h0 : ¬ 0 < n := of_decide_eq_false (Bool.eq_false_iff.mpr h)
      have eN : effN n = 1 := if_neg h0
      have tl : ∀ (v : Int) (H' : Hp) (D : Addr) (hs : Same H H') (ht : valOf cs (effL lo hi n) (effM lo hi n) = none) (p : Addr), v = 1 → H' p = none → Q (.ref p) (upd H' p (.tup [.str "line", .int v])) := fun v H' D hs ht p hv np => fin _ _ p ht (by rw [eN, hv]) hs np
      unfold tNext
      dsimp only
      refine st_seq ?_
      refine if_ans (b := decide (lo = -2) && decide (hi = -2)) (ans_and2 (fun Q q => ⟨_, rfl, 2, rfl, rfl, _, rfl, by rw [int_dec]; exact q⟩) (fun Q q => ⟨_, rfl, 2, rfl, rfl, _, rfl, by rw [int_dec]; exact q⟩)) (fun h1 => ?_) (fun h1 => ?_)
      · simp only [Bool.and_eq_true, decide_eq_true_eq] at h1
        have eL : effL lo hi n = 0 := by unfold effL; rw [if_neg h0, if_pos h1.1]
        have eM : effM lo hi n = 999 := by unfold effM; rw [if_neg h0, if_pos h1]
        rw [eL, eM] at q1 tl
        refine ⟨_, rfl, rfl, rfl, cs, 0, 999, .int 1, rfl, hl, by decide, by decide, q1, fun ht d H' hd hs hx => ⟨true, TX.te, fun _ ea hea => ?_, fun z => by cases z⟩⟩
        exact ⟨.ref ea, rfl, a.c_LookerError, rfl, TX.su, true, rfl, iteT ⟨.ref ea, rfl, rfl, rfl, d, _, .int 1, rfl, hx, rfl, by show 2 ≤ sizeLine; decide, fun p np => tl _ _ d hs ht p rfl np⟩⟩
      · have h1' : ¬ (lo = -2 ∧ hi = -2) := fun z => by rw [z.1, z.2] at h1; exact absurd h1 (by decide)
        dsimp only [tNext]
        refine st_seq ?_
        refine if_ans (b := decide (lo = -2)) (fun Q q => ⟨_, rfl, 2, rfl, rfl, _, rfl, by rw [int_dec]; exact q⟩) (fun h2 => ?_) (fun h2 => ?_)
        · have h2' : lo = -2 := of_decide_eq_true h2
          have eL : effL lo hi n = 0 := by unfold effL; rw [if_neg h0, if_pos h2']
          have eM : effM lo hi n = hi := by unfold effM; rw [if_neg h0, if_neg h1', if_pos h2']
          rw [eL, eM] at q1 tl
          refine ⟨_, rfl, _, rfl, rfl, rfl, cs, 0, hi, .int 1, rfl, hl, hh0, hh1, q1, fun ht d H' hd hs hx => ⟨true, TX.te, fun _ ea hea => ?_, fun z => by cases z⟩⟩
          exact ⟨.ref ea, rfl, a.c_LookerError, rfl, TX.su, true, rfl, iteT ⟨.ref ea, rfl, rfl, rfl, d, _, .int 1, rfl, hx, rfl, by show 2 ≤ sizeLine; decide, fun p np => tl _ _ d hs ht p rfl np⟩⟩
        · have h2' : ¬ lo = -2 := of_decide_eq_false h2
          have eL : effL lo hi n = lo := by unfold effL; rw [if_neg h0, if_neg h2']
          have eM : effM lo hi n = 999 := by unfold effM; rw [if_neg h0, if_neg h1', if_neg h2']
          rw [eL, eM] at q1 tl
          refine ⟨_, rfl, _, rfl, rfl, rfl, cs, lo, 999, .int 1, rfl, hl, by decide, by decide, q1, fun ht d H' hd hs hx => ⟨true, TX.te, fun _ ea hea => ?_, fun z => by cases z⟩⟩
          exact ⟨.ref ea, rfl, a.c_LookerError, rfl, TX.su, true, rfl, iteT ⟨.ref ea, rfl, rfl, rfl, d, _, .int 1, rfl, hx, rfl, by show 2 ≤ sizeLine; decide, fun p np => tl _ _ d hs ht p rfl np⟩⟩
end
end K5


namespace K5
open PySem PySem.Spec PyProof.Rows L2
theorem rep_size (a : Array Nat) : ∀ (n : Nat) (b : Array Nat), ((List.replicate n a).foldl (· ++ ·) b).size = b.size + n * a.size
  | 0, b => by simp
  | n + 1, b => by
    rw [List.replicate_succ, List.foldl_cons, rep_size a n, Array.size_append, Nat.add_mul]
    omega
def repS (n : Nat) (z : Str) : Str := ⟨(List.replicate n z.cps).foldl (· ++ ·) #[]⟩
theorem repS_len (n : Nat) (z : Str) : (repS n z).length = n * z.length := by
  have := rep_size z.cps n #[]
  simp only [Array.size_empty, Nat.zero_add] at this
  exact this
theorem op_repS {X : Cx} : OpR X (binaryOp .Mult) (fun x y H Q => ∃ (z : Str) (n : Nat), x = .str z ∧ y = .int n ∧ 2 ≤ n ∧ n ≤ 1000 ∧ 1 ≤ z.length ∧ z.length ≤ 1000 ∧ Q (.str (repS n z)) H) := by
  intro pins s σ H x y v u Q I rx ry h
  obtain ⟨z, n, rfl, rfl, h1, h2, h3, h4, q⟩ := h
  obtain ⟨t, rfl⟩ := rx
  obtain ⟨t', rfl⟩ := ry
  have c1 : ((n : Int) == 1 || z.length == 0) = false := by
    rw [Bool.or_eq_false_iff]
    exact ⟨by rw [beq_eq_false_iff_ne]; omega, by rw [beq_eq_false_iff_ne]; omega⟩
  have hm : z.length * (n : Int).toNat ≤ 1000 * 1000 := Nat.mul_le_mul h4 (by simpa using h2)
  refine PySem.P.mul_str ?_ (fun _ _ => ?_) (fun _ _ => ?_) ?_
  · rw [decide_eq_false (by omega), decide_eq_false (by omega)]
    rfl
  · have : (1000 : Int) ≤ (2 ^ 63 - 1) / (n : Int) := by
      rw [Int.le_ediv_iff_mul_le (by omega)]
      omega
    omega
  · refine decide_eq_false ?_
    have e : sizeLine = 16777216 := by decide
    rw [e]
    omega
  · rw [if_neg (by omega), c1, if_neg Bool.false_ne_true]
    refine ⟨?_, ⟨.str (repS n z), H, I.tok _, ⟨_, rfl⟩, q⟩⟩
    have e : sizeLine = 16777216 := by decide
    have := repS_len n z
    show (repS n z).length ≤ sizeLine
    rw [e, this, Nat.mul_comm]
    have : z.length * n ≤ 1000 * 1000 := Nat.mul_le_mul h4 h2
    omega
def intIn (lo hi : Int) : V → Bool
  | .int i => decide (lo ≤ i) && decide (i ≤ hi)
  | _ => false
theorem int_at {lo hi : Int} {xs : List V} (h : xs.all (intIn lo hi) = true) {j : Nat} (hj : j < xs.length) : ∃ i : Int, xs[j]? = some (.int i) ∧ lo ≤ i ∧ i ≤ hi := by
  have h1 := List.getElem?_eq_getElem hj
  have h2 := List.all_eq_true.mp h _ (List.getElem_mem hj)
  generalize xs[j] = v at h1 h2
  cases v with
  | int i =>
    unfold intIn at h2
    simp only [Bool.and_eq_true, decide_eq_true_eq] at h2
    exact ⟨i, h1, h2⟩
  | _ => cases h2
theorem len_app (a b : Str) : (a ++ b).length = a.length + b.length := Array.size_append
theorem cutS_le (z : Str) (lo hi : Option Int) : (cutS z lo hi).length ≤ z.length := by
  unfold cutS
  show (List.toArray _).size ≤ _
  rw [List.size_toArray, List.length_take, List.length_drop, Array.length_toList]
  have : z.cps.size = z.length := rfl
  omega
section
variable {P : Program} {w : World} {K : PySem.W.Frag} {mg : Str → Option Value} {base : Heap} {a : Ad}
def spNumb : Sp := fun vs H Q _ => ∃ st : Addr, vs = [.ref st] ∧ Sta H st ∧ ∀ H' v, Kp st H H' → Sta H' st → 0 ≤ v → v ≤ 999999 → Q (.int v) H'
theorem ok_numb (T : Top K mg a) : FnOk P w K mg base CX0 3 a.f_l_number a.d_l_number ["_law_state_here"] spNumb := by
  have G_l_draw := ok_draw (P := P) (w := w) (base := base) T
  have G_l_wide := ok_wide (P := P) (w := w) (base := base) T
  refine T.F_l_number.ok sc_l_number (fun vs H Q E h => ?_) (fun cdv A outer s H vs Q E hr h => ?_)
  · obtain ⟨st, rfl, _⟩ := h
    rfl
  · obtain ⟨st, rfl, S, q⟩ := h
    refine ⟨_, (pss_cons (ps_set (i := 1) sc_l_number.nd rfl (.inl rfl) (pe_tup (pa_cons pe_int (pa_cons pe_int (pa_cons pe_int (pa_cons pe_int (pa_cons pe_int (pa_cons pe_int (pa_cons pe_int (pa_cons pe_int (pa_cons pe_int (pa_cons pe_int pa_nil))))))))))))
    (pss_cons (ps_set (i := 2) sc_l_number.nd rfl (.inl rfl) (pe_call G_l_draw (hr.mono (by decide)) (by rfl) T.m_l_draw T.F_l_draw.kp T.b_l_draw .nil pass0 (pa_cons (pv 0) (pa_cons pe_int pa_nil))))
    (pss_cons (ps_if (pt_cmpR (OpR.or op_lt op_lt_str) (pv 2) pe_int (nomark _))
      (pss_one (ps_ret (pe_ix ix_seq (pv 1) (pv 2) (fun _ _ => rfl))))
      pss_nil)
    (pss_one (ps_ret (pe_op (OpR.or op_add (OpR.or op_add_str (OpR.or op_cat op_catT))) (pe_op (OpR.or op_mul op_mulW) pe_int (pe_call G_l_wide (hr.mono (by decide)) (by rfl) T.m_l_wide T.F_l_wide.kp T.b_l_wide .nil pass0 (pa_cons (pv 0) (pa_cons pe_int pa_nil)))) (pe_call G_l_wide (hr.mono (by decide)) (by rfl) T.m_l_wide T.F_l_wide.kp T.b_l_wide .nil pass0 (pa_cons (pv 0) (pa_cons pe_int pa_nil))))))))), ?_⟩
    refine ⟨by show 10 ≤ sizeLine; decide, fun p np => ⟨.ref st, rfl, st, 14, rfl, S.new np, by decide, by decide, fun H1 v k1 S1 v0 v1 => ?_⟩⟩
    have k1' : Kp st H H1 := ((Kp.refl st H).new np).trans k1
    have hp : H1 p = some (.tup [.int 0, .int 1, .int 9, .int 10, .int 99, .int 100, .int 999, .int 1000, .int 99999, .int 999999]) := k1.tup (S.ne np) upd_same
    refine ⟨_, rfl, .inl ⟨_, _, rfl, rfl, _, rfl, ite2 (fun h => ?_) (fun h => ?_)⟩⟩
    · have hv : v < 10 := of_decide_eq_true h
      obtain ⟨j, rfl⟩ : ∃ j : Nat, v = j := ⟨v.toNat, by omega⟩
      obtain ⟨i, hi, h0, h1⟩ := int_at (lo := 0) (hi := 999999) (xs := [.int 0, .int 1, .int 9, .int 10, .int 99, .int 100, .int 999, .int 1000, .int 99999, .int 999999]) (by decide) (j := j) (by show j < 10; omega)
      exact ⟨_, rfl, _, rfl, .inr (.inl ⟨p, _, _, _, rfl, rfl, SqT.of hp, atI_nat hi, q _ _ k1' S1 h0 h1⟩)⟩
    · refine ⟨.ref st, rfl, st, 1000, rfl, S1, by decide, fun H2 x k2 S2 x0 x1 => .inl ⟨1000, x, rfl, rfl, .inl ⟨by decide, by decide⟩, .ref st, rfl, st, 1000, rfl, S2, by decide, fun H3 y k3 S3 y0 y1 => .inl ⟨_, y, rfl, rfl, q _ _ ((k1'.trans k2).trans k3) S3 (by omega) (by omega)⟩⟩⟩
theorem catL {x y : Str} {m n : Nat} (hx : x.length ≤ m) (hy : y.length ≤ n) (h : m + n ≤ 1000) : x.length + y.length ≤ sizeLine := small_le (by omega)
def menuA (z : Str) : List V := [.str (PySem.Str.ofString "0" ++ z), .str (PySem.Str.ofString "+" ++ z), .str (PySem.Str.ofString " " ++ z), .str (z ++ PySem.Str.ofString " "), .str (z ++ PySem.Str.ofString "a"), .str (z ++ PySem.Str.ofString "\n"), .str (PySem.Str.ofString ""), .str (z ++ repS 30 (PySem.Str.ofString "0"))]
def menuB (z : Str) : List V := [.str (cutS z none (some 1) ++ PySem.Str.ofString "_" ++ cutS z (some 1) none), .str (z ++ PySem.Str.ofString ".0")]
theorem menu_ok {z : Str} (hz : z.length ≤ 10) : (menuA z ++ menuB z).all (txLe 100) = true := by
  have e0 : (repS 30 (PySem.Str.ofString "0")).length = 30 := by rw [repS_len]; decide +kernel
  have c1 := cutS_le z none (some 1)
  have c2 := cutS_le z (some 1) none
  have a1 : (PySem.Str.ofString "0").length = 1 := by decide +kernel
  have a2 : (PySem.Str.ofString "+").length = 1 := by decide +kernel
  have a3 : (PySem.Str.ofString " ").length = 1 := by decide +kernel
  have a4 : (PySem.Str.ofString "a").length = 1 := by decide +kernel
  have a5 : (PySem.Str.ofString "\n").length = 1 := by decide +kernel
  have a6 : (PySem.Str.ofString "").length = 0 := by decide +kernel
  have a7 : (PySem.Str.ofString "_").length = 1 := by decide +kernel
  have a8 : (PySem.Str.ofString ".0").length = 2 := by decide +kernel
  simp only [menuA, menuB, List.cons_append, List.nil_append, List.all_cons, List.all_nil, txLe, Bool.and_true, Bool.and_eq_true, decide_eq_true_eq, len_app, a1, a2, a3, a4, a5, a6, a7, a8, e0]
  omega
def spWr : Sp := fun vs H Q _ => ∃ (st : Addr) (low high : Int), vs = [.ref st, .int low, .int high] ∧ Sta H st ∧ -1 ≤ low ∧ low ≤ 999999 ∧ -1 ≤ high ∧ high ≤ 999999 ∧ ∀ H' cs, Kp st H H' → Sta H' st → cs.length ≤ 100 → Q (tx cs) H'
theorem ok_wr (T : Top K mg a) : FnOk P w K mg base CX0 4 a.f_l_written a.d_l_written ["_law_state_here", "_law_low", "_law_high"] spWr := by
  have G_l_draw := ok_draw (P := P) (w := w) (base := base) T
  have G_l_number := ok_numb (P := P) (w := w) (base := base) T
  refine T.F_l_written.ok sc_l_written (fun vs H Q E h => ?_) (fun cdv A outer s H vs Q E hr h => ?_)
  · obtain ⟨st, low, high, rfl, _⟩ := h
    rfl
  · obtain ⟨st, low, high, rfl, S, hl0, hl1, hh0, hh1, q⟩ := h
    refine ⟨_, (pss_cons (ps_set (i := 3) sc_l_written.nd rfl (.inl rfl) (pe_ix ix_seq (pe_tup (pa_cons (pv 1) (pa_cons (pv 2) (pa_cons (pe_op op_sub (pv 1) pe_int) (pa_cons (pe_op (OpR.or op_add (OpR.or op_add_str (OpR.or op_cat op_catT))) (pv 2) pe_int) (pa_cons (pe_op (OpR.or op_add (OpR.or op_add_str (OpR.or op_cat op_catT))) (pv 1) pe_int) (pa_cons (pe_op op_sub (pv 2) pe_int) (pa_cons (pe_call G_l_number (hr.mono (by decide)) (by rfl) T.m_l_number T.F_l_number.kp T.b_l_number .nil pass0 (pa_cons (pv 0) pa_nil)) pa_nil)))))))) (pe_call G_l_draw (hr.mono (by decide)) (by rfl) T.m_l_draw T.F_l_draw.kp T.b_l_draw .nil pass0 (pa_cons (pv 0) (pa_cons pe_int pa_nil))) (fun _ _ => rfl)))
    (pss_cons (ps_set (i := 4) sc_l_written.nd rfl (.inl rfl) (pe_callTy call_str_int (by rfl) T.z_str (by decide +kernel) (pa_cons (pv 3) pa_nil)))
    (pss_cons (ps_set (i := 5) sc_l_written.nd rfl (.inl rfl) (pe_call G_l_draw (hr.mono (by decide)) (by rfl) T.m_l_draw T.F_l_draw.kp T.b_l_draw .nil pass0 (pa_cons (pv 0) (pa_cons pe_int pa_nil))))
    (pss_cons (ps_if (pt_cmpR (OpR.or op_gt op_gt_str) (pv 5) pe_int (nomark _))
      (pss_one (ps_ret (pv 4)))
      pss_nil)
    (pss_cons (ps_set (i := 6) sc_l_written.nd rfl (.inl rfl) (pe_tup (pa_cons (pe_op (OpR.or op_add (OpR.or op_add_str (OpR.or op_cat op_catT))) pe_str (pv 4)) (pa_cons (pe_op (OpR.or op_add (OpR.or op_add_str (OpR.or op_cat op_catT))) pe_str (pv 4)) (pa_cons (pe_op (OpR.or op_add (OpR.or op_add_str (OpR.or op_cat op_catT))) pe_str (pv 4)) (pa_cons (pe_op (OpR.or op_add (OpR.or op_add_str (OpR.or op_cat op_catT))) (pv 4) pe_str) (pa_cons (pe_op (OpR.or op_add (OpR.or op_add_str (OpR.or op_cat op_catT))) (pv 4) pe_str) (pa_cons (pe_op (OpR.or op_add (OpR.or op_add_str (OpR.or op_cat op_catT))) (pv 4) pe_str) (pa_cons pe_str (pa_cons (pe_op (OpR.or op_add (OpR.or op_add_str (OpR.or op_cat op_catT))) (pv 4) (pe_op op_repS pe_str pe_int)) pa_nil))))))))))
    (pss_one (ps_ret (pe_ix ix_seq (pe_op (OpR.or op_add (OpR.or op_add_str (OpR.or op_cat op_catT))) (pv 6) (pe_tup (pa_cons (pe_op (OpR.or op_add (OpR.or op_add_str (OpR.or op_cat op_catT))) (pe_op (OpR.or op_add (OpR.or op_add_str (OpR.or op_cat op_catT))) (pe_slice (SlR.or sl_str (SlR.or sl_list sl_tup)) (pv 4) po_none (po_some pe_int)) pe_str) (pe_slice (SlR.or sl_str (SlR.or sl_list sl_tup)) (pv 4) (po_some pe_int) po_none)) (pa_cons (pe_op (OpR.or op_add (OpR.or op_add_str (OpR.or op_cat op_catT))) (pv 4) pe_str) pa_nil)))) (pv 5) (fun _ _ => rfl))))))))), ?_⟩
    refine ⟨_, rfl, _, rfl, _, rfl, _, _, rfl, rfl, _, rfl, .inl ⟨_, 1, rfl, rfl, _, rfl, .inl ⟨_, 1, rfl, rfl, _, rfl, _, _, rfl, rfl, .ref st, rfl, st, rfl, S, fun H1 v k1 S1 v0 v1 => ⟨by show 7 ≤ sizeLine; decide, fun p np => ⟨.ref st, rfl, st, 7, rfl, S1.new np, by decide, by decide, fun H2 u k2 S2 u0 u1 => ?_⟩⟩⟩⟩⟩
    have k2' : Kp st H H2 := (k1.new np).trans k2
    have hp : H2 p = some (.tup [.int low, .int high, .int (low - 1), .int (high + 1), .int (low + 1), .int (high - 1), .int v]) := k2.tup (S1.ne np) upd_same
    obtain ⟨j, rfl⟩ : ∃ j : Nat, u = j := ⟨u.toNat, by omega⟩
    obtain ⟨i, hi, h0, h1⟩ := int_at (lo := -2) (hi := 1000000) (xs := [.int low, .int high, .int (low - 1), .int (high + 1), .int (low + 1), .int (high - 1), .int v]) (by
      simp only [List.all_cons, List.all_nil, intIn, Bool.and_true, Bool.and_eq_true, decide_eq_true_eq]
      omega) (j := j) (by show j < 7; omega)
    have hi10 : i < 10 ^ 10 := by omega
    refine .inr (.inl ⟨p, _, _, _, rfl, rfl, SqT.of hp, atI_nat hi, _, rfl, i, rfl, log_ok h0 hi10, ?_⟩)
    have hz : (PySem.Str.ofString (toString i)).length ≤ 10 := by rw [str_tx', len_tx]; exact strI_len h0 hi10
    have hzn : 1 ≤ (PySem.Str.ofString (toString i)).length := by rw [str_tx', len_tx]; exact List.length_pos_iff.mpr (strI_ne h0 hi10)
    generalize PySem.Str.ofString (toString i) = z at hz hzn
    refine ⟨.ref st, rfl, st, 20, rfl, S2, by decide, by decide, fun H3 y k3 S3 y0 y1 => ?_⟩
    have k3' := k2'.trans k3
    have ztx : ∀ z : Str, V.str z = tx z.cps.toList := fun z => by cases z; simp
    refine ⟨_, rfl, .inl ⟨_, _, rfl, rfl, _, rfl, ite2 (fun h => ?_) (fun h => ?_)⟩⟩
    · refine ⟨_, rfl, ?_⟩
      show Q (.str z) H3
      rw [ztx]
      exact q _ _ k3' S3 (by rw [Array.length_toList]; exact Nat.le_trans hz (by decide))
    · have hy : y ≤ 9 := by have := of_decide_eq_false (Bool.eq_false_iff.mpr h); omega
      obtain ⟨g, rfl⟩ : ∃ j : Nat, y = j := ⟨y.toNat, by omega⟩
      have hzz : z.length ≤ sizeLine := small_le (by omega)
      have c1 := Nat.le_trans (cutS_le z none (some 1)) hz
      have c2 := Nat.le_trans (cutS_le z (some 1) none) hz
      have c3 : (cutS z none (some 1) ++ PySem.Str.ofString "_").length ≤ 11 := by
        rw [len_app]
        have a7 : (PySem.Str.ofString "_").length = 1 := by decide +kernel
        omega
      refine ⟨_, rfl, .inr (.inl ⟨_, _, rfl, rfl, catL (m := 50) (by decide +kernel) hz (by decide), _, rfl, .inr (.inl ⟨_, _, rfl, rfl, catL (m := 50) (by decide +kernel) hz (by decide), _, rfl, .inr (.inl ⟨_, _, rfl, rfl, catL (m := 50) (by decide +kernel) hz (by decide),
        _, rfl, .inr (.inl ⟨_, _, rfl, rfl, catL (n := 50) hz (by decide +kernel) (by decide), _, rfl, .inr (.inl ⟨_, _, rfl, rfl, catL (n := 50) hz (by decide +kernel) (by decide), _, rfl, .inr (.inl ⟨_, _, rfl, rfl, catL (n := 50) hz (by decide +kernel) (by decide), ?_⟩)⟩)⟩)⟩)⟩)⟩)⟩
      refine ⟨_, rfl, PySem.Str.ofString "0", 30, rfl, rfl, by decide, by decide, by decide +kernel, by decide +kernel, .inr (.inl ⟨_, _, rfl, rfl, catL (n := 50) hz (by rw [repS_len]; decide +kernel) (by decide), by show 8 ≤ sizeLine; decide, fun p6 n6 => ?_⟩)⟩
      refine ⟨_, rfl, _, rfl, 1, rfl, .inl ⟨_, rfl, hzz, .inr (.inl ⟨_, _, rfl, rfl, catL (n := 50) c1 (by decide +kernel) (by decide), _, rfl, 1, rfl, .inl ⟨_, rfl, hzz, .inr (.inl ⟨_, _, rfl, rfl, catL c3 c2 (by decide), _, rfl, .inr (.inl ⟨_, _, rfl, rfl, catL (n := 50) hz (by decide +kernel) (by decide), by show 2 ≤ sizeLine; decide, fun p7 n7 => ?_⟩)⟩)⟩⟩)⟩⟩
      have ne67 : p6 ≠ p7 := fun e => by rw [← e, upd_same] at n7; cases n7
      have t6 : (upd (upd H3 p6 (.tup (menuA z))) p7 (.tup (menuB z))) p6 = some (.tup (menuA z)) := by rw [upd_ne ne67, upd_same]
      refine .inr (.inr (.inr ⟨p6, p7, menuA z, menuB z, rfl, rfl, SqT.of t6, SqT.of upd_same, List.cons_ne_nil _ _, by show 10 ≤ sizeLine; decide, fun (e : menuB z = []) => (List.cons_ne_nil _ _ e).elim, fun (_ : menuB z ≠ []) p8 n8 => ?_⟩))
      obtain ⟨l, hl, hl2⟩ := at_all (menu_ok hz) (j := g) (by show g < 10; omega)
      refine ⟨_, rfl, .inr (.inl ⟨p8, _, _, tx l, rfl, rfl, SqT.of upd_same, atI_nat hl, ?_⟩)⟩
      exact q _ _ (((k3'.new n6).new n7).new n8) (((S3.new n6).new n7).new n8) hl2
end
end K5


namespace K5
open PySem PySem.Spec PyProof.Rows L2
def digs : Str := PySem.Str.ofString "0123456789"
theorem digs_mem (c : Nat) : decide (c ∈ digs.cps.toList) = Dg c := by
  have e : digs.cps.toList = [48, 49, 50, 51, 52, 53, 54, 55, 56, 57] := by decide +kernel
  rw [e]
  unfold Dg
  rw [Bool.eq_iff_iff]
  simp only [decide_eq_true_eq, Bool.and_eq_true, List.mem_cons, List.not_mem_nil, or_false]
  omega
theorem digs_at {c : Nat} (h : Dg c = true) : Builtin.Str.occurrences digs ⟨#[c]⟩ 0 digs.length 1 = [c - 48] := by
  unfold Dg at h
  simp only [Bool.and_eq_true, decide_eq_true_eq] at h
  have : c = 48 ∨ c = 49 ∨ c = 50 ∨ c = 51 ∨ c = 52 ∨ c = 53 ∨ c = 54 ∨ c = 55 ∨ c = 56 ∨ c = 57 := by omega
  rcases this with e | e | e | e | e | e | e | e | e | e <;> subst e <;> decide +kernel
open NumText
theorem val_snoc (l : List Nat) (c : Nat) : digitsVal (l ++ [c]) = digitsVal l * 10 + (c - 48) := by
  unfold digitsVal
  rw [List.foldl_append]
  rfl
theorem fil_nil {cs : List Nat} (h : cs.all Dg = true) : cs.filter (fun c => !Dg c) = [] := by
  rw [List.filter_eq_nil_iff]
  intro c hc
  rw [List.all_eq_true.mp h c hc]
  decide
theorem fil_ne {cs : List Nat} (h : ¬ cs.all Dg = true) : 0 < (cs.filter (fun c => !Dg c)).length := by
  refine List.length_pos_iff.mpr fun e => h ?_
  rw [List.filter_eq_nil_iff] at e
  rw [List.all_eq_true]
  intro c hc
  have := e c hc
  simpa using this
section
variable {P : Program} {w : World} {K : PySem.W.Frag} {mg : Str → Option Value} {base : Heap} {a : Ad}
def spVal : Sp := fun vs H Q _ => ∃ (cs : List Nat) (lo hi : Int), vs = [tx cs, .int lo, .int hi] ∧ cs.length ≤ 1000 ∧ (∀ n H', valOf cs lo hi = some n → Same H H' → Q (.int n) H') ∧ (valOf cs lo hi = none → ∀ H', Same H H' → Q .non H')
theorem ok_val (T : Top K mg a) : FnOk P w K mg base CX0 1 a.f_l_value a.d_l_value ["_law_text_here", "_law_low", "_law_high"] spVal := by
  refine T.F_l_value.ok sc_l_value (fun vs H Q E h => ?_) (fun cdv A outer s H vs Q E hr h => ?_)
  · obtain ⟨cs, lo, hi, rfl, _⟩ := h
    rfl
  · obtain ⟨cs, lo, hi, rfl, hl, q1, q2⟩ := h
    refine ⟨_, (pss_cons (ps_if (PW.pt (pw_or (pt_cmpR (OpR.or op_eq (op_eqD hr.units)) (pv 0) pe_str (nomark _)) (pw_or1 (pt_cmpR (OpR.or op_gt op_gt_str) (pe_callB (CallR.or call_len_str call_len_seq) (by rfl) T.z_len (by decide +kernel) (pa_cons (pe_lc (own := [("_law_sign", 3)]) rfl sc_l_value.nd (pi_str (pv 0)) (blkOk_by (own := [("_law_sign", 3)]) (N := ["_law_text_here", "_law_low", "_law_high", "_law_sign", "_law_value_here"]) (sc := defScope s_l_value) (by decide +kernel)) (fun _ _ _ _ _ => (pg_name (i := 3) sc_l_value.nd rfl (.inl rfl))) (fun _ _ _ _ _ => pts_one (pt_cmpR op_notIn_sign (pv 3) pe_str rfl)) (fun _ _ _ _ _ => (pv 3))) pa_nil)) pe_int (nomark _)))))
      (pss_one (ps_ret pe_non))
      pss_nil)
    (pss_cons (ps_if (PW.pt (pw_and (pt_cmpR (OpR.or op_gt op_gt_str) (pe_callB (CallR.or call_len_str call_len_seq) (by rfl) T.z_len (by decide +kernel) (pa_cons (pv 0) pa_nil)) pe_int (nomark _)) (pw_and1 (pt_cmpR (OpR.or op_eq (op_eqD hr.units)) (pe_ix ix_seq (pv 0) pe_int (fun _ _ => rfl)) pe_str (nomark _)))))
      (pss_one (ps_ret pe_non))
      pss_nil)
    (pss_cons (ps_set (i := 4) sc_l_value.nd rfl (.inl rfl) pe_int)
    (pss_cons (ps_for PassesOwn.never rfl (pi_str (pv 0)) (pg_name (i := 3) sc_l_value.nd rfl (.inl rfl))
      (pss_one (ps_set (i := 4) sc_l_value.nd rfl (.inl rfl) (pe_op (OpR.or op_add (OpR.or op_add_str (OpR.or op_cat op_catT))) (pe_op (OpR.or op_mul op_mulW) pe_int (pv 4)) (pe_bm PySem.F.plainAttrs_str PySem.F.slot_str_index PySem.F.type_str_index mt_sindex pe_str (pa_cons (pv 3) pa_nil))))))
    (pss_cons (ps_if (pt_chain (OpR.or op_le op_le_str) (OpR.or op_le op_le_str) (pv 1) (pv 4) (pv 2))
      (pss_one (ps_ret (pv 4)))
      pss_nil)
    (pss_one (ps_ret pe_non))))))), ?_⟩
    have hz : (⟨cs.toArray⟩ : Str).length ≤ sizeLine := by rw [len_tx]; exact small_le hl
    have e48 : (PySem.Str.ofString "0").cps.toList = [48] := by decide +kernel
    have enil : (PySem.Str.ofString "").cps.toList = [] := by decide +kernel
    have bad : ∀ H', Same H H' → ¬ valid cs = true → Q .non H' := fun H' sm hv => q2 (by unfold valOf; rw [if_neg (fun z => hv z.1)]) H' sm
    refine ⟨_, rfl, .inl ⟨rfl, _, rfl, ?_⟩⟩
    rw [tx_eq, enil]
    refine ite2 (fun h => ?_) (fun h => ?_)
    · have h' : cs = [] := of_decide_eq_true h
      exact iteT (bad H (Same.refl H) (fun z => ((valid_iff cs).mp z).1 h'))
    have hne : cs ≠ [] := fun e => h (decide_eq_true e)
    refine ⟨_, rfl, _, rfl, fun D nD => ?_⟩
    refine lc_it walk_str (fun i H' => Same H H' ∧ H' D = some (.lst (((cs.take i).filter (fun c => !Dg c)).map sg))) ⟨Same.mut (Same.refl _) nD, by rw [upd_same]; rfl⟩ (fun _ _ _ _ => trivial) ?_ ?_
    · rintro i x H1 H' hi ⟨hs, hD⟩ ⟨rfl, c, hc, rfl⟩
      rw [get_tx] at hc
      have et : cs.take (i + 1) = cs.take i ++ [c] := by rw [List.take_add_one, hc]; rfl
      refine ⟨rfl, _, rfl, _, _, rfl, rfl, _, rfl, ?_⟩
      have em := digs_mem c
      unfold digs at em
      rw [em]
      by_cases hd : Dg c = true
      · rw [hd]
        refine iteF ⟨hs, ?_⟩
        rw [et, List.filter_append, hD]
        simp [hd]
      · rw [Bool.eq_false_iff.mpr hd]
        refine iteT ⟨_, rfl, _, hD, ?_, Same.mut hs nD, ?_⟩
        · rw [List.length_map]
          refine small1000 (Nat.le_trans (List.length_filter_le _ _) ?_)
          rw [List.length_take]
          omega
        · rw [upd_same, et, List.filter_append, List.map_append]
          simp [Bool.eq_false_iff.mpr hd]
    · rintro H' ⟨hs, hD⟩
      have e : cs.take (⟨cs.toArray⟩ : Str).cps.size = cs := by simp
      rw [e] at hD
      refine .inr ⟨D, _, rfl, .inl (SqL.of hD), .inl ⟨_, _, rfl, rfl, _, rfl, ?_⟩⟩
      rw [List.length_map]
      by_cases hd : cs.all Dg = true
      · rw [fil_nil hd]
        refine iteF ?_
        obtain ⟨c0, hc0⟩ : ∃ c0, cs[0]? = some c0 := ⟨cs[0]'(List.length_pos_iff.mpr hne), List.getElem?_eq_getElem _⟩
        have hhead : cs.head? = some c0 := by rw [List.head?_eq_getElem?]; exact hc0
        dsimp only [tNext]
        refine st_seq ?_
        refine if_ans (b := decide ((1 : Int) < (cs.length : Int)) && decide (c0 = 48)) (ans_and2 (fun Q q => ⟨_, rfl, .inl ⟨_, rfl, hz, .inl ⟨_, _, rfl, rfl, _, rfl, by rw [len_tx]; exact q⟩⟩⟩) (fun Q q => ⟨_, rfl, .inr (.inr ⟨_, 0, c0, rfl, rfl, hz, atI_nat (j := 0) (by rw [cps_tx]; exact hc0), .inl ⟨rfl, _, rfl, by rw [sg_eq c0 _ 48 e48]; exact q⟩⟩)⟩)) (fun h2 => ?_) (fun h2 => ?_)
        · simp only [Bool.and_eq_true, decide_eq_true_eq] at h2
          refine bad H' hs (fun z => ?_)
          have := ((valid_iff cs).mp z).2.1 (by rw [hhead, h2.2])
          rw [this] at h2
          exact absurd h2.1 (by decide)
        · have hv : valid cs = true := by
            rw [valid_iff]
            refine ⟨hne, fun hh => ?_, hd⟩
            rw [hhead] at hh
            have e48' : c0 = 48 := Option.some.inj hh
            rw [decide_eq_true e48', Bool.and_true] at h2
            have hl1 : ¬ (1 : Int) < (cs.length : Int) := of_decide_eq_false h2
            match cs, hne, hc0, hl1 with
            | [d], _, hc0, _ =>
              have : d = c0 := by simpa using hc0
              rw [this, e48']
            | d :: e :: r, _, _, hl1 => simp only [List.length_cons] at hl1; omega
          have hda := dg_all hd
          refine ⟨_, rfl, _, rfl, for_it walk_str (fun i σ' H2 => ∃ y3, σ' = [some (tx cs), some (.int lo), some (.int hi), y3, some (.int ((digitsVal (cs.take i) : Nat) : Int))] ∧ H2 = H') ⟨none, rfl, rfl⟩ (fun _ _ _ _ _ => trivial) ?_ ?_⟩
          · rintro i x σ' H1 H2 hi ⟨y3, rfl, rfl⟩ ⟨rfl, c, hc, rfl⟩
            rw [get_tx] at hc
            have et : cs.take (i + 1) = cs.take i ++ [c] := by rw [List.take_add_one, hc]; rfl
            have hcd : Dg c = true := List.all_eq_true.mp hd c (List.mem_of_getElem? hc)
            have hr48 := hda c (List.mem_of_getElem? hc)
            have hocc := digs_at hcd
            refine ⟨_, rfl, .inl ⟨10, _, rfl, rfl, .inl ⟨by decide, by decide⟩, rfl, _, rfl, digs, ⟨#[c]⟩, _, _, rfl, rfl, hocc, .inl ⟨_, _, rfl, rfl, some (sg c), ?_, rfl⟩⟩⟩
            have en : (10 * ((digitsVal (cs.take i) : Nat) : Int) + ((c - 48 : Nat) : Int)) = ((digitsVal (cs.take i) * 10 + (c - 48) : Nat) : Int) := by omega
            rw [et, val_snoc, ← en]
            rfl
          · rintro σ' H2 ⟨y3, rfl, rfl⟩
            have e : cs.take (⟨cs.toArray⟩ : Str).cps.size = cs := by simp
            rw [e]
            dsimp only
            refine st_seq ?_
            refine if_ans (b := decide (lo ≤ (digitsVal cs : Int)) && decide ((digitsVal cs : Int) ≤ hi)) (fun Q q => ⟨_, rfl, _, rfl, .inl ⟨_, _, rfl, rfl, _, rfl, ite2 (fun h4 => ⟨_, rfl, .inl ⟨_, _, rfl, rfl, _, rfl, by rw [h4, Bool.true_and] at q; exact q⟩⟩) (fun h4 => ⟨_, rfl, by rw [Bool.eq_false_iff.mpr h4, Bool.false_and] at q; exact q⟩)⟩⟩) (fun h5 => ?_) (fun h5 => ?_)
            · simp only [Bool.and_eq_true, decide_eq_true_eq] at h5
              exact ⟨_, rfl, q1 _ _ (by unfold valOf; rw [if_pos ⟨hv, h5⟩]) hs⟩
            · refine q2 ?_ _ hs
              unfold valOf
              rw [if_neg]
              rintro ⟨_, h6, h7⟩
              rw [decide_eq_true h6, decide_eq_true h7] at h5
              cases h5
      · have := fil_ne hd
        rw [decide_eq_true (by omega)]
        exact iteT (bad H' hs (fun z => hd ((valid_iff cs).mp z).2.2))
end
end K5


namespace K5
open PySem PySem.Spec PyProof.Rows L2
theorem Sta.same {H H' : Hp} {st : Addr} (S : Sta H st) (h : Same H H') : Sta H' st := by
  obtain ⟨sc, ns, i, b, s, l, hne, hst, hsc, r⟩ := S.ex
  exact ⟨sc, ns, i, b, s, l, hne, h _ _ hst, h _ _ hsc, r⟩
theorem Kp.same {st : Addr} {H H1 H2 : Hp} (k : Kp st H H1) (h : Same H1 H2) : Kp st H H2 := fun b o n e => h _ _ (k b o n e)
def max1 (d : Int) : Int := if d > 1 then d else 1
def RowOk (H : Hp) (r : Addr) : Prop := ∃ b c d e f : Int, H r = some (.lst [.int b, .int c, .int d, .int e, .int f]) ∧ effL b c d = e ∧ effM b c d = f ∧ effN d = max1 d ∧ -2 ≤ c ∧ c < 10 ^ 10
theorem RowOk.same {H H' : Hp} {r : Addr} (x : RowOk H r) (h : Same H H') : RowOk H' r := by
  obtain ⟨b, c, d, e, f, h1, h2⟩ := x
  exact ⟨b, c, d, e, f, h _ _ h1, h2⟩
theorem sm_line {K : PySem.W.Frag} {H : Hp} {p q : Addr} {n : Int} (hp : H p = some (.tup [.str "line", .int n])) (hq : H q = some (.tup [.str "line", .int n])) : Sm K 2 H (.ref p) (.ref q) := by
  refine SmS.tup (SqT.of hp) (SqT.of hq) rfl (by show 2 ≤ 1000000; decide) fun i x y hx hy => ?_
  have e : x = y := Option.some.inj (hx.symm.trans hy)
  subst e
  match i, hx with
  | 0, hx => cases hx; exact SmS.str _
  | 1, hx => cases hx; exact SmS.int _
section
variable {P : Program} {w : World} {K : PySem.W.Frag} {mg : Str → Option Value} {base : Heap} {a : Ad} {fI : Addr} {dI : FuncData}
def spNR : Sp := fun vs H Q _ => ∃ (st : Addr) (low high n : Int), vs = [.ref st, .int low, .int high, .int n] ∧ Sta H st ∧ 0 ≤ low ∧ low ≤ 999999 ∧ -1 ≤ high ∧ high ≤ 999999 ∧ 1 ≤ n ∧ ∀ H', Kp st H H' → Sta H' st → Q (.bl true) H'
theorem ok_nr (T : Top K mg a) (TX : TopX K a fI dI) : FnOk P w K mg base CX0 6 a.f_l_numbers_right a.d_l_numbers_right ["_law_state_here", "_law_low", "_law_high", "_law_number_here"] spNR := by
  have G_l_written := ok_wr (P := P) (w := w) (base := base) T
  have G_l_value := ok_val (P := P) (w := w) (base := base) T
  have G_l_read := ok_read (P := P) (w := w) (base := base) T TX
  have G_l_alike := ok_alike (P := P) (w := w) (base := base) T 2
  refine T.F_l_numbers_right.ok sc_l_numbers_right (fun vs H Q E h => ?_) (fun cdv A outer s H vs Q E hr h => ?_)
  · obtain ⟨st, low, high, n, rfl, _⟩ := h
    rfl
  · obtain ⟨st, low, high, n, rfl, S, hl0, hl1, hh0, hh1, hn, q⟩ := h
    refine ⟨_, (pss_cons (ps_set (i := 4) sc_l_numbers_right.nd rfl (.inl rfl) (pe_call G_l_written (hr.mono (by decide)) (by rfl) T.m_l_written T.F_l_written.kp T.b_l_written .nil pass0 (pa_cons (pv 0) (pa_cons (pv 1) (pa_cons (pv 2) pa_nil)))))
    (C8.pss_cut (ps_set (i := 5) sc_l_numbers_right.nd rfl (.inl rfl) (pe_lst (pa_cons (pe_lst (pa_cons (pv 1) (pa_cons (pv 2) (pa_cons (pv 3) (pa_cons (pv 1) (pa_cons (pv 2) pa_nil)))))) (pa_cons (pe_lst (pa_cons (pe_un un_neg pe_int) (pa_cons (pe_un un_neg pe_int) (pa_cons pe_int (pa_cons pe_int (pa_cons pe_int pa_nil)))))) (pa_cons (pe_lst (pa_cons (pe_un un_neg pe_int) (pa_cons (pv 2) (pa_cons pe_int (pa_cons pe_int (pa_cons (pv 2) pa_nil)))))) (pa_cons (pe_lst (pa_cons (pv 1) (pa_cons (pe_un un_neg pe_int) (pa_cons pe_int (pa_cons (pv 1) (pa_cons pe_int pa_nil)))))) pa_nil))))))
    (pss_cons (ps_for PassesOwn.never rfl (pi_list (pv 5)) (pg_name (i := 6) sc_l_numbers_right.nd rfl (.inl rfl))
      (pss_cons (ps_set (i := 7) sc_l_numbers_right.nd rfl (.inl rfl) (pe_call G_l_value (hr.mono (by decide)) (by rfl) T.m_l_value T.F_l_value.kp T.b_l_value .nil pass0 (pa_cons (pv 4) (pa_cons (pe_ix ix_seq (pv 6) pe_int (fun _ _ => rfl)) (pa_cons (pe_ix ix_seq (pv 6) pe_int (fun _ _ => rfl)) pa_nil)))))
      (pss_cons (ps_if (pt_cmpR op_isN (pv 7) pe_non (nomark _))
        (pss_one (ps_set (i := 7) sc_l_numbers_right.nd rfl (.inl rfl) (pe_tup (pa_cons pe_str (pa_cons (pe_callB (call_max2 rfl) (by rfl) T.z_max (by decide +kernel) (pa_cons pe_int (pa_cons (pe_ix ix_seq (pv 6) pe_int (fun _ _ => rfl)) pa_nil))) pa_nil)))))
        pss_nil)
      (pss_one (ps_if (pt_not (pt_val (pe_call G_l_alike (hr.mono (by decide)) (by rfl) T.m_l_alike T.F_l_alike.kp T.b_l_alike .nil pass0 (pa_cons (pe_call G_l_read (hr.mono (by decide)) (by rfl) T.m_l_read T.F_l_read.kp T.b_l_read .nil pass0 (pa_cons (pv 4) (pa_cons (pe_ix ix_seq (pv 6) pe_int (fun _ _ => rfl)) (pa_cons (pe_ix ix_seq (pv 6) pe_int (fun _ _ => rfl)) (pa_cons (pe_ix ix_seq (pv 6) pe_int (fun _ _ => rfl)) pa_nil))))) (pa_cons (pv 7) pa_nil)))))
        (pss_one (ps_ret pe_bl))
        pss_nil)))))
    (pss_one (ps_ret pe_bl))))), ?_⟩
    refine ⟨_, rfl, _, rfl, _, rfl, st, low, high, rfl, S, by omega, hl1, hh0, hh1, fun H1 cs k1 S1 hcs => ?_⟩
    have hw : (⟨cs.toArray⟩ : Str).length ≤ 100 := by rw [len_tx]; exact hcs
    refine ⟨fun σ' H' => ∃ (pr : Addr) (rs : List Addr), σ' = [some (.ref st), some (.int low), some (.int high), some (.int n), some (tx cs), some (.ref pr), none, none] ∧ Kp st H H' ∧ Sta H' st ∧ H' pr = some (.lst (rs.map V.ref)) ∧ ∀ x ∈ rs, RowOk H' x, ?_, ?_⟩
    · refine ⟨_, rfl, _, rfl, _, rfl, _, rfl, _, rfl, by show 5 ≤ sizeLine; decide, fun r1 n1 => ?_⟩
      refine ⟨2, rfl, 2, rfl, by show 5 ≤ sizeLine; decide, fun r2 n2 => ?_⟩
      refine ⟨2, rfl, _, rfl, _, rfl, by show 5 ≤ sizeLine; decide, fun r3 n3 => ?_⟩
      refine ⟨_, rfl, 2, rfl, _, rfl, by show 5 ≤ sizeLine; decide, fun r4 n4 => ?_⟩
      refine ⟨by show 4 ≤ sizeLine; decide, fun pr n5 => ?_⟩
      have s2 := same_upd n2 (o := .lst [.int (-2), .int (-2), .int 0, .int 0, .int 999])
      have s3 := same_upd n3 (o := .lst [.int (-2), .int high, .int 0, .int 0, .int high])
      have s4 := same_upd n4 (o := .lst [.int low, .int (-2), .int 0, .int low, .int 999])
      have s5 := same_upd n5 (o := .lst ([r1, r2, r3, r4].map V.ref))
      refine ⟨pr, [r1, r2, r3, r4], rfl, (((((k1.new n1).new n2).new n3).new n4).new n5), (((((S1.new n1).new n2).new n3).new n4).new n5), upd_same, fun x hx => ?_⟩
      have hlow : ¬ low = -2 := by omega
      have hhigh : ¬ high = -2 := by omega
      simp only [List.mem_cons, List.not_mem_nil, or_false] at hx
      rcases hx with e | e | e | e <;> subst e
      · refine ⟨low, high, n, low, high, s5 _ _ (s4 _ _ (s3 _ _ (s2 _ _ upd_same))), ?_, ?_, ?_, by omega, by omega⟩
        · unfold effL; rw [if_pos (by omega)]
        · unfold effM; rw [if_pos (by omega)]
        · unfold effN max1; rw [if_pos (by omega)]; split <;> omega
      · refine ⟨-2, -2, 0, 0, 999, s5 _ _ (s4 _ _ (s3 _ _ upd_same)), rfl, rfl, rfl, by omega, by omega⟩
      · refine ⟨-2, high, 0, 0, high, s5 _ _ (s4 _ _ upd_same), rfl, ?_, rfl, by omega, by omega⟩
        unfold effM
        rw [if_neg (by omega), if_neg (fun z => hhigh z.2), if_pos rfl]
      · refine ⟨low, -2, 0, low, 999, s5 _ _ upd_same, ?_, ?_, rfl, by omega, by omega⟩
        · unfold effL; rw [if_neg (by omega), if_neg hlow]
        · unfold effM; rw [if_neg (by omega), if_neg (fun z => hlow z.1), if_neg hlow]
    · rintro σ' H5 ⟨pr, rs, rfl, k5, S5, hpr, hrs⟩
      refine ⟨_, rfl, pr, rfl, ⟨_, SqL.of hpr⟩, for_list (xs := rs.map V.ref) (fun i σ' H' => ∃ y6 y7, σ' = [some (.ref st), some (.int low), some (.int high), some (.int n), some (tx cs), some (.ref pr), y6, y7] ∧ Same H5 H') ⟨_, _, rfl, Same.refl _⟩ (fun i σ' H' _ p => by
        obtain ⟨y6, y7, _, hs⟩ := p
        exact SqL.of (hs _ _ hpr)) ?_ ?_⟩
      · rintro i x σ' H' hx ⟨y6, y7, rfl, hs⟩
        obtain ⟨r, hr1, rfl⟩ : ∃ r, rs[i]? = some r ∧ x = V.ref r := by
          rw [List.getElem?_map] at hx
          cases e : rs[i]? with
          | none => rw [e] at hx; cases hx
          | some r => rw [e] at hx; exact ⟨r, rfl, (Option.some.inj hx).symm⟩
        obtain ⟨b, c, d, e, f, hrow, eL, eM, eN, hc0, hc1⟩ := (hrs r (List.mem_of_getElem? hr1)).same hs
        refine ⟨_, rfl, ixv 3 rfl (SqL.of hrow) rfl (ixv 4 rfl (SqL.of hrow) rfl ⟨cs, e, f, rfl, by omega, fun m H6 hm s6 => ?_, fun hm H6 s6 => ?_⟩)⟩
        · -- a number is due
          refine ⟨_, rfl, rfl, _, rfl, iteF ?_⟩
          have hrow6 := s6 _ _ hrow
          refine ⟨_, rfl, ixv 0 rfl (SqL.of hrow6) rfl (ixv 1 rfl (SqL.of hrow6) rfl (ixv 2 rfl (SqL.of hrow6) rfl ⟨cs, b, c, d, rfl, by omega, hc0, hc1, fun m' H7 hm' s7 => ?_, fun hm' => ?_⟩))⟩
          · rw [eL, eM, hm] at hm'
            cases hm'
            exact ⟨_, rfl, .int m, .int m, rfl, SmS.int m, _, rfl, _, _, rfl, (hs.trans s6).trans s7⟩
          · rw [eL, eM, hm] at hm'
            cases hm'
        · -- a line is due
          refine ⟨_, rfl, rfl, _, rfl, iteT ?_⟩
          have hrow6 := s6 _ _ hrow
          refine ixv 2 rfl (SqL.of hrow6) rfl ⟨1, d, rfl, by show 2 ≤ sizeLine; decide, fun p np => ?_⟩
          have sp := same_upd np (o := .tup [.str "line", .int (max1 d)])
          have hrow7 := sp _ _ hrow6
          refine ⟨_, rfl, ixv 0 rfl (SqL.of hrow7) rfl (ixv 1 rfl (SqL.of hrow7) rfl (ixv 2 rfl (SqL.of hrow7) rfl ⟨cs, b, c, d, rfl, by omega, hc0, hc1, fun m' H7 hm' s7 => ?_, fun hm' p' H7 np' s7 hp' => ?_⟩))⟩
          · rw [eL, eM, hm] at hm'
            cases hm'
          · rw [eN] at hp'
            exact ⟨_, rfl, .ref p', .ref p, rfl, sm_line hp' (s7 _ _ upd_same), _, rfl, _, _, rfl, ((hs.trans s6).trans sp).trans s7⟩
      · rintro σ' H' ⟨y6, y7, rfl, hs⟩
        exact q H' (k5.same hs) (S5.same hs)
end
end K5

namespace K5
open PySem PySem.Spec PyProof.Rows L2
/-- no integer -/
def NI (H : Hp) (x : V) : Prop := (∃ b, x = .bl b) ∨ x = .non ∨ (∃ z, x = .str z) ∨ ∃ p xs, x = .ref p ∧ (H p = some (.lst xs) ∨ H p = some (.tup xs))
theorem NI.same {H H' : Hp} {x : V} (h : NI H x) (s : Same H H') : NI H' x := by
  rcases h with h | h | h | ⟨p, xs, e, h⟩
  · exact .inl h
  · exact .inr (.inl h)
  · exact .inr (.inr (.inl h))
  · refine .inr (.inr (.inr ⟨p, xs, e, ?_⟩))
    rcases h with h | h
    · exact .inl (s _ _ h)
    · exact .inr (s _ _ h)
theorem NI.ty {K : PySem.W.Frag} {H : Hp} {x : V} (h : NI H x) : ∃ (t : String) (b c : Bool), TyX K H x (.type t) ∧ kitB t "int" = some b ∧ kitB t "bool" = some c ∧ (b && !c) = false := by
  rcases h with ⟨b, e⟩ | e | ⟨z, e⟩ | ⟨p, xs, e, h⟩
  · subst e; exact ⟨"bool", true, true, .base (.bl b), by decide +kernel, by decide +kernel, rfl⟩
  · subst e; exact ⟨"NoneType", false, false, .base .non, by decide +kernel, by decide +kernel, rfl⟩
  · subst e; exact ⟨"str", false, false, .base (.str z), by decide +kernel, by decide +kernel, rfl⟩
  · subst e
    rcases h with h | h
    · exact ⟨"list", false, false, .base (.lst h), by decide +kernel, by decide +kernel, rfl⟩
    · exact ⟨"tuple", false, false, .base (.tup h), by decide +kernel, by decide +kernel, rfl⟩
theorem sm_bls {K : PySem.W.Frag} {H : Hp} {p q : Addr} (hp : H p = some (.lst [.bl false, .bl false])) (hq : H q = some (.lst [.bl false, .bl false])) : Sm K 2 H (.ref p) (.ref q) := by
  refine SmS.lst (SqL.of hp) (SqL.of hq) rfl (by show 2 ≤ 1000000; decide) fun i x y hx hy => ?_
  have e : x = y := Option.some.inj (hx.symm.trans hy)
  subst e
  match i, hx with
  | 0, hx => cases hx; exact SmS.bl _
  | 1, hx => cases hx; exact SmS.bl _
section
variable {P : Program} {w : World} {K : PySem.W.Frag} {mg : Str → Option Value} {base : Heap} {a : Ad} {fI : Addr} {dI : FuncData}
def spWR : Sp := fun vs H Q _ => ∃ (st : Addr) (low high : Int), vs = [.ref st, .int low, .int high] ∧ Sta H st ∧ -100 ≤ low ∧ low ≤ 999999 ∧ -1 ≤ high ∧ high ≤ 999999 ∧ ∀ H', Kp st H H' → Sta H' st → Q (.bl true) H'
theorem ok_wr2 (T : Top K mg a) : FnOk P w K mg base CX0 4 a.f_l_whole_right a.d_l_whole_right ["_law_state_here", "_law_low", "_law_high"] spWR := by
  have G_l_number := ok_numb (P := P) (w := w) (base := base) T
  have G_is_whole := ok_whole (P := P) (w := w) (base := base) T
  have G_l_alike := ok_alike (P := P) (w := w) (base := base) T 2
  refine T.F_l_whole_right.ok sc_l_whole_right (fun vs H Q E h => ?_) (fun cdv A outer s H vs Q E hr h => ?_)
  · obtain ⟨st, low, high, rfl, _⟩ := h
    rfl
  · obtain ⟨st, low, high, rfl, S, hl0, hl1, hh0, hh1, q⟩ := h
    refine ⟨_, (pss_cons (ps_for PassesOwn.never rfl (pi_tup (pe_tup (pa_cons (pe_op op_sub (pv 1) pe_int) (pa_cons (pv 1) (pa_cons (pe_op (OpR.or op_add (OpR.or op_add_str (OpR.or op_cat op_catT))) (pv 1) pe_int) (pa_cons (pe_op op_sub (pv 2) pe_int) (pa_cons (pv 2) (pa_cons (pe_op (OpR.or op_add (OpR.or op_add_str (OpR.or op_cat op_catT))) (pv 2) pe_int) (pa_cons (pe_op op_sub pe_int (pv 1)) (pa_cons (pe_call G_l_number (hr.mono (by decide)) (by rfl) T.m_l_number T.F_l_number.kp T.b_l_number .nil pass0 (pa_cons (pv 0) pa_nil)) pa_nil)))))))))) (pg_name (i := 3) sc_l_whole_right.nd rfl (.inl rfl))
      (pss_one (ps_if (pt_not (pt_val (pe_call G_l_alike (hr.mono (by decide)) (by rfl) T.m_l_alike T.F_l_alike.kp T.b_l_alike .nil pass0 (pa_cons (pe_call G_is_whole (hr.mono (by decide)) (by rfl) T.m_is_whole T.F_is_whole.kp T.b_is_whole .nil pass0 (pa_cons (pv 3) (pa_cons (pv 1) (pa_cons (pv 2) pa_nil)))) (pa_cons (pe_chain (OpR.or op_le op_le_str) (OpR.or op_le op_le_str) (pv 1) (pv 3) (pv 2)) pa_nil)))))
        (pss_one (ps_ret pe_bl))
        pss_nil)))
    (pss_cons (ps_for PassesOwn.never rfl (pi_tup (pe_tup (pa_cons pe_bl (pa_cons pe_bl (pa_cons pe_non (pa_cons pe_str (pa_cons pe_str (pa_cons (pe_callTy call_str_int (by rfl) T.z_str (by decide +kernel) (pa_cons (pv 1) pa_nil)) (pa_cons (pe_tup (pa_cons (pv 1) pa_nil)) (pa_cons (pe_lst (pa_cons (pv 2) pa_nil)) (pa_cons pe_str pa_nil))))))))))) (pg_name (i := 3) sc_l_whole_right.nd rfl (.inl rfl))
      (pss_one (ps_if (pt_not (pt_val (pe_call G_l_alike (hr.mono (by decide)) (by rfl) T.m_l_alike T.F_l_alike.kp T.b_l_alike .nil pass0 (pa_cons (pe_lst (pa_cons (pe_call G_is_whole (hr.mono (by decide)) (by rfl) T.m_is_whole T.F_is_whole.kp T.b_is_whole .nil pass0 (pa_cons (pv 3) (pa_cons (pv 1) (pa_cons (pv 2) pa_nil)))) (pa_cons (pe_call G_is_whole (hr.mono (by decide)) (by rfl) T.m_is_whole T.F_is_whole.kp T.b_is_whole .nil pass0 (pa_cons (pv 3) (pa_cons pe_int (pa_cons pe_int pa_nil)))) pa_nil))) (pa_cons (pe_lst (pa_cons pe_bl (pa_cons pe_bl pa_nil))) pa_nil)))))
        (pss_one (ps_ret pe_bl))
        pss_nil)))
    (pss_one (ps_ret pe_bl)))), ?_⟩
    refine ⟨_, rfl, _, _, rfl, rfl, _, rfl, _, rfl, .inl ⟨_, 1, rfl, rfl, _, rfl, _, _, rfl, rfl, _, rfl, _, rfl, .inl ⟨_, 1, rfl, rfl, _, rfl, _, _, rfl, rfl, .ref st, rfl, st, rfl, S, fun H1 v k1 S1 v0 v1 => ⟨by show 8 ≤ sizeLine; decide, fun p np => ?_⟩⟩⟩⟩
    refine ⟨p, rfl, ⟨_, SqT.of upd_same⟩, for_tup (xs := [.int (low - 1), .int low, .int (low + 1), .int (high - 1), .int high, .int (high + 1), .int (0 - low), .int v]) (fun i σ' H' => ∃ y3, σ' = [some (.ref st), some (.int low), some (.int high), y3] ∧ Kp st H H' ∧ Sta H' st ∧ H' p = some (.tup [.int (low - 1), .int low, .int (low + 1), .int (high - 1), .int high, .int (high + 1), .int (0 - low), .int v])) ⟨_, rfl, k1.new np, S1.new np, upd_same⟩ (fun i σ' H' _ x => by
        obtain ⟨y3, _, _, _, h⟩ := x
        exact SqT.of h) ?_ ?_⟩
    · rintro i x σ' H' hx ⟨y3, rfl, k', S', hp⟩
      obtain ⟨m, rfl⟩ : ∃ m, x = V.int m := by
        have hm := List.mem_of_getElem? hx
        simp only [List.mem_cons, List.not_mem_nil, or_false] at hm
        rcases hm with e | e | e | e | e | e | e | e <;> exact ⟨_, e⟩
      refine ⟨_, rfl, _, rfl, _, rfl, .int m, low, high, rfl, .inl ⟨m, rfl, ?_⟩⟩
      refine ⟨_, rfl, _, rfl, .inl ⟨_, _, rfl, rfl, _, rfl, ite2 (fun h => ⟨_, rfl, .inl ⟨_, _, rfl, rfl, ?_⟩⟩) (fun h => ?_)⟩⟩
      · rw [h, Bool.true_and]
        exact ⟨_, _, rfl, SmS.bl _, _, rfl, _, rfl, k', S', hp⟩
      · rw [Bool.eq_false_iff.mpr h, Bool.false_and]
        exact ⟨_, _, rfl, SmS.bl _, _, rfl, _, rfl, k', S', hp⟩
    · rintro σ' H2 ⟨y3, rfl, k2, S2, _⟩
      have hlog : low.natAbs.log2 < 1920 := by
        have : low.natAbs < 2 ^ 40 := by omega
        have := PySem.Flt.log2_lt_of (k := 40) (by decide) this
        omega
      refine ⟨_, rfl, low, rfl, hlog, _, rfl, by show 1 ≤ sizeLine; decide, fun pt npt => ⟨_, rfl, by show 1 ≤ sizeLine; decide, fun pl npl => ⟨by show 9 ≤ sizeLine; decide, fun p9 n9 => ?_⟩⟩⟩
      have s1 := same_upd npt (o := .tup [.int low])
      have s2 := same_upd npl (o := .lst [.int high])
      have s3 := same_upd n9 (o := .tup [.bl true, .bl false, .non, .str (PySem.Str.ofString "0"), .str (PySem.Str.ofString "1"), .str (PySem.Str.ofString (toString low)), .ref pt, .ref pl, .str (PySem.Str.ofString "")])
      refine ⟨p9, rfl, ⟨_, SqT.of upd_same⟩, for_tup (xs := [.bl true, .bl false, .non, .str (PySem.Str.ofString "0"), .str (PySem.Str.ofString "1"), .str (PySem.Str.ofString (toString low)), .ref pt, .ref pl, .str (PySem.Str.ofString "")]) (fun i σ' H' => ∃ y3, σ' = [some (.ref st), some (.int low), some (.int high), y3] ∧ Kp st H H' ∧ Sta H' st ∧ H' pt = some (.tup [.int low]) ∧ H' pl = some (.lst [.int high]) ∧ H' p9 = some (.tup [.bl true, .bl false, .non, .str (PySem.Str.ofString "0"), .str (PySem.Str.ofString "1"), .str (PySem.Str.ofString (toString low)), .ref pt, .ref pl, .str (PySem.Str.ofString "")])) ⟨_, rfl, ((k2.new npt).new npl).new n9, ((S2.new npt).new npl).new n9, s3 _ _ (s2 _ _ upd_same), s3 _ _ upd_same, upd_same⟩ (fun i σ' H' _ x => by
          obtain ⟨y3, _, _, _, _, _, h⟩ := x
          exact SqT.of h) ?_ ?_⟩
      · rintro i x σ' H' hx ⟨y3, rfl, k', S', ht, hl, h9⟩
        have hni : NI H' x := by
          have hm := List.mem_of_getElem? hx
          simp only [List.mem_cons, List.not_mem_nil, or_false] at hm
          rcases hm with e | e | e | e | e | e | e | e | e
          · exact .inl ⟨_, e⟩
          · exact .inl ⟨_, e⟩
          · exact .inr (.inl e)
          · exact .inr (.inr (.inl ⟨_, e⟩))
          · exact .inr (.inr (.inl ⟨_, e⟩))
          · exact .inr (.inr (.inl ⟨_, e⟩))
          · exact .inr (.inr (.inr ⟨_, _, e, .inr ht⟩))
          · exact .inr (.inr (.inr ⟨_, _, e, .inl hl⟩))
          · exact .inr (.inr (.inl ⟨_, e⟩))
        obtain ⟨t, b, c, hty, hb, hc, hf⟩ := hni.ty (K := K)
        refine ⟨_, rfl, _, rfl, _, rfl, x, low, high, rfl, .inr ⟨t, b, c, hty, hb, hc, hf, ?_⟩⟩
        refine ⟨_, rfl, x, 0, 1, rfl, .inr ⟨t, b, c, hty, hb, hc, hf, by show 2 ≤ sizeLine; decide, fun pa na => ⟨by show 2 ≤ sizeLine; decide, fun pb nb => ?_⟩⟩⟩
        have sa := same_upd na (o := .lst [.bl false, .bl false])
        have sb := same_upd nb (o := .lst [.bl false, .bl false])
        exact ⟨_, _, rfl, sm_bls (sb _ _ upd_same) upd_same, _, rfl, _, rfl, (k'.new na).new nb, (S'.new na).new nb, sb _ _ (sa _ _ ht), sb _ _ (sa _ _ hl), sb _ _ (sa _ _ h9)⟩
      · rintro σ' H3 ⟨y3, rfl, k3, S3, _⟩
        exact q H3 k3 S3
end
end K5


namespace K5
open PySem PySem.Spec PyProof.Rows L2
theorem sm_txs {K : PySem.W.Frag} {H : Hp} {p q : Addr} {fs : List (List Nat)} (hl : fs.length ≤ 1000) (hp : H p = some (.lst (fs.map tx))) (hq : H q = some (.lst (fs.map tx))) : Sm K 2 H (.ref p) (.ref q) := by
  refine SmS.lst (SqL.of hp) (SqL.of hq) rfl (by rw [List.length_map]; omega) fun i x y hx hy => ?_
  have e : x = y := Option.some.inj (hx.symm.trans hy)
  subst e
  rw [List.getElem?_map] at hx
  cases h : fs[i]? with
  | none => rw [h] at hx; cases hx
  | some f =>
    rw [h] at hx
    cases hx
    exact SmS.str _
theorem line_max {n : Int} (h : 0 ≤ n) : (if n = 0 then 1 else n) = max1 n := by
  unfold max1
  split <;> split <;> omega
section
variable {P : Program} {w : World} {K : PySem.W.Frag} {mg : Str → Option Value} {base : Heap} {a : Ad} {fI : Addr} {dI : FuncData}
def spLaw (K : PySem.W.Frag) : Sp := fun vs H Q _ => ∃ (p : Addr) (ns : List Int), vs = [.ref p] ∧ SqL K H p (ns.map V.int) ∧ ∀ H', Q (.bl true) H'
theorem ok_law (T : Top K mg a) (TX : TopX K a fI dI) : FnOk P w K mg base CX0 7 a.f_law a.d_law ["_law_script"] (spLaw K) := by
  have G_l_state := ok_state (P := P) (w := w) (base := base) T
  have G_l_text := ok_text (P := P) (w := w) (base := base) T
  have G_l_wide := ok_wide (P := P) (w := w) (base := base) T
  have G_l_draw := ok_draw (P := P) (w := w) (base := base) T
  have G_l_cut := ok_cut (P := P) (w := w) (base := base) T
  have G_l_tokens := ok_tokL (P := P) (w := w) (base := base) T TX
  have G_l_number := ok_numb (P := P) (w := w) (base := base) T
  have G_l_numbers_right := ok_nr (P := P) (w := w) (base := base) T TX
  have G_l_whole_right := ok_wr2 (P := P) (w := w) (base := base) T
  have G_l_alike := ok_alike (P := P) (w := w) (base := base) T 2
  refine T.F_law.ok sc_law (fun vs H Q E h => ?_) (fun cdv A outer s H vs Q E hr h => ?_)
  · obtain ⟨p, ns, rfl, _⟩ := h
    rfl
  · obtain ⟨p, ns, rfl, hS, q⟩ := h
    refine ⟨_, (pss_cons (ps_set (i := 1) sc_law.nd rfl (.inl rfl) (pe_call G_l_state (hr.mono (by decide)) (by rfl) T.m_l_state T.F_l_state.kp T.b_l_state .nil pass0 (pa_cons (pv 0) pa_nil)))
    (pss_cons (ps_for PassesOwn.never rfl (pi_range1 (by rfl) T.z_range (pa_cons pe_int pa_nil)) (pg_name (i := 2) sc_law.nd rfl (.inl rfl))
      (pss_cons (ps_set (i := 3) sc_law.nd rfl (.inl rfl) (pe_call G_l_text (hr.mono (by decide)) (by rfl) T.m_l_text T.F_l_text.kp T.b_l_text .nil pass0 (pa_cons (pv 1) pa_nil)))
      (pss_cons (ps_set (i := 4) sc_law.nd rfl (.inl rfl) (pe_op (OpR.or op_add (OpR.or op_add_str (OpR.or op_cat op_catT))) pe_int (pe_call G_l_wide (hr.mono (by decide)) (by rfl) T.m_l_wide T.F_l_wide.kp T.b_l_wide .nil pass0 (pa_cons (pv 1) (pa_cons pe_int pa_nil)))))
      (pss_one (ps_for PassesOwn.never rfl (pi_tup (pe_tup (pa_cons (pv 4) (pa_cons pe_int pa_nil)))) (pg_name (i := 5) sc_law.nd rfl (.inl rfl))
        (pss_cons (ps_set (i := 6) sc_law.nd rfl (.inl rfl) (pe_call G_l_cut (hr.mono (by decide)) (by rfl) T.m_l_cut T.F_l_cut.kp T.b_l_cut .nil pass0 (pa_cons (pv 3) pa_nil)))
        (pss_cons (ps_if (pt_cmpR op_isN (pv 6) pe_non (nomark _))
          (pss_one (ps_set (i := 6) sc_law.nd rfl (.inl rfl) (pe_tup (pa_cons pe_str (pa_cons (pe_callB (call_max2 rfl) (by rfl) T.z_max (by decide +kernel) (pa_cons pe_int (pa_cons (pv 5) pa_nil))) pa_nil)))))
          pss_nil)
        (pss_one (ps_if (pt_not (pt_val (pe_call G_l_alike (hr.mono (by decide)) (by rfl) T.m_l_alike T.F_l_alike.kp T.b_l_alike .nil pass0 (pa_cons (pe_call G_l_tokens (hr.mono (by decide)) (by rfl) T.m_l_tokens T.F_l_tokens.kp T.b_l_tokens .nil pass0 (pa_cons (pv 3) (pa_cons (pv 5) pa_nil))) (pa_cons (pv 6) pa_nil)))))
          (pss_one (ps_ret pe_bl))
          pss_nil)))))))))
    (pss_cons (ps_for PassesOwn.never rfl (pi_range1 (by rfl) T.z_range (pa_cons pe_int pa_nil)) (pg_name (i := 2) sc_law.nd rfl (.inl rfl))
      (pss_cons (ps_set (i := 7) sc_law.nd rfl (.inl rfl) (pe_call G_l_number (hr.mono (by decide)) (by rfl) T.m_l_number T.F_l_number.kp T.b_l_number .nil pass0 (pa_cons (pv 1) pa_nil)))
      (pss_cons (ps_set (i := 8) sc_law.nd rfl (.inl rfl) (pe_op op_sub (pe_call G_l_number (hr.mono (by decide)) (by rfl) T.m_l_number T.F_l_number.kp T.b_l_number .nil pass0 (pa_cons (pv 1) pa_nil)) pe_int))
      (C8.pss_cut (ps_if (pt_cmpR (OpR.or op_gt op_gt_str) (pv 2) pe_int (nomark _))
        (pss_one (ps_set (i := 8) sc_law.nd rfl (.inl rfl) (pe_callB (call_min2 rfl) (by rfl) T.z_min (by decide +kernel) (pa_cons pe_int (pa_cons (pe_op (OpR.or op_add (OpR.or op_add_str (OpR.or op_cat op_catT))) (pv 7) (pe_call G_l_draw (hr.mono (by decide)) (by rfl) T.m_l_draw T.F_l_draw.kp T.b_l_draw .nil pass0 (pa_cons (pv 1) (pa_cons pe_int pa_nil)))) pa_nil)))))
        pss_nil)
      (pss_cons (ps_if (pt_not (pt_val (pe_call G_l_numbers_right (hr.mono (by decide)) (by rfl) T.m_l_numbers_right T.F_l_numbers_right.kp T.b_l_numbers_right .nil pass0 (pa_cons (pv 1) (pa_cons (pv 7) (pa_cons (pv 8) (pa_cons (pe_op (OpR.or op_add (OpR.or op_add_str (OpR.or op_cat op_catT))) pe_int (pe_call G_l_wide (hr.mono (by decide)) (by rfl) T.m_l_wide T.F_l_wide.kp T.b_l_wide .nil pass0 (pa_cons (pv 1) (pa_cons pe_int pa_nil)))) pa_nil)))))))
        (pss_one (ps_ret pe_bl))
        pss_nil)
      (pss_one (ps_if (pt_not (pt_val (pe_call G_l_whole_right (hr.mono (by decide)) (by rfl) T.m_l_whole_right T.F_l_whole_right.kp T.b_l_whole_right .nil pass0 (pa_cons (pv 1) (pa_cons (pe_op op_sub (pv 7) (pe_op (OpR.or op_mul op_mulW) pe_int (pv 2))) (pa_cons (pv 8) pa_nil))))))
        (pss_one (ps_ret pe_bl))
        pss_nil)))))))
    (pss_one (ps_ret pe_bl))))), ?_⟩
    refine ⟨_, rfl, p, ns, rfl, hS, fun H1 st nst s1 S1 => ?_⟩
    refine ⟨3, rfl, by decide, by decide, for_range (lo := 0) (n := 3) (fun i σ' H' => ∃ y2 y3 y4 y5 y6 y7 y8, σ' = [some (.ref p), some (.ref st), y2, y3, y4, y5, y6, y7, y8] ∧ Sta H' st) ⟨_, _, _, _, _, _, _, rfl, S1⟩ ?_ ?_⟩
    · rintro i σ' H' hi ⟨y2, y3, y4, y5, y6, y7, y8, rfl, S'⟩
      refine ⟨_, rfl, st, rfl, S', fun H2 cs k2 S2 hcs => ⟨_, rfl, st, 3000, rfl, S2, by decide, fun H3 v k3 S3 v0 v1 => .inl ⟨1, v, rfl, rfl, ?_⟩⟩⟩
      refine ⟨_, rfl, by show 2 ≤ sizeLine; decide, fun pt npt => ⟨pt, rfl, ⟨_, SqT.of upd_same⟩, for_tup (xs := [.int (1 + v), .int 0]) (fun i σ' H' => ∃ y2 y5 y6, σ' = [some (.ref p), some (.ref st), y2, some (tx cs), some (.int (1 + v)), y5, y6, y7, y8] ∧ Sta H' st ∧ H' pt = some (.tup [.int (1 + v), .int 0])) ⟨_, _, _, rfl, S3.new npt, upd_same⟩ (fun i σ' H' _ x => by
        obtain ⟨y2, y5, y6, _, _, h⟩ := x
        exact SqT.of h) ?_ ?_⟩⟩
      · rintro i x σ' H' hx ⟨y2, y5, y6, rfl, S', hpt⟩
        obtain ⟨n, rfl, hn⟩ : ∃ n, x = V.int n ∧ 0 ≤ n := by
          have hm := List.mem_of_getElem? hx
          simp only [List.mem_cons, List.not_mem_nil, or_false] at hm
          rcases hm with e | e
          · exact ⟨_, e, by omega⟩
          · exact ⟨_, e, by omega⟩
        refine ⟨_, rfl, cs, rfl, by omega, fun fs q1 H4 hf hfl nq s4 hq => ?_, fun hnone H4 s4 => ?_⟩
        · refine ⟨_, rfl, rfl, _, rfl, iteF ?_⟩
          refine ⟨_, rfl, _, rfl, cs, n, rfl, by omega, fun fs' q2 H5 hf' nq' s5 hq' => ?_, fun hnone => ?_⟩
          · rw [hf] at hf'
            cases hf'
            exact ⟨_, rfl, _, _, rfl, sm_txs hfl hq' (s5 _ _ hq), _, rfl, _, _, _, rfl, (S'.same s4).same s5, s5 _ _ (s4 _ _ hpt)⟩
          · rw [hf] at hnone
            cases hnone
        · refine ⟨_, rfl, rfl, _, rfl, iteT ?_⟩
          refine ⟨_, rfl, 1, n, rfl, by show 2 ≤ sizeLine; decide, fun q1 nq => ?_⟩
          have sq := same_upd nq (o := .tup [.str "line", .int (max1 n)])
          refine ⟨_, rfl, _, rfl, cs, n, rfl, by omega, fun fs' q2 H5 hf' nq' s5 hq' => ?_, fun _ q2 H5 nq' s5 hq' => ?_⟩
          · rw [hnone] at hf'
            cases hf'
          · unfold lineV at hq'
            rw [line_max hn] at hq'
            exact ⟨_, rfl, _, _, rfl, sm_line hq' (s5 _ _ upd_same), _, rfl, _, _, _, rfl, ((S'.same s4).same sq).same s5, s5 _ _ (sq _ _ (s4 _ _ hpt))⟩
      · rintro σ' H' ⟨y2, y5, y6, rfl, S', _⟩
        exact ⟨_, _, _, _, _, _, _, rfl, S'⟩
    · rintro σ' H' ⟨y2, y3, y4, y5, y6, y7, y8, rfl, S'⟩
      refine ⟨8, rfl, by decide, by decide, for_range (lo := 0) (n := 8) (fun i σ' H' => ∃ y2 y3 y4 y5 y6 y7 y8, σ' = [some (.ref p), some (.ref st), y2, y3, y4, y5, y6, y7, y8] ∧ Sta H' st) ⟨_, _, _, _, _, _, _, rfl, S'⟩ ?_ ?_⟩
      · rintro i σ' H' hi ⟨y2, y3, y4, y5, y6, y7, y8, rfl, S'⟩
        rw [Int.zero_add]
        refine ⟨_, rfl, st, rfl, S', fun H2 low k2 S2 l0 l1 => ⟨_, rfl, st, rfl, S2, fun H3 h k3 S3 h0 h1 => ⟨h, 1, rfl, rfl, ?_⟩⟩⟩
        refine ⟨fun σ' H' => ∃ high, σ' = [some (.ref p), some (.ref st), some (.int (i : Int)), y3, y4, y5, y6, some (.int low), some (.int high)] ∧ Sta H' st ∧ -1 ≤ high ∧ high ≤ 999999, ?_, ?_⟩
        · refine ⟨_, rfl, .inl ⟨_, 3, rfl, rfl, _, rfl, ite2 (fun e => ?_) (fun e => ?_)⟩⟩
          · refine ⟨_, rfl, _, rfl, st, 20, rfl, S3, by decide, by decide, fun H4 d k4 S4 d0 d1 => .inl ⟨low, d, rfl, rfl, 999999, low + d, rfl, _, rfl, S4, ?_, ?_⟩⟩
            · split <;> omega
            · split <;> omega
          · exact ⟨_, rfl, S3, by omega, by omega⟩
        · rintro σ2 H4 ⟨high, rfl, S4, hh0, hh1⟩
          refine ⟨_, rfl, _, rfl, _, rfl, _, rfl, st, 3000, rfl, S4, by decide, fun H5 m k5 S5 m0 m1 => .inl ⟨1, m, rfl, rfl, st, low, high, 1 + m, rfl, S5, l0, l1, hh0, hh1, by omega, fun H6 k6 S6 => ?_⟩⟩
          refine ⟨_, rfl, _, rfl, _, rfl, _, rfl, .inl ⟨3, _, rfl, rfl, .inl ⟨by decide, by decide⟩, _, _, rfl, rfl, _, rfl, st, low - 3 * (i : Int), high, rfl, S6, by omega, by omega, hh0, hh1, fun H7 k7 S7 => ?_⟩⟩
          exact ⟨_, rfl, _, _, _, _, _, _, _, rfl, S7⟩
      · rintro σ' H' ⟨y2, y3, y4, y5, y6, y7, y8, rfl, S'⟩
        exact q _
end
end K5

namespace K5
open PySem PySem.Spec PyProof.Rows L2
abbrev init_BadText := initStmt
theorem kit_sub {K : PySem.W.Frag} {C L : Addr} (h1 : PySem.W.isClsIn K L = true) (h2 : PySem.W.typeIn K (.ref L) = some (.type "type")) (h3 : PySem.W.subIn K (.ref C) (.ref L) = some true) : PySem.W.kitCls K (.ref C) (.ref L) = some true := by
  unfold PySem.W.kitCls
  have h1' : (PySem.W.clsIn K L).isSome = true := h1
  simp only [h1', h2, beq_self_eq_true, Bool.and_self, if_true]
  exact h3
theorem kit_ve {C : Addr} : PySem.HandSPX.refsVE [.ref C, .type "ValueError", .type "Exception", .type "BaseException", .type "object"] = true := by
  show PySem.HandSPX.refsVE [.type "ValueError", .type "Exception", .type "BaseException", .type "object"] = true
  decide +kernel
section
theorem all_mk {l : PySem.W.OpenLaw} {w : World} {K : PySem.W.Frag} {h : Heap} {mg : Str → Option Value} {fa : Addr} (X : K.In h) (G : h.Ns mainGlobals mg) (hfa : mg "law" = some (.ref fa))
    {f1 f2 f3 f4 f5 f6 f7 f8 f9 f10 f11 f12 f13 f14 f15 f16 f17 f18 f19 f20 f21 f22 f23 C_LookerError C_BadText : Addr}
    {od1 an1 od2 an2 od3 an3 od4 an4 od5 an5 od6 an6 od7 an7 od8 an8 od9 an9 od10 an10 od11 an11 od12 an12 od13 an13 od14 an14 od15 an15 od16 an16 od17 an17 od18 an18 od19 an19 od20 an20 od21 an21 od22 an22 od23 an23 : Option Addr} {sl1 sl2 sl3 sl4 sl5 sl6 sl7 sl8 sl9 sl10 sl11 sl12 sl13 sl14 sl15 sl16 sl17 sl18 sl19 sl20 sl21 sl22 sl23 : Array (Option Value)} {oc1 kV1 dc1 pm1 cd1 ct1 oc2 kV2 dc2 pm2 cd2 ct2 oc3 kV3 dc3 pm3 cd3 ct3 oc4 dc4 pm4 cd4 ct4 oc5 kV5 dc5 pm5 cd5 ct5 oc6 dc6 pm6 cd6 ct6 oc7 kV7 dc7 pm7 cd7 ct7 oc8 kV8 dc8 pm8 cd8 ct8 oc9 kV9 dc9 pm9 cd9 ct9 oc10 kV10 dc10 pm10 cd10 ct10 oc11 kV11 dc11 pm11 cd11 ct11 oc12 kV12 dc12 pm12 cd12 ct12 oc13 kV13 dc13 pm13 cd13 ct13 oc14 kV14 dc14 pm14 cd14 ct14 oc15 kV15 dc15 pm15 cd15 ct15 oc16 kV16 dc16 pm16 cd16 ct16 oc17 kV17 dc17 pm17 cd17 ct17 oc18 kV18 dc18 pm18 cd18 ct18 oc19 kV19 dc19 pm19 cd19 ct19 oc20 kV20 dc20 pm20 cd20 ct20 oc21 kV21 dc21 pm21 cd21 ct21 oc22 kV22 dc22 pm22 cd22 ct22 oc23 kV23 dc23 pm23 cd23 ct23 : Value}
    {D_tokens : Addr} {t_tokens_line : Tok}
    {D_read_number : Addr} {t_read_number_least t_read_number_most t_read_number_line : Tok}
    (a1 : PySem.W.nsIn K mainGlobals "_is_digit" = some (some (.ref f1)))
    (l1 : K.lookup f1 = some ⟨oc1, od1, .func (PySem.W.fnOf "_is_digit" "_is_digit" (defArgs s_is_digit) (defBody s_is_digit) (defScope s_is_digit) .none kV1 dc1 pm1 an1 cd1 ct1), sl1⟩)
    (c1 : PySem.W.codeIn K cd1 "_is_digit" = true)
    (k1 : PySem.W.keepIn K (.ref f1) = true)
    (a2 : PySem.W.nsIn K mainGlobals "_is_word_sign" = some (some (.ref f2)))
    (l2 : K.lookup f2 = some ⟨oc2, od2, .func (PySem.W.fnOf "_is_word_sign" "_is_word_sign" (defArgs s_is_word_sign) (defBody s_is_word_sign) (defScope s_is_word_sign) .none kV2 dc2 pm2 an2 cd2 ct2), sl2⟩)
    (c2 : PySem.W.codeIn K cd2 "_is_word_sign" = true)
    (k2 : PySem.W.keepIn K (.ref f2) = true)
    (a3 : PySem.W.nsIn K mainGlobals "_end_of_piece" = some (some (.ref f3)))
    (l3 : K.lookup f3 = some ⟨oc3, od3, .func (PySem.W.fnOf "_end_of_piece" "_end_of_piece" (defArgs s_end_of_piece) (defBody s_end_of_piece) (defScope s_end_of_piece) .none kV3 dc3 pm3 an3 cd3 ct3), sl3⟩)
    (c3 : PySem.W.codeIn K cd3 "_end_of_piece" = true)
    (k3 : PySem.W.keepIn K (.ref f3) = true)
    (a4 : PySem.W.nsIn K mainGlobals "tokens" = some (some (.ref f4)))
    (l4 : K.lookup f4 = some ⟨oc4, od4, .func (PySem.W.fnOf "tokens" "tokens" (defArgs s_tokens) (defBody s_tokens) (defScope s_tokens) .none (.ref D_tokens) dc4 pm4 an4 cd4 ct4), sl4⟩)
    (c4 : PySem.W.codeIn K cd4 "tokens" = true)
    (k4 : PySem.W.keepIn K (.ref f4) = true)
    (q_tokens_line : PySem.W.nsIn K D_tokens "line" = some (some (.int 1 t_tokens_line)))
    (a5 : PySem.W.nsIn K mainGlobals "_is_decimal" = some (some (.ref f5)))
    (l5 : K.lookup f5 = some ⟨oc5, od5, .func (PySem.W.fnOf "_is_decimal" "_is_decimal" (defArgs s_is_decimal) (defBody s_is_decimal) (defScope s_is_decimal) .none kV5 dc5 pm5 an5 cd5 ct5), sl5⟩)
    (c5 : PySem.W.codeIn K cd5 "_is_decimal" = true)
    (k5 : PySem.W.keepIn K (.ref f5) = true)
    (a6 : PySem.W.nsIn K mainGlobals "read_number" = some (some (.ref f6)))
    (l6 : K.lookup f6 = some ⟨oc6, od6, .func (PySem.W.fnOf "read_number" "read_number" (defArgs s_read_number) (defBody s_read_number) (defScope s_read_number) .none (.ref D_read_number) dc6 pm6 an6 cd6 ct6), sl6⟩)
    (c6 : PySem.W.codeIn K cd6 "read_number" = true)
    (k6 : PySem.W.keepIn K (.ref f6) = true)
    (q_read_number_least : PySem.W.nsIn K D_read_number "least" = some (some (.int 0 t_read_number_least)))
    (q_read_number_most : PySem.W.nsIn K D_read_number "most" = some (some (.int 999 t_read_number_most)))
    (q_read_number_line : PySem.W.nsIn K D_read_number "line" = some (some (.int 1 t_read_number_line)))
    (a7 : PySem.W.nsIn K mainGlobals "is_int" = some (some (.ref f7)))
    (l7 : K.lookup f7 = some ⟨oc7, od7, .func (PySem.W.fnOf "is_int" "is_int" (defArgs s_is_int) (defBody s_is_int) (defScope s_is_int) .none kV7 dc7 pm7 an7 cd7 ct7), sl7⟩)
    (c7 : PySem.W.codeIn K cd7 "is_int" = true)
    (k7 : PySem.W.keepIn K (.ref f7) = true)
    (a8 : PySem.W.nsIn K mainGlobals "is_whole" = some (some (.ref f8)))
    (l8 : K.lookup f8 = some ⟨oc8, od8, .func (PySem.W.fnOf "is_whole" "is_whole" (defArgs s_is_whole) (defBody s_is_whole) (defScope s_is_whole) .none kV8 dc8 pm8 an8 cd8 ct8), sl8⟩)
    (c8 : PySem.W.codeIn K cd8 "is_whole" = true)
    (k8 : PySem.W.keepIn K (.ref f8) = true)
    (a9 : PySem.W.nsIn K mainGlobals "_law_state" = some (some (.ref f9)))
    (l9 : K.lookup f9 = some ⟨oc9, od9, .func (PySem.W.fnOf "_law_state" "_law_state" (defArgs s_l_state) (defBody s_l_state) (defScope s_l_state) .none kV9 dc9 pm9 an9 cd9 ct9), sl9⟩)
    (c9 : PySem.W.codeIn K cd9 "_law_state" = true)
    (k9 : PySem.W.keepIn K (.ref f9) = true)
    (a10 : PySem.W.nsIn K mainGlobals "_law_draw" = some (some (.ref f10)))
    (l10 : K.lookup f10 = some ⟨oc10, od10, .func (PySem.W.fnOf "_law_draw" "_law_draw" (defArgs s_l_draw) (defBody s_l_draw) (defScope s_l_draw) .none kV10 dc10 pm10 an10 cd10 ct10), sl10⟩)
    (c10 : PySem.W.codeIn K cd10 "_law_draw" = true)
    (k10 : PySem.W.keepIn K (.ref f10) = true)
    (a11 : PySem.W.nsIn K mainGlobals "_law_wide" = some (some (.ref f11)))
    (l11 : K.lookup f11 = some ⟨oc11, od11, .func (PySem.W.fnOf "_law_wide" "_law_wide" (defArgs s_l_wide) (defBody s_l_wide) (defScope s_l_wide) .none kV11 dc11 pm11 an11 cd11 ct11), sl11⟩)
    (c11 : PySem.W.codeIn K cd11 "_law_wide" = true)
    (k11 : PySem.W.keepIn K (.ref f11) = true)
    (a12 : PySem.W.nsIn K mainGlobals "_law_alike" = some (some (.ref f12)))
    (l12 : K.lookup f12 = some ⟨oc12, od12, .func (PySem.W.fnOf "_law_alike" "_law_alike" (defArgs s_l_alike) (defBody s_l_alike) (defScope s_l_alike) .none kV12 dc12 pm12 an12 cd12 ct12), sl12⟩)
    (c12 : PySem.W.codeIn K cd12 "_law_alike" = true)
    (k12 : PySem.W.keepIn K (.ref f12) = true)
    (a13 : PySem.W.nsIn K mainGlobals "_law_text" = some (some (.ref f13)))
    (l13 : K.lookup f13 = some ⟨oc13, od13, .func (PySem.W.fnOf "_law_text" "_law_text" (defArgs s_l_text) (defBody s_l_text) (defScope s_l_text) .none kV13 dc13 pm13 an13 cd13 ct13), sl13⟩)
    (c13 : PySem.W.codeIn K cd13 "_law_text" = true)
    (k13 : PySem.W.keepIn K (.ref f13) = true)
    (a14 : PySem.W.nsIn K mainGlobals "_law_cut" = some (some (.ref f14)))
    (l14 : K.lookup f14 = some ⟨oc14, od14, .func (PySem.W.fnOf "_law_cut" "_law_cut" (defArgs s_l_cut) (defBody s_l_cut) (defScope s_l_cut) .none kV14 dc14 pm14 an14 cd14 ct14), sl14⟩)
    (c14 : PySem.W.codeIn K cd14 "_law_cut" = true)
    (k14 : PySem.W.keepIn K (.ref f14) = true)
    (a15 : PySem.W.nsIn K mainGlobals "_law_tokens" = some (some (.ref f15)))
    (l15 : K.lookup f15 = some ⟨oc15, od15, .func (PySem.W.fnOf "_law_tokens" "_law_tokens" (defArgs s_l_tokens) (defBody s_l_tokens) (defScope s_l_tokens) .none kV15 dc15 pm15 an15 cd15 ct15), sl15⟩)
    (c15 : PySem.W.codeIn K cd15 "_law_tokens" = true)
    (k15 : PySem.W.keepIn K (.ref f15) = true)
    (a16 : PySem.W.nsIn K mainGlobals "_law_number" = some (some (.ref f16)))
    (l16 : K.lookup f16 = some ⟨oc16, od16, .func (PySem.W.fnOf "_law_number" "_law_number" (defArgs s_l_number) (defBody s_l_number) (defScope s_l_number) .none kV16 dc16 pm16 an16 cd16 ct16), sl16⟩)
    (c16 : PySem.W.codeIn K cd16 "_law_number" = true)
    (k16 : PySem.W.keepIn K (.ref f16) = true)
    (a17 : PySem.W.nsIn K mainGlobals "_law_written" = some (some (.ref f17)))
    (l17 : K.lookup f17 = some ⟨oc17, od17, .func (PySem.W.fnOf "_law_written" "_law_written" (defArgs s_l_written) (defBody s_l_written) (defScope s_l_written) .none kV17 dc17 pm17 an17 cd17 ct17), sl17⟩)
    (c17 : PySem.W.codeIn K cd17 "_law_written" = true)
    (k17 : PySem.W.keepIn K (.ref f17) = true)
    (a18 : PySem.W.nsIn K mainGlobals "_law_value" = some (some (.ref f18)))
    (l18 : K.lookup f18 = some ⟨oc18, od18, .func (PySem.W.fnOf "_law_value" "_law_value" (defArgs s_l_value) (defBody s_l_value) (defScope s_l_value) .none kV18 dc18 pm18 an18 cd18 ct18), sl18⟩)
    (c18 : PySem.W.codeIn K cd18 "_law_value" = true)
    (k18 : PySem.W.keepIn K (.ref f18) = true)
    (a19 : PySem.W.nsIn K mainGlobals "_law_read" = some (some (.ref f19)))
    (l19 : K.lookup f19 = some ⟨oc19, od19, .func (PySem.W.fnOf "_law_read" "_law_read" (defArgs s_l_read) (defBody s_l_read) (defScope s_l_read) .none kV19 dc19 pm19 an19 cd19 ct19), sl19⟩)
    (c19 : PySem.W.codeIn K cd19 "_law_read" = true)
    (k19 : PySem.W.keepIn K (.ref f19) = true)
    (a20 : PySem.W.nsIn K mainGlobals "_law_numbers_right" = some (some (.ref f20)))
    (l20 : K.lookup f20 = some ⟨oc20, od20, .func (PySem.W.fnOf "_law_numbers_right" "_law_numbers_right" (defArgs s_l_numbers_right) (defBody s_l_numbers_right) (defScope s_l_numbers_right) .none kV20 dc20 pm20 an20 cd20 ct20), sl20⟩)
    (c20 : PySem.W.codeIn K cd20 "_law_numbers_right" = true)
    (k20 : PySem.W.keepIn K (.ref f20) = true)
    (a21 : PySem.W.nsIn K mainGlobals "_law_whole_right" = some (some (.ref f21)))
    (l21 : K.lookup f21 = some ⟨oc21, od21, .func (PySem.W.fnOf "_law_whole_right" "_law_whole_right" (defArgs s_l_whole_right) (defBody s_l_whole_right) (defScope s_l_whole_right) .none kV21 dc21 pm21 an21 cd21 ct21), sl21⟩)
    (c21 : PySem.W.codeIn K cd21 "_law_whole_right" = true)
    (k21 : PySem.W.keepIn K (.ref f21) = true)
    (a22 : PySem.W.nsIn K mainGlobals "law" = some (some (.ref f22)))
    (l22 : K.lookup f22 = some ⟨oc22, od22, .func (PySem.W.fnOf "law" "law" (defArgs s_law) (defBody s_law) (defScope s_law) .none kV22 dc22 pm22 an22 cd22 ct22), sl22⟩)
    (c22 : PySem.W.codeIn K cd22 "law" = true)
    (k22 : PySem.W.keepIn K (.ref f22) = true)
    (aC_LookerError : PySem.W.nsIn K mainGlobals "LookerError" = some (some (.ref C_LookerError)))
    (aC_BadText : PySem.W.nsIn K mainGlobals "BadText" = some (some (.ref C_BadText)))
    (iL : PySem.W.isClsIn K C_LookerError = true)
    (tL : PySem.W.typeIn K (.ref C_LookerError) = some (.type "type"))
    {nm_BadText q_BadText : Str} {N_BadText : Addr} {bs_BadText : List Value} {sn_BadText : List Str} {sub_BadText : List Value} {ab_BadText : Bool} {col_BadText : Option Bool} {dd_BadText : Option Addr} {m0_BadText m1_BadText m2_BadText m3_BadText m5_BadText : Option Value}
    (xL_BadText : K.lookup C_BadText = some (excClassObj nm_BadText q_BadText C_BadText N_BadText bs_BadText [.ref C_LookerError, .type "ValueError", .type "Exception", .type "BaseException", .type "object"] true sn_BadText sub_BadText ab_BadText col_BadText dd_BadText m0_BadText m1_BadText m2_BadText m3_BadText m5_BadText "ValueError.__new__"))
    (sa_BadText : PySem.W.findIn K (.ref C_BadText) "__setattr__" = some (some (.builtin "object.__setattr__")))
    (ga_BadText : PySem.W.findIn K (.ref C_BadText) "__getattribute__" = some (some (.builtin "BaseException.__getattribute__")))
    (gg_BadText : PySem.W.findIn K (.ref C_BadText) "__getattr__" = some none)
    (no_BadText : PySem.W.findIn K (.ref C_BadText) "line" = some none)
    (iC_BadText : PySem.W.findIn K (.ref C_BadText) "__init__" = some (some (.ref f23)))
    (tI_BadText : PySem.W.typeIn K (.ref f23) = some (.type "function"))
    (l23 : K.lookup f23 = some ⟨oc23, od23, .func (PySem.W.fnOf "__init__" "BadText.__init__" (defArgs init_BadText) (defBody init_BadText) (defScope init_BadText) .none kV23 dc23 pm23 an23 cd23 ct23), sl23⟩)
    (c23 : PySem.W.codeIn K cd23 "BadText.__init__" = true)
    (k23 : PySem.W.keepIn K (.ref f23) = true)
    (kC_BadText : PySem.W.keepIn K (.ref C_BadText) = true)
    (eC_BadText : PySem.W.subIn K (.ref C_BadText) (.type "BaseException") = some true)
    (tC_BadText : PySem.W.typeIn K (.ref C_BadText) = some (.type "type"))
    (hC_BadText : PySem.W.hasDictIn K C_BadText = true)
    (sC_BadText : PySem.W.subIn K (.ref C_BadText) (.ref C_BadText) = some true)
    (su_BadText : PySem.W.subIn K (.ref C_BadText) (.ref C_LookerError) = some true)
    (z_ValueError : PySem.W.nsIn K mainGlobals "ValueError" = some none)
    (z_all : PySem.W.nsIn K mainGlobals "all" = some none)
    (z_bool : PySem.W.nsIn K mainGlobals "bool" = some none)
    (z_int : PySem.W.nsIn K mainGlobals "int" = some none)
    (z_isinstance : PySem.W.nsIn K mainGlobals "isinstance" = some none)
    (z_len : PySem.W.nsIn K mainGlobals "len" = some none)
    (z_list : PySem.W.nsIn K mainGlobals "list" = some none)
    (z_max : PySem.W.nsIn K mainGlobals "max" = some none)
    (z_min : PySem.W.nsIn K mainGlobals "min" = some none)
    (z_range : PySem.W.nsIn K mainGlobals "range" = some none)
    (z_str : PySem.W.nsIn K mainGlobals "str" = some none)
    (z_tuple : PySem.W.nsIn K mainGlobals "tuple" = some none)
    : ∃ fd : FuncData, (∀ (s : Shared) (v : Value), BindsTo s fd ⟨[v], []⟩ [("_law_script", v)]) ∧ ∀ base : Heap, K.In base → base.Ns mainGlobals mg → FnOk l.prog w K mg base CX0 7 fa fd ["_law_script"] (spLaw K) := by
  have e := hfa.symm.trans (PySem.W.mg_of X G a22)
  cases e
  have F1 := fun_mk (st := s_is_digit) l1 c1 k1
  have b1 := F1.binds (ps := ["sign"]) fun _ _ _ _ _ _ us hl => match us, hl with | [_], _ => rfl
  have F2 := fun_mk (st := s_is_word_sign) l2 c2 k2
  have b2 := F2.binds (ps := ["sign"]) fun _ _ _ _ _ _ us hl => match us, hl with | [_], _ => rfl
  have F3 := fun_mk (st := s_end_of_piece) l3 c3 k3
  have b3 := F3.binds (ps := ["text", "at", "line"]) fun _ _ _ _ _ _ us hl => match us, hl with | [_, _, _], _ => rfl
  have F5 := fun_mk (st := s_is_decimal) l5 c5 k5
  have b5 := F5.binds (ps := ["text"]) fun _ _ _ _ _ _ us hl => match us, hl with | [_], _ => rfl
  have F7 := fun_mk (st := s_is_int) l7 c7 k7
  have b7 := F7.binds (ps := ["value"]) fun _ _ _ _ _ _ us hl => match us, hl with | [_], _ => rfl
  have F8 := fun_mk (st := s_is_whole) l8 c8 k8
  have b8 := F8.binds (ps := ["value", "least", "most"]) fun _ _ _ _ _ _ us hl => match us, hl with | [_, _, _], _ => rfl
  have F9 := fun_mk (st := s_l_state) l9 c9 k9
  have b9 := F9.binds (ps := ["_law_script"]) fun _ _ _ _ _ _ us hl => match us, hl with | [_], _ => rfl
  have F10 := fun_mk (st := s_l_draw) l10 c10 k10
  have b10 := F10.binds (ps := ["_law_state_here", "_law_many"]) fun _ _ _ _ _ _ us hl => match us, hl with | [_, _], _ => rfl
  have F11 := fun_mk (st := s_l_wide) l11 c11 k11
  have b11 := F11.binds (ps := ["_law_feed", "_law_many"]) fun _ _ _ _ _ _ us hl => match us, hl with | [_, _], _ => rfl
  have F12 := fun_mk (st := s_l_alike) l12 c12 k12
  have b12 := F12.binds (ps := ["_law_actual", "_law_due"]) fun _ _ _ _ _ _ us hl => match us, hl with | [_, _], _ => rfl
  have F13 := fun_mk (st := s_l_text) l13 c13 k13
  have b13 := F13.binds (ps := ["_law_state_here"]) fun _ _ _ _ _ _ us hl => match us, hl with | [_], _ => rfl
  have F14 := fun_mk (st := s_l_cut) l14 c14 k14
  have b14 := F14.binds (ps := ["_law_text_here"]) fun _ _ _ _ _ _ us hl => match us, hl with | [_], _ => rfl
  have F15 := fun_mk (st := s_l_tokens) l15 c15 k15
  have b15 := F15.binds (ps := ["_law_text_here", "_law_number_here"]) fun _ _ _ _ _ _ us hl => match us, hl with | [_, _], _ => rfl
  have F16 := fun_mk (st := s_l_number) l16 c16 k16
  have b16 := F16.binds (ps := ["_law_state_here"]) fun _ _ _ _ _ _ us hl => match us, hl with | [_], _ => rfl
  have F17 := fun_mk (st := s_l_written) l17 c17 k17
  have b17 := F17.binds (ps := ["_law_state_here", "_law_low", "_law_high"]) fun _ _ _ _ _ _ us hl => match us, hl with | [_, _, _], _ => rfl
  have F18 := fun_mk (st := s_l_value) l18 c18 k18
  have b18 := F18.binds (ps := ["_law_text_here", "_law_low", "_law_high"]) fun _ _ _ _ _ _ us hl => match us, hl with | [_, _, _], _ => rfl
  have F19 := fun_mk (st := s_l_read) l19 c19 k19
  have b19 := F19.binds (ps := ["_law_text_here", "_law_low", "_law_high", "_law_number_here"]) fun _ _ _ _ _ _ us hl => match us, hl with | [_, _, _, _], _ => rfl
  have F20 := fun_mk (st := s_l_numbers_right) l20 c20 k20
  have b20 := F20.binds (ps := ["_law_state_here", "_law_low", "_law_high", "_law_number_here"]) fun _ _ _ _ _ _ us hl => match us, hl with | [_, _, _, _], _ => rfl
  have F21 := fun_mk (st := s_l_whole_right) l21 c21 k21
  have b21 := F21.binds (ps := ["_law_state_here", "_law_low", "_law_high"]) fun _ _ _ _ _ _ us hl => match us, hl with | [_, _, _], _ => rfl
  have F22 := fun_mk (st := s_law) l22 c22 k22
  have b22 := F22.binds (ps := ["_law_script"]) fun _ _ _ _ _ _ us hl => match us, hl with | [_], _ => rfl
  have F4 : FunD K "tokens" "tokens" (defArgs s_tokens) (defBody s_tokens) (defScope s_tokens) [] [("line", .int 1)] f4 (PySem.W.fnOf "tokens" "tokens" (defArgs s_tokens) (defBody s_tokens) (defScope s_tokens) .none (.ref D_tokens) dc4 pm4 an4 cd4 ct4) :=
    ⟨⟨_, _, _, _, _, _, _, _, _, _, rfl, l4, c4, .inl ⟨rfl, rfl⟩, .inr ⟨D_tokens, rfl, fun q hq => by
      simp only [List.mem_cons, List.not_mem_nil, or_false] at hq
      rcases hq with rfl
      · exact ⟨_, q_tokens_line, ⟨_, rfl⟩⟩
      ⟩⟩, k4⟩
  have F6 : FunD K "read_number" "read_number" (defArgs s_read_number) (defBody s_read_number) (defScope s_read_number) [] [("least", .int 0), ("most", .int 999), ("line", .int 1)] f6 (PySem.W.fnOf "read_number" "read_number" (defArgs s_read_number) (defBody s_read_number) (defScope s_read_number) .none (.ref D_read_number) dc6 pm6 an6 cd6 ct6) :=
    ⟨⟨_, _, _, _, _, _, _, _, _, _, rfl, l6, c6, .inl ⟨rfl, rfl⟩, .inr ⟨D_read_number, rfl, fun q hq => by
      simp only [List.mem_cons, List.not_mem_nil, or_false] at hq
      rcases hq with rfl | rfl | rfl
      · exact ⟨_, q_read_number_least, ⟨_, rfl⟩⟩
      · exact ⟨_, q_read_number_most, ⟨_, rfl⟩⟩
      · exact ⟨_, q_read_number_line, ⟨_, rfl⟩⟩
      ⟩⟩, k6⟩
  let ad : Ad := { f_is_digit := f1, d_is_digit := (PySem.W.fnOf "_is_digit" "_is_digit" (defArgs s_is_digit) (defBody s_is_digit) (defScope s_is_digit) .none kV1 dc1 pm1 an1 cd1 ct1), f_is_word_sign := f2, d_is_word_sign := (PySem.W.fnOf "_is_word_sign" "_is_word_sign" (defArgs s_is_word_sign) (defBody s_is_word_sign) (defScope s_is_word_sign) .none kV2 dc2 pm2 an2 cd2 ct2), f_end_of_piece := f3, d_end_of_piece := (PySem.W.fnOf "_end_of_piece" "_end_of_piece" (defArgs s_end_of_piece) (defBody s_end_of_piece) (defScope s_end_of_piece) .none kV3 dc3 pm3 an3 cd3 ct3), f_tokens := f4, d_tokens := (PySem.W.fnOf "tokens" "tokens" (defArgs s_tokens) (defBody s_tokens) (defScope s_tokens) .none (.ref D_tokens) dc4 pm4 an4 cd4 ct4), f_is_decimal := f5, d_is_decimal := (PySem.W.fnOf "_is_decimal" "_is_decimal" (defArgs s_is_decimal) (defBody s_is_decimal) (defScope s_is_decimal) .none kV5 dc5 pm5 an5 cd5 ct5), f_read_number := f6, d_read_number := (PySem.W.fnOf "read_number" "read_number" (defArgs s_read_number) (defBody s_read_number) (defScope s_read_number) .none (.ref D_read_number) dc6 pm6 an6 cd6 ct6), f_is_int := f7, d_is_int := (PySem.W.fnOf "is_int" "is_int" (defArgs s_is_int) (defBody s_is_int) (defScope s_is_int) .none kV7 dc7 pm7 an7 cd7 ct7), f_is_whole := f8, d_is_whole := (PySem.W.fnOf "is_whole" "is_whole" (defArgs s_is_whole) (defBody s_is_whole) (defScope s_is_whole) .none kV8 dc8 pm8 an8 cd8 ct8), f_l_state := f9, d_l_state := (PySem.W.fnOf "_law_state" "_law_state" (defArgs s_l_state) (defBody s_l_state) (defScope s_l_state) .none kV9 dc9 pm9 an9 cd9 ct9), f_l_draw := f10, d_l_draw := (PySem.W.fnOf "_law_draw" "_law_draw" (defArgs s_l_draw) (defBody s_l_draw) (defScope s_l_draw) .none kV10 dc10 pm10 an10 cd10 ct10), f_l_wide := f11, d_l_wide := (PySem.W.fnOf "_law_wide" "_law_wide" (defArgs s_l_wide) (defBody s_l_wide) (defScope s_l_wide) .none kV11 dc11 pm11 an11 cd11 ct11), f_l_alike := f12, d_l_alike := (PySem.W.fnOf "_law_alike" "_law_alike" (defArgs s_l_alike) (defBody s_l_alike) (defScope s_l_alike) .none kV12 dc12 pm12 an12 cd12 ct12), f_l_text := f13, d_l_text := (PySem.W.fnOf "_law_text" "_law_text" (defArgs s_l_text) (defBody s_l_text) (defScope s_l_text) .none kV13 dc13 pm13 an13 cd13 ct13), f_l_cut := f14, d_l_cut := (PySem.W.fnOf "_law_cut" "_law_cut" (defArgs s_l_cut) (defBody s_l_cut) (defScope s_l_cut) .none kV14 dc14 pm14 an14 cd14 ct14), f_l_tokens := f15, d_l_tokens := (PySem.W.fnOf "_law_tokens" "_law_tokens" (defArgs s_l_tokens) (defBody s_l_tokens) (defScope s_l_tokens) .none kV15 dc15 pm15 an15 cd15 ct15), f_l_number := f16, d_l_number := (PySem.W.fnOf "_law_number" "_law_number" (defArgs s_l_number) (defBody s_l_number) (defScope s_l_number) .none kV16 dc16 pm16 an16 cd16 ct16), f_l_written := f17, d_l_written := (PySem.W.fnOf "_law_written" "_law_written" (defArgs s_l_written) (defBody s_l_written) (defScope s_l_written) .none kV17 dc17 pm17 an17 cd17 ct17), f_l_value := f18, d_l_value := (PySem.W.fnOf "_law_value" "_law_value" (defArgs s_l_value) (defBody s_l_value) (defScope s_l_value) .none kV18 dc18 pm18 an18 cd18 ct18), f_l_read := f19, d_l_read := (PySem.W.fnOf "_law_read" "_law_read" (defArgs s_l_read) (defBody s_l_read) (defScope s_l_read) .none kV19 dc19 pm19 an19 cd19 ct19), f_l_numbers_right := f20, d_l_numbers_right := (PySem.W.fnOf "_law_numbers_right" "_law_numbers_right" (defArgs s_l_numbers_right) (defBody s_l_numbers_right) (defScope s_l_numbers_right) .none kV20 dc20 pm20 an20 cd20 ct20), f_l_whole_right := f21, d_l_whole_right := (PySem.W.fnOf "_law_whole_right" "_law_whole_right" (defArgs s_l_whole_right) (defBody s_l_whole_right) (defScope s_l_whole_right) .none kV21 dc21 pm21 an21 cd21 ct21), f_law := fa, d_law := (PySem.W.fnOf "law" "law" (defArgs s_law) (defBody s_law) (defScope s_law) .none kV22 dc22 pm22 an22 cd22 ct22), c_LookerError := C_LookerError, c_BadText := C_BadText }
  have T : Top K mg ad :=
    { F_is_digit := F1,
      m_is_digit := PySem.W.mg_of X G a1,
      b_is_digit := b1,
      F_is_word_sign := F2,
      m_is_word_sign := PySem.W.mg_of X G a2,
      b_is_word_sign := b2,
      F_end_of_piece := F3,
      m_end_of_piece := PySem.W.mg_of X G a3,
      b_end_of_piece := b3,
      F_tokens := F4,
      m_tokens := PySem.W.mg_of X G a4,
      F_is_decimal := F5,
      m_is_decimal := PySem.W.mg_of X G a5,
      b_is_decimal := b5,
      F_read_number := F6,
      m_read_number := PySem.W.mg_of X G a6,
      F_is_int := F7,
      m_is_int := PySem.W.mg_of X G a7,
      b_is_int := b7,
      F_is_whole := F8,
      m_is_whole := PySem.W.mg_of X G a8,
      b_is_whole := b8,
      F_l_state := F9,
      m_l_state := PySem.W.mg_of X G a9,
      b_l_state := b9,
      F_l_draw := F10,
      m_l_draw := PySem.W.mg_of X G a10,
      b_l_draw := b10,
      F_l_wide := F11,
      m_l_wide := PySem.W.mg_of X G a11,
      b_l_wide := b11,
      F_l_alike := F12,
      m_l_alike := PySem.W.mg_of X G a12,
      b_l_alike := b12,
      F_l_text := F13,
      m_l_text := PySem.W.mg_of X G a13,
      b_l_text := b13,
      F_l_cut := F14,
      m_l_cut := PySem.W.mg_of X G a14,
      b_l_cut := b14,
      F_l_tokens := F15,
      m_l_tokens := PySem.W.mg_of X G a15,
      b_l_tokens := b15,
      F_l_number := F16,
      m_l_number := PySem.W.mg_of X G a16,
      b_l_number := b16,
      F_l_written := F17,
      m_l_written := PySem.W.mg_of X G a17,
      b_l_written := b17,
      F_l_value := F18,
      m_l_value := PySem.W.mg_of X G a18,
      b_l_value := b18,
      F_l_read := F19,
      m_l_read := PySem.W.mg_of X G a19,
      b_l_read := b19,
      F_l_numbers_right := F20,
      m_l_numbers_right := PySem.W.mg_of X G a20,
      b_l_numbers_right := b20,
      F_l_whole_right := F21,
      m_l_whole_right := PySem.W.mg_of X G a21,
      b_l_whole_right := b21,
      F_law := F22,
      m_law := PySem.W.mg_of X G a22,
      b_law := b22,
      m_LookerError := PySem.W.mg_of X G aC_LookerError,
      m_BadText := PySem.W.mg_of X G aC_BadText,
      z_ValueError := PySem.W.mg_none_of X G z_ValueError,
      z_all := PySem.W.mg_none_of X G z_all,
      z_bool := PySem.W.mg_none_of X G z_bool,
      z_int := PySem.W.mg_none_of X G z_int,
      z_isinstance := PySem.W.mg_none_of X G z_isinstance,
      z_len := PySem.W.mg_none_of X G z_len,
      z_list := PySem.W.mg_none_of X G z_list,
      z_max := PySem.W.mg_none_of X G z_max,
      z_min := PySem.W.mg_none_of X G z_min,
      z_range := PySem.W.mg_none_of X G z_range,
      z_str := PySem.W.mg_none_of X G z_str,
      z_tuple := PySem.W.mg_none_of X G z_tuple }
  have FI_BadText := fun_mk (st := init_BadText) l23 c23 k23
  have bI_BadText := FI_BadText.binds (ps := ["self", "line"]) fun _ _ _ _ _ _ us hl => match us, hl with | [_, _], _ => rfl
  have ox_BadText : OexC K C_BadText := ⟨⟨_, _, _, _, _, _, _, _, _, _, _, _, _, _, _, xL_BadText, kit_ve⟩, sa_BadText, eC_BadText, tC_BadText, kC_BadText⟩
  have te_BadText := PySem.W.exm_ref eC_BadText hC_BadText tC_BadText sC_BadText
  have TX : TopX K ad f23 _ := ⟨ox_BadText, iC_BadText, tI_BadText, no_BadText, FI_BadText, bI_BadText, ⟨ga_BadText, gg_BadText, eC_BadText, hC_BadText⟩, te_BadText, kit_sub iL tL su_BadText⟩
  exact ⟨_, fun s v => .of_eq rfl, fun base _ _ => ok_law (a := ad) T TX⟩
end
end K5
open PySem PySem.W PyProof.Rows
set_option maxHeartbeats 0 in
theorem PySem.Challenge.cw_onelooker_k05_tokens_and_numbers_holds : PySem.Challenge.rw_onelooker_k05_tokens_and_numbers.Holds := by
  w_on; o_law; k_head; (case hw => w_witness2)
  k_fill
  refine L2.walk_of (l := PySem.Challenge.rw_onelooker_k05_tokens_and_numbers) (n := 63) (k := 7) (x := "_law_script") (CX := fun _ => L2.CX0) (sp := fun w => K5.spLaw _) rfl (by decide) rfl ⟨rfl, by decide, by decide⟩ (fun w h Y => PySem.W.kIn_of Y) ?F (fun _ _ a ns hl _ hS => ⟨a, ns, rfl, hS, fun _ => rfl⟩) (fun _ _ _ _ _ h => h)
  case F =>
    intro w mg fa h KX G hmg
    refine' K5.all_mk KX G hmg ?a1 ?l1 ?c1 ?k1 ?a2 ?l2 ?c2 ?k2 ?a3 ?l3 ?c3 ?k3 ?a4 ?l4 ?c4 ?k4 ?q_tokens_line ?a5 ?l5 ?c5 ?k5 ?a6 ?l6 ?c6 ?k6 ?q_read_number_least ?q_read_number_most ?q_read_number_line ?a7 ?l7 ?c7 ?k7 ?a8 ?l8 ?c8 ?k8 ?a9 ?l9 ?c9 ?k9 ?a10 ?l10 ?c10 ?k10 ?a11 ?l11 ?c11 ?k11 ?a12 ?l12 ?c12 ?k12 ?a13 ?l13 ?c13 ?k13 ?a14 ?l14 ?c14 ?k14 ?a15 ?l15 ?c15 ?k15 ?a16 ?l16 ?c16 ?k16 ?a17 ?l17 ?c17 ?k17 ?a18 ?l18 ?c18 ?k18 ?a19 ?l19 ?c19 ?k19 ?a20 ?l20 ?c20 ?k20 ?a21 ?l21 ?c21 ?k21 ?a22 ?l22 ?c22 ?k22 ?aC_LookerError ?aC_BadText ?iL ?tL ?xL_BadText ?sa_BadText ?ga_BadText ?gg_BadText ?no_BadText ?iC_BadText ?tI_BadText ?l23 ?c23 ?k23 ?kC_BadText ?eC_BadText ?tC_BadText ?hC_BadText ?sC_BadText ?su_BadText ?z_ValueError ?z_all ?z_bool ?z_int ?z_isinstance ?z_len ?z_list ?z_max ?z_min ?z_range ?z_str ?z_tuple
    (case a1 => k_is)
    (case l1 => k_is)
    (case c1 => k_is)
    (case k1 => k_is)
    (case a2 => k_is)
    (case l2 => k_is)
    (case c2 => k_is)
    (case k2 => k_is)
    (case a3 => k_is)
    (case l3 => k_is)
    (case c3 => k_is)
    (case k3 => k_is)
    (case a4 => k_is)
    (case l4 => k_is)
    (case c4 => k_is)
    (case k4 => k_is)
    (case q_tokens_line => k_is)
    (case a5 => k_is)
    (case l5 => k_is)
    (case c5 => k_is)
    (case k5 => k_is)
    (case a6 => k_is)
    (case l6 => k_is)
    (case c6 => k_is)
    (case k6 => k_is)
    (case q_read_number_least => k_is)
    (case q_read_number_most => k_is)
    (case q_read_number_line => k_is)
    (case a7 => k_is)
    (case l7 => k_is)
    (case c7 => k_is)
    (case k7 => k_is)
    (case a8 => k_is)
    (case l8 => k_is)
    (case c8 => k_is)
    (case k8 => k_is)
    (case a9 => k_is)
    (case l9 => k_is)
    (case c9 => k_is)
    (case k9 => k_is)
    (case a10 => k_is)
    (case l10 => k_is)
    (case c10 => k_is)
    (case k10 => k_is)
    (case a11 => k_is)
    (case l11 => k_is)
    (case c11 => k_is)
    (case k11 => k_is)
    (case a12 => k_is)
    (case l12 => k_is)
    (case c12 => k_is)
    (case k12 => k_is)
    (case a13 => k_is)
    (case l13 => k_is)
    (case c13 => k_is)
    (case k13 => k_is)
    (case a14 => k_is)
    (case l14 => k_is)
    (case c14 => k_is)
    (case k14 => k_is)
    (case a15 => k_is)
    (case l15 => k_is)
    (case c15 => k_is)
    (case k15 => k_is)
    (case a16 => k_is)
    (case l16 => k_is)
    (case c16 => k_is)
    (case k16 => k_is)
    (case a17 => k_is)
    (case l17 => k_is)
    (case c17 => k_is)
    (case k17 => k_is)
    (case a18 => k_is)
    (case l18 => k_is)
    (case c18 => k_is)
    (case k18 => k_is)
    (case a19 => k_is)
    (case l19 => k_is)
    (case c19 => k_is)
    (case k19 => k_is)
    (case a20 => k_is)
    (case l20 => k_is)
    (case c20 => k_is)
    (case k20 => k_is)
    (case a21 => k_is)
    (case l21 => k_is)
    (case c21 => k_is)
    (case k21 => k_is)
    (case a22 => k_is)
    (case l22 => k_is)
    (case c22 => k_is)
    (case k22 => k_is)
    (case aC_LookerError => k_is)
    (case aC_BadText => k_is)
    (case iL => k_is)
    (case tL => k_is)
    (case xL_BadText => k_is)
    (case sa_BadText => k_is)
    (case ga_BadText => k_is)
    (case gg_BadText => k_is)
    (case no_BadText => k_is)
    (case iC_BadText => k_is)
    (case tI_BadText => k_is)
    (case l23 => k_is)
    (case c23 => k_is)
    (case k23 => k_is)
    (case kC_BadText => k_is)
    (case eC_BadText => k_is)
    (case tC_BadText => k_is)
    (case hC_BadText => k_is)
    (case sC_BadText => k_is)
    (case su_BadText => k_is)
    (case z_ValueError => k_is)
    (case z_all => k_is)
    (case z_bool => k_is)
    (case z_int => k_is)
    (case z_isinstance => k_is)
    (case z_len => k_is)
    (case z_list => k_is)
    (case z_max => k_is)
    (case z_min => k_is)
    (case z_range => k_is)
    (case z_str => k_is)
    (case z_tuple => k_is)

