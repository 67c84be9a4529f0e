import PyProof.Rows.All
import Wide.All
import OpenK.AllK
import Wide.FinOn
import KE.KStateDown
import Lean
import HandS.Base
import HandS.Call
import HandS.Ends
import HandS.More
import HandS.Words
import HandS.WordsExc
import HandS.Defaults
import HandS.Head0
import HandS.Head1
import HandS.Head2
import HandS.HeadEnd
import HandS.HeadHook1
import HandS.HeadHook2
import PySem.Challenge.RW_hearthrules_k02_what_houses_tell
import HandS.ForMost
import HandS.Zip
import KE.GoesEnum
import HandS.Walk
import HandS.IsInst
import HandS.Strs
import HandS.FStr
import HandS.Style
import HandS.Star
import HandS.OwnEq
import PyProof.WalksMore
import HandS.TupAny
import HandS.MakeKw
import HandS.SlotsOwn
import KE.KCallOwn
import HandS.ForExc
import HandS.ExcField
import HandS.ExcIs
import KE.KExcSuper
import KE.KExcInit
import KE.KExcIs
import HandS.ExcValue
import HandS.HeadNt
import HandS.Text
/-! text Head02b -/
set_option Elab.async false
set_option linter.all false
set_option maxRecDepth 100000
set_option maxHeartbeats 0
namespace Hr
open PySem PySem.Spec PyProof.Rows L2
def top (i : Nat) : Stmt := PySem.Challenge.pw_hearthrules_k02_what_houses_tell.main.body.getD i (.Pass ⟨0, 0, 0, 0⟩)
abbrev s_NoHouse_init : Stmt := inClass (top 2) 0
abbrev s_NoSaying_init : Stmt := inClass (top 3) 0
abbrev s_NoRule_init : Stmt := inClass (top 4) 0
abbrev s_NoBook_init : Stmt := inClass (top 5) 0
abbrev s_NoText_init : Stmt := inClass (top 6) 0
abbrev s_NoCourse_init : Stmt := inClass (top 9) 0
abbrev s_NoChange_init : Stmt := inClass (top 10) 0
abbrev s_TooMany_init : Stmt := inClass (top 12) 0
abbrev s_NoThing_init : Stmt := inClass (top 16) 0
abbrev s_NoName_init : Stmt := inClass (top 17) 0
abbrev s_is_name : Stmt := top 22
abbrev s_is_whole : Stmt := top 23
abbrev s_is_row : Stmt := top 24
abbrev s_is_rising : Stmt := top 25
abbrev s_are_values : Stmt := top 33
abbrev s_is_thing : Stmt := top 34
abbrev s_are_things : Stmt := top 35
abbrev s_names_of : Stmt := top 36
abbrev s_count_ways : Stmt := top 37
abbrev s_share_a_name : Stmt := top 38
abbrev s_can_be_outer : Stmt := top 39
abbrev s_can_be_inner : Stmt := top 40
abbrev s_can_be_hours : Stmt := top 41
abbrev s_thing_rows : Stmt := top 42
abbrev s_House_init : Stmt := inClass (top 43) 0
abbrev s_House_eq : Stmt := inClass (top 43) 1
abbrev s_House_len : Stmt := inClass (top 43) 2
abbrev s_House_repr : Stmt := inClass (top 43) 3
abbrev s_House_str : Stmt := inClass (top 43) 4
abbrev s_House_values_of : Stmt := inClass (top 43) 5
abbrev s_all_outer : Stmt := top 44
abbrev s_first_values : Stmt := top 45
abbrev s_law_cell : Stmt := top 47
abbrev s_law_pool : Stmt := top 48
abbrev s_law_take : Stmt := top 49
abbrev s_law_words : Stmt := top 50
abbrev s_law_house : Stmt := top 51
abbrev s_law_ways : Stmt := top 52
abbrev s_law_kind : Stmt := top 53
abbrev s_law_same : Stmt := top 54
abbrev s_law_no_thing : Stmt := top 55
abbrev s_law_text : Stmt := top 56
abbrev s_law_right : Stmt := top 57
abbrev s_law_wide_house : Stmt := top 58
abbrev s_law_kept_right : Stmt := top 59
abbrev s_law : Stmt := top 60
def d_is_name : He.DefD := ⟨("is_name", none), "is_name", "is_name", defArgs s_is_name, defBody s_is_name, defScope s_is_name, [], []⟩
def d_is_whole : He.DefD := ⟨("is_whole", none), "is_whole", "is_whole", defArgs s_is_whole, defBody s_is_whole, defScope s_is_whole, [], []⟩
def d_is_row : He.DefD := ⟨("is_row", none), "is_row", "is_row", defArgs s_is_row, defBody s_is_row, defScope s_is_row, [], []⟩
def d_is_rising : He.DefD := ⟨("is_rising", none), "is_rising", "is_rising", defArgs s_is_rising, defBody s_is_rising, defScope s_is_rising, [], []⟩
def d_are_values : He.DefD := ⟨("are_values", none), "are_values", "are_values", defArgs s_are_values, defBody s_are_values, defScope s_are_values, [], []⟩
def d_is_thing : He.DefD := ⟨("is_thing", none), "is_thing", "is_thing", defArgs s_is_thing, defBody s_is_thing, defScope s_is_thing, [], []⟩
def d_are_things : He.DefD := ⟨("are_things", none), "are_things", "are_things", defArgs s_are_things, defBody s_are_things, defScope s_are_things, [], []⟩
def d_names_of : He.DefD := ⟨("names_of", none), "names_of", "names_of", defArgs s_names_of, defBody s_names_of, defScope s_names_of, [], []⟩
def d_count_ways : He.DefD := ⟨("count_ways", none), "count_ways", "count_ways", defArgs s_count_ways, defBody s_count_ways, defScope s_count_ways, [], []⟩
def d_share_a_name : He.DefD := ⟨("share_a_name", none), "share_a_name", "share_a_name", defArgs s_share_a_name, defBody s_share_a_name, defScope s_share_a_name, [], []⟩
def d_can_be_outer : He.DefD := ⟨("can_be_outer", none), "can_be_outer", "can_be_outer", defArgs s_can_be_outer, defBody s_can_be_outer, defScope s_can_be_outer, [], []⟩
def d_can_be_inner : He.DefD := ⟨("can_be_inner", none), "can_be_inner", "can_be_inner", defArgs s_can_be_inner, defBody s_can_be_inner, defScope s_can_be_inner, [], []⟩
def d_can_be_hours : He.DefD := ⟨("can_be_hours", none), "can_be_hours", "can_be_hours", defArgs s_can_be_hours, defBody s_can_be_hours, defScope s_can_be_hours, [], []⟩
def d_thing_rows : He.DefD := ⟨("thing_rows", none), "thing_rows", "thing_rows", defArgs s_thing_rows, defBody s_thing_rows, defScope s_thing_rows, [], []⟩
def d_House_init : He.DefD := ⟨("House", some "__init__"), "__init__", "House.__init__", defArgs s_House_init, defBody s_House_init, defScope s_House_init, [.int 4], []⟩
def d_House_eq : He.DefD := ⟨("House", some "__eq__"), "__eq__", "House.__eq__", defArgs s_House_eq, defBody s_House_eq, defScope s_House_eq, [], []⟩
def d_House_len : He.DefD := ⟨("House", some "__len__"), "__len__", "House.__len__", defArgs s_House_len, defBody s_House_len, defScope s_House_len, [], []⟩
def d_House_repr : He.DefD := ⟨("House", some "__repr__"), "__repr__", "House.__repr__", defArgs s_House_repr, defBody s_House_repr, defScope s_House_repr, [], []⟩
def d_House_str : He.DefD := ⟨("House", some "__str__"), "__str__", "House.__str__", defArgs s_House_str, defBody s_House_str, defScope s_House_str, [], []⟩
def d_House_values_of : He.DefD := ⟨("House", some "values_of"), "values_of", "House.values_of", defArgs s_House_values_of, defBody s_House_values_of, defScope s_House_values_of, [], []⟩
def d_all_outer : He.DefD := ⟨("all_outer", none), "all_outer", "all_outer", defArgs s_all_outer, defBody s_all_outer, defScope s_all_outer, [], []⟩
def d_first_values : He.DefD := ⟨("first_values", none), "first_values", "first_values", defArgs s_first_values, defBody s_first_values, defScope s_first_values, [], []⟩
def d_law_cell : He.DefD := ⟨("_law_cell", none), "_law_cell", "_law_cell", defArgs s_law_cell, defBody s_law_cell, defScope s_law_cell, [], []⟩
def d_law_pool : He.DefD := ⟨("_law_pool", none), "_law_pool", "_law_pool", defArgs s_law_pool, defBody s_law_pool, defScope s_law_pool, [], []⟩
def d_law_take : He.DefD := ⟨("_law_take", none), "_law_take", "_law_take", defArgs s_law_take, defBody s_law_take, defScope s_law_take, [], []⟩
def d_law_words : He.DefD := ⟨("_law_words", none), "_law_words", "_law_words", defArgs s_law_words, defBody s_law_words, defScope s_law_words, [], []⟩
def d_law_house : He.DefD := ⟨("_law_house", none), "_law_house", "_law_house", defArgs s_law_house, defBody s_law_house, defScope s_law_house, [], []⟩
def d_law_ways : He.DefD := ⟨("_law_ways", none), "_law_ways", "_law_ways", defArgs s_law_ways, defBody s_law_ways, defScope s_law_ways, [], []⟩
def d_law_kind : He.DefD := ⟨("_law_kind", none), "_law_kind", "_law_kind", defArgs s_law_kind, defBody s_law_kind, defScope s_law_kind, [], []⟩
def d_law_same : He.DefD := ⟨("_law_same", none), "_law_same", "_law_same", defArgs s_law_same, defBody s_law_same, defScope s_law_same, [], []⟩
def d_law_no_thing : He.DefD := ⟨("_law_no_thing", none), "_law_no_thing", "_law_no_thing", defArgs s_law_no_thing, defBody s_law_no_thing, defScope s_law_no_thing, [], []⟩
def d_law_text : He.DefD := ⟨("_law_text", none), "_law_text", "_law_text", defArgs s_law_text, defBody s_law_text, defScope s_law_text, [], []⟩
def d_law_right : He.DefD := ⟨("_law_right", none), "_law_right", "_law_right", defArgs s_law_right, defBody s_law_right, defScope s_law_right, [], []⟩
def d_law_wide_house : He.DefD := ⟨("_law_wide_house", none), "_law_wide_house", "_law_wide_house", defArgs s_law_wide_house, defBody s_law_wide_house, defScope s_law_wide_house, [], []⟩
def d_law_kept_right : He.DefD := ⟨("_law_kept_right", none), "_law_kept_right", "_law_kept_right", defArgs s_law_kept_right, defBody s_law_kept_right, defScope s_law_kept_right, [], []⟩
def d_law : He.DefD := ⟨("law", none), "law", "law", defArgs s_law, defBody s_law, defScope s_law, [], []⟩
def fn : List He.DefD := [d_is_name, d_is_whole, d_is_row, d_is_rising, d_are_values, d_is_thing, d_are_things, d_names_of, d_count_ways, d_share_a_name, d_can_be_outer, d_can_be_inner, d_can_be_hours, d_thing_rows, d_House_init, d_House_eq, d_House_len, d_House_repr, d_House_str, d_House_values_of, d_all_outer, d_first_values, d_law_cell, d_law_pool, d_law_take, d_law_words, d_law_house, d_law_ways, d_law_kind, d_law_same, d_law_no_thing, d_law_text, d_law_right, d_law_wide_house, d_law_kept_right, d_law]
def fa : List He.Fa := [.glo "HearthError", .keep "HearthError", .glo "NoHouse", .keep "NoHouse", .glo "NoSaying", .keep "NoSaying", .glo "NoRule", .keep "NoRule", .glo "NoBook", .keep "NoBook", .glo "NoText", .keep "NoText", .glo "NoStanding", .keep "NoStanding", .glo "NoOuter", .keep "NoOuter", .glo "NoCourse", .keep "NoCourse", .glo "NoChange", .keep "NoChange", .glo "NoPair", .keep "NoPair", .glo "TooMany", .keep "TooMany", .glo "NoNumber", .keep "NoNumber", .glo "NoRow", .keep "NoRow", .glo "LostError", .keep "LostError", .glo "NoThing", .keep "NoThing", .glo "NoName", .keep "NoName", .glo "is_name", .glo "is_whole", .glo "is_row", .glo "is_rising", .glo "are_values", .glo "is_thing", .glo "are_things", .glo "names_of", .glo "count_ways", .glo "share_a_name", .glo "can_be_outer", .glo "can_be_inner", .glo "can_be_hours", .glo "thing_rows", .glo "House", .keep "House", .glo "all_outer", .glo "first_values", .glo "_law_cell", .glo "_law_pool", .glo "_law_take", .glo "_law_words", .glo "_law_house", .glo "_law_ways", .glo "_law_kind", .glo "_law_same", .glo "_law_no_thing", .glo "_law_text", .glo "_law_right", .glo "_law_wide_house", .glo "_law_kept_right", .glo "law", .free "LookupError", .free "ValueError", .free "abs", .free "all", .free "any", .free "bool", .free "divmod", .free "int", .free "isinstance", .free "len", .free "list", .free "max", .free "min", .free "range", .free "set", .free "sorted", .free "str", .free "super", .free "tuple", .free "zip", .cls "House", .mkr "House", .noat "House" "outer", .noat "House" "inner", .noat "House" "hours", .meth "House" "values_of"]
abbrev R : PySem.W.OpenRow := PySem.W.OpenLaw.row PySem.Challenge.rw_hearthrules_k02_what_houses_tell
abbrev RW := PySem.Challenge.rw_hearthrules_k02_what_houses_tell
abbrev lawAt : Nat := 60
def loose0 : List PySem.Str := ["__name__", "HearthError", "NoHouse", "NoSaying", "NoRule", "NoBook", "NoText", "NoStanding", "NoOuter", "NoCourse", "NoChange", "NoPair", "TooMany", "NoNumber", "NoRow", "LostError", "NoThing", "NoName", "LETTERS", "MOST_LETTERS", "WORDS_OF_SAYINGS", "is_name", "is_whole", "is_row", "is_rising", "MOST_OUTER", "MOST_INNER", "LEAST_VALUES", "MOST_VALUES", "MOST_WAYS"]
def loose1 : List PySem.Str := ["MOST_HOURS", "are_values", "is_thing", "are_things", "names_of", "count_ways", "share_a_name", "can_be_outer", "can_be_inner", "can_be_hours", "thing_rows", "House", "all_outer", "first_values", "_law_cell", "_law_pool", "_law_take", "_law_words", "_law_house", "_law_ways", "_law_kind", "_law_same", "_law_no_thing", "_law_text", "_law_right", "_law_wide_house", "_law_kept_right"]
abbrev loose : List PySem.Str := loose0 ++ loose1
end Hr

/-! text A1 -/
set_option Elab.async false
set_option linter.all false
set_option maxRecDepth 100000
set_option maxHeartbeats 4000000
namespace Hr
open PySem L2
abbrev FnP (K : PySem.W.Frag) (x : Str) (st : Stmt) (f : Addr) (fd : FuncData) : Prop := FunD K x x (defArgs st) (defBody st) (defScope st) [] [] f fd
/-- a pool: a state, the digits that are left, how many were taken -/
def Pool (H : Hp) (a : Addr) : Prop := ∃ s d c : Int, H a = some (.lst [.int s, .int d, .int c]) ∧ 0 ≤ s ∧ s < 2147483587 ∧ 0 ≤ d
/-- all but what stands at a is as it was -/
def But (a : Addr) (H H' : Hp) : Prop := ∀ b o, b ≠ a → H b = some o → H' b = some o
theorem But.upd {a : Addr} {H : Hp} {o : HO} : But a H (upd H a o) := fun b u hb e => by rw [upd_ne hb]; exact e
theorem But.trans {a : Addr} {H H1 H2 : Hp} (h : But a H H1) (k : But a H1 H2) : But a H H2 := fun b o hb e => k b o hb (h b o hb e)
theorem But.refl {a : Addr} {H : Hp} : But a H H := fun _ _ _ e => e
theorem But.new {a p : Addr} {H H1 : Hp} {o : HO} (h : But a H H1) (hp : H1 p = none) : But a H (L2.upd H1 p o) := fun b u hb e => by
  rw [upd_ne (ne_of_none (h b u hb e) hp)]
  exact h b u hb e
/-- take(pool, many): a digit below many; the pool is a pool; the rest is as it was, new things apart -/
def spTake : Sp := fun vs H Q _ => ∃ (a : Addr) (n : Int), vs = [.ref a, .int n] ∧ Pool H a ∧ 0 < n ∧ n < 1073741824 ∧
  ∀ (H' : Hp) (d : Int), But a H H' → Pool H' a → 0 ≤ d → d < n → Q (.int d) H'
section
variable {P : Program} {w : World} {K : PySem.W.Frag} {mg : Str → Option Value} {base : Heap} {f : Addr} {fd : FuncData}
theorem scTake : FnScope ["_law_pool_here", "_law_many", "_law_state", "_law_digit"] ["_law_pool_here", "_law_many"] (defScope s_law_take) := ⟨rfl, rfl, rfl, by decide +kernel, rfl, by decide +kernel, by decide +kernel⟩
theorem ok_take (F : FnP K "_law_take" s_law_take f fd) (gD : mg "divmod" = none) : FnOk P w K mg base CX0 1 f fd ["_law_pool_here", "_law_many"] spTake := by
  refine F.ok scTake (fun vs H Q E h => ?_) (fun cdv A outer s H vs Q E hr h => ?_)
  · obtain ⟨a, n, rfl, _⟩ := h
    rfl
  · obtain ⟨a, n, rfl, ⟨st, dg, c, hp, s0, s1, d0⟩, n0, n1, k⟩ := h
    refine ⟨_, PSs.nox (pss_cons (ps_asg (pe_op op_add (pe_ix ix_list (pv 0) pe_int (fun _ _ => rfl)) pe_int) (pg_sub (pv 0) pe_int set_list))
      (pss_cons (ps_set (i := 2) scTake.nd rfl (.inl rfl) (pe_ix ix_list (pv 0) pe_int (fun _ _ => rfl)))
      (pss_cons (ps_asg (pe_op op_mod (pe_op op_add (pe_op op_mul (pv 2) (pe_op op_add (pe_op op_mod (pv 2) pe_int) pe_int)) (pe_op op_mul pe_int (pe_ix ix_list (pv 0) pe_int (fun _ _ => rfl)))) pe_int) (pg_sub (pv 0) pe_int set_list))
      (pss_cons (ps_if (pt_cmpR op_gt (pe_ix ix_list (pv 0) pe_int (fun _ _ => rfl)) pe_int (nomark _))
        (pss_cons (ps_asg (pe_callB call_divmod (by rfl) gD (by decide +kernel) (pa_cons (pe_ix ix_list (pv 0) pe_int (fun _ _ => rfl)) (pa_cons (pv 1) pa_nil)))
            (pg_tup rfl (pgs_cons (pg_sub (pv 0) pe_int set_list) (pgs_cons (pg_name (i := 3) scTake.nd rfl (.inl rfl)) pgs_nil))))
          (pss_one (ps_ret (pv 3)))) pss_nil)
      (pss_one (ps_ret (pe_op op_mod (pe_op op_fdiv (pe_ix ix_list (pv 0) pe_int (fun _ _ => rfl)) pe_int) (pv 1)))))))), ?_⟩
    -- pool[2] = pool[2] + 1
    refine ⟨_, rfl, a, _, 2, _, rfl, rfl, SqL.of hp, rfl, _, _, rfl, rfl, _, rfl, a, _, 2, 2, rfl, rfl, hp, rfl, ?_⟩
    refine ⟨_, rfl, a, _, 0, _, rfl, rfl, SqL.of upd_same, rfl, ?_⟩
    have e2 : 0 ≤ (st * (st % 45007 + 33013) + 80021 * (c + 1)) % 2147483587 := Int.emod_nonneg _ (by decide)
    have e3 : (st * (st % 45007 + 33013) + 80021 * (c + 1)) % 2147483587 < 2147483587 := Int.emod_lt_of_pos _ (by decide)
    have b1 : -(2 ^ 64) < st ∧ st < 2 ^ 64 := ⟨by omega, by omega⟩
    refine ⟨_, rfl, _, rfl, _, _, rfl, rfl, (by show (0 : Int) < 45007; decide), _, _, rfl, rfl, _, _, rfl, rfl, .inl b1, _, rfl, a, _, 2, _, rfl, rfl, SqL.of upd_same, rfl, _, _, rfl, rfl, .inl ⟨by decide, by decide⟩, _, _, rfl, rfl, _, _, rfl, rfl, (by show (0 : Int) < 2147483587; decide), ?_⟩
    refine ⟨_, rfl, a, _, 0, 0, rfl, rfl, upd_same, rfl, ?_⟩

    refine ⟨_, rfl, a, _, 1, _, rfl, rfl, SqL.of upd_same, rfl, _, _, rfl, rfl, _, rfl, ?_⟩
    refine ite2 (fun hd => ?_) (fun hd => ?_)
    · have hd : 0 < dg := of_decide_eq_true hd
      refine ⟨_, rfl, a, _, 1, _, rfl, rfl, SqL.of upd_same, rfl, _, rfl, _, _, rfl, ⟨n0, n1⟩, fun p np => ?_⟩
      have nap : a ≠ p := ne_of_none (H := _) upd_same np
      refine ⟨p, _, rfl, SqT.of upd_same, rfl, ?_⟩
      refine ⟨_, _, rfl, _, rfl, a, _, 1, 1, rfl, rfl, (by rw [upd_ne nap]; exact upd_same), rfl, ?_⟩
      refine ⟨_, _, rfl, rfl, _, rfl, k _ _ ?_ ?_ ?_ ?_⟩
      · exact fun b o hb e => by
          rw [upd_ne hb]
          have nbp : b ≠ p := fun z => by
            rw [upd_ne (Ne.symm nap), upd_ne (Ne.symm nap)] at np
            rw [z, np] at e
            cases e
          rw [upd_ne nbp, upd_ne hb, upd_ne hb]
          exact e
      · exact ⟨_, dg / n, c + 1, upd_same, e2, e3, Int.ediv_nonneg d0 (Int.le_of_lt n0)⟩
      · exact Int.emod_nonneg _ (Int.ne_of_gt n0)
      · exact Int.emod_lt_of_pos _ n0
    · refine ⟨_, rfl, a, _, 0, _, rfl, rfl, SqL.of upd_same, rfl, _, _, rfl, rfl, ⟨by decide, by decide⟩, _, rfl, _, _, rfl, rfl, n0, ?_⟩
      refine k _ _ (But.upd.trans But.upd) ⟨_, dg, c + 1, upd_same, e2, e3, d0⟩ (Int.emod_nonneg _ (Int.ne_of_gt n0)) (Int.emod_lt_of_pos _ n0)
end
end Hr

/-! text A2 -/
set_option Elab.async false
set_option linter.all false
set_option maxRecDepth 100000
set_option maxHeartbeats 4000000
namespace Hr
open PySem L2
theorem Same.nw {H H1 : Hp} {p : Addr} {o : HO} (h : Same H H1) (hp : H1 p = none) : Same H (L2.upd H1 p o) := fun b u e => by
  rw [upd_ne (ne_of_none (h b u e) hp)]
  exact h b u e
theorem Same.rf {H : Hp} : Same H H := fun _ _ e => e
theorem Same.tr {H H1 H2 : Hp} (h : Same H H1) (k : Same H1 H2) : Same H H2 := fun b o e => k b o (h b o e)
theorem Same.fre {H H1 : Hp} (h : Same H H1) {p : Addr} (hp : H1 p = none) : H p = none := by
  cases e : H p with
  | none => rfl
  | some o =>
    rw [h p o e] at hp
    cases hp
theorem Same.bt {a : Addr} {H H1 : Hp} (h : Same H H1) : But a H H1 := fun b o _ e => h b o e
def spPool : Sp := fun vs H Q _ => ∃ (n : Int), vs = [.int n] ∧ ∀ (H' : Hp) (p : Addr), Same H H' → H p = none → Pool H' p → Q (.ref p) H'
def spCell (K : PySem.W.Frag) : Sp := fun vs H Q _ => ∃ (a : Addr) (ns : List Int) (k : Nat), vs = [.ref a, .int k] ∧ SqL K H a (ns.map V.int) ∧ k ≤ 100 ∧ ∀ (H' : Hp) (n : Int), Same H H' → Q (.int n) H'
section
variable {P : Program} {w : World} {K : PySem.W.Frag} {mg : Str → Option Value} {base : Heap} {f : Addr} {fd : FuncData}
theorem scPool : FnScope ["_law_cell_here", "_law_digits"] ["_law_cell_here"] (defScope s_law_pool) := ⟨rfl, rfl, rfl, by decide +kernel, rfl, by decide +kernel, by decide +kernel⟩
theorem ok_pool (F : FnP K "_law_pool" s_law_pool f fd) (gA : mg "abs" = none) : FnOk P w K mg base CX0 1 f fd ["_law_cell_here"] spPool := by
  refine F.ok scPool (fun vs H Q E h => ?_) (fun cdv A outer s H vs Q E hr h => ?_)
  · obtain ⟨n, rfl, _⟩ := h
    rfl
  · obtain ⟨n, rfl, k⟩ := h
    refine ⟨_, PSs.nox (pss_cons (ps_set (i := 1) scPool.nd rfl (.inl rfl) pe_int)
      (pss_cons (ps_if (PW.pt (pw_or (pt_cmpR op_lt (pv 0) pe_int (nomark _)) (pw_or1 (pt_cmpR op_ge (pv 0) (pe_op op_pow pe_int pe_int) (nomark _)))))
        (pss_one (ps_set (i := 1) scPool.nd rfl (.inl rfl) (pe_callB call_abs (by rfl) gA (by decide +kernel) (pa_cons (pv 0) pa_nil)))) pss_nil)
      (pss_one (ps_ret (pe_lst (pa_cons (pe_op op_mod (pv 0) pe_int) (pa_cons (pv 1) (pa_cons pe_int pa_nil)))))))), ?_⟩
    have m0 : 0 ≤ n % 2147483587 := Int.emod_nonneg _ (by decide)
    have m1 : n % 2147483587 < 2147483587 := Int.emod_lt_of_pos _ (by decide)
    have fin : ∀ d : Int, 0 ≤ d → ∀ p, H p = none → Q (.ref p) (L2.upd H p (.lst [.int (n % 2147483587), .int d, .int 0])) := fun d d0 p hp => k _ p (Same.nw Same.rf hp) hp ⟨_, d, 0, upd_same, m0, m1, d0⟩
    have hab : 0 ≤ (if n < 0 then -n else n) := by split <;> omega
    refine ⟨_, rfl, _, _, rfl, rfl, _, rfl, ?_⟩
    refine ite2 (fun _ => ?_) (fun _ => ?_)
    · refine ⟨_, rfl, _, rfl, ?_⟩
      refine ⟨_, rfl, _, _, rfl, rfl, (by show (0 : Int) < 2147483587; decide), _, rfl, (by show 3 ≤ sizeLine; decide), fun p hp => fin _ hab p hp⟩
    · refine ⟨_, rfl, _, _, rfl, rfl, ⟨by decide, by decide, by decide⟩, _, _, rfl, rfl, _, rfl, ?_⟩
      refine ite2 (fun _ => ?_) (fun _ => ?_)
      · refine ⟨_, rfl, _, rfl, ?_⟩
        refine ⟨_, rfl, _, _, rfl, rfl, (by show (0 : Int) < 2147483587; decide), _, rfl, (by show 3 ≤ sizeLine; decide), fun p hp => fin _ hab p hp⟩
      · refine ⟨_, rfl, _, _, rfl, rfl, (by show (0 : Int) < 2147483587; decide), _, rfl, (by show 3 ≤ sizeLine; decide), fun p hp => fin 0 (Int.le_refl _) p hp⟩
theorem scCell : FnScope ["_law_script", "_law_k", "_law_state", "_law_cell_here"] ["_law_script", "_law_k"] (defScope s_law_cell) := ⟨rfl, rfl, rfl, by decide +kernel, rfl, by decide +kernel, by decide +kernel⟩
theorem cut_ints (ns : List Int) (i j : Option Int) : ∃ ms : List Int, cutV (ns.map V.int) i j = ms.map V.int := ⟨(ns.drop _).take _, by unfold cutV; rw [List.map_take, List.map_drop]⟩
theorem ok_cell (F : FnP K "_law_cell" s_law_cell f fd) (gL : mg "len" = none) : FnOk P w K mg base CX0 1 f fd ["_law_script", "_law_k"] (spCell K) := by
  refine F.ok scCell (fun vs H Q E h => ?_) (fun cdv A outer s H vs Q E hr h => ?_)
  · obtain ⟨a, ns, k, rfl, _⟩ := h
    rfl
  · obtain ⟨a, ns, kk, rfl, hS, hk, k⟩ := h
    refine ⟨_, PSs.nox (pss_cons (ps_if (pt_cmpR op_lt (pv 1) (pe_callB call_len_seq (by rfl) gL PySem.boot_len (pa_cons (pv 0) pa_nil)) (nomark _)) (pss_one (ps_ret (pe_ix ix_list (pv 0) (pv 1) (fun _ _ => rfl)))) pss_nil)
      (pss_cons (ps_set (i := 2) scCell.nd rfl (.inl rfl) (pe_op op_mod (pe_op op_mul pe_int (pe_op op_add (pe_op op_add (pe_op op_mul (pv 1) (pv 1)) (pe_op op_mul pe_int (pv 1))) pe_int)) pe_int))
      (pss_cons (ps_for PassesOwn.never rfl (pi_list (pe_slice sl_list (pv 0) po_none (po_some pe_int))) (pg_name (i := 3) scCell.nd rfl (.inl rfl))
        (pss_one (ps_set (i := 2) scCell.nd rfl (.inl rfl) (pe_op op_mod (pe_op op_add (pe_op op_mul (pv 2) pe_int) (pv 3)) pe_int))))
      (pss_one (ps_ret (pv 2)))))), ?_⟩
    refine ⟨_, rfl, _, rfl, a, _, rfl, .inl hS, _, _, rfl, rfl, _, rfl, ?_⟩
    refine ite2 (fun hlt => ?_) (fun _ => ?_)
    · have hlt : (kk : Int) < ((ns.map V.int).length : Int) := of_decide_eq_true hlt
      have hlt2 : kk < ns.length := by rw [List.length_map] at hlt; omega
      refine ⟨_, rfl, _, rfl, a, _, _, _, rfl, rfl, hS, atI_nat (v := V.int ns[kk]) (by rw [List.getElem?_map, List.getElem?_eq_getElem hlt2]; rfl), k _ _ Same.rf⟩
    · refine ⟨_, rfl, _, rfl, _, _, rfl, rfl, .inl ⟨by omega, by omega⟩, _, rfl, _, _, rfl, rfl, .inl ⟨by decide, by decide⟩, _, _, rfl, rfl, _, _, rfl, rfl, _, _, rfl, rfl, .inl ⟨by decide, by decide⟩, _, _, rfl, rfl, (by show (0 : Int) < 2147483587; decide), ?_⟩
      obtain ⟨ms, em⟩ := cut_ints ns none (some 3)
      refine ⟨_, rfl, 3, rfl, a, _, rfl, hS, fun p hp => ?_⟩
      rw [em]
      refine ⟨p, rfl, ⟨_, SqL.of upd_same⟩, for_list (K := K) (a := p) (xs := ms.map V.int) (fun i σ H' => ∃ (c : Int) (v : Option V), σ = [some (.ref a), some (.int kk), some (.int c), v] ∧ H' = L2.upd H p (.lst (ms.map V.int)))
        ⟨_, _, rfl, rfl⟩ (fun i σ H' _ ⟨_, _, _, e⟩ => by rw [e]; exact SqL.of upd_same) ?_ ?_⟩
      · rintro i y σ H' hi ⟨c, v, rfl, rfl⟩
        obtain ⟨u, rfl⟩ : ∃ u, y = V.int u := by
          rw [List.getElem?_map] at hi
          cases e : ms[i]? with
          | none =>
            rw [e] at hi
            cases hi
          | some u =>
            rw [e] at hi
            exact ⟨u, (Option.some.inj hi).symm⟩
        refine ⟨_, rfl, _, _, rfl, rfl, .inr ⟨by decide, by decide⟩, _, rfl, _, _, rfl, rfl, _, _, rfl, rfl, (by show (0 : Int) < 2147483587; decide), ?_⟩
        exact ⟨_, _, rfl, rfl⟩
      · rintro σ H' ⟨c, v, rfl, rfl⟩
        exact ⟨_, rfl, k _ _ (Same.nw Same.rf hp)⟩
end
end Hr

/-! text M1 -/
set_option Elab.async false
set_option linter.all false
set_option maxRecDepth 100000
set_option maxHeartbeats 4000000
namespace Hr
open PySem L2
/-! names, as codes -/
theorem nodup_map_on {α β : Type} {g : α → β} : ∀ {l : List α}, (∀ x ∈ l, ∀ y ∈ l, g x = g y → x = y) → l.Nodup → (l.map g).Nodup
  | [], _, _ => List.nodup_nil
  | a :: l, h, n => by
    have n := List.nodup_cons.mp n
    rw [List.map_cons]
    refine List.nodup_cons.mpr ⟨fun hm => ?_, nodup_map_on (fun x hx y hy => h x (List.mem_cons_of_mem _ hx) y (List.mem_cons_of_mem _ hy)) n.2⟩
    obtain ⟨y, hy, e⟩ := List.mem_map.mp hm
    have := h y (List.mem_cons_of_mem _ hy) a List.mem_cons_self e
    exact n.1 (this ▸ hy)
def RES : List Str := ["is", "hour", "to", "not", "and", "or"]
def isNm (z : Str) : Prop := 1 ≤ z.length ∧ z.length ≤ 8 ∧ (∀ c ∈ z.cps.toList, 97 ≤ c ∧ c ≤ 122) ∧ z ∉ RES
theorem len_tl (z : Str) : z.length = z.cps.toList.length := by unfold Str.length; rw [Array.length_toList]
theorem res_short : ∀ z ∈ RES, z.length ≤ 4 := by decide +kernel
def ABC : Str := "abcdefghijklmnopqrstuvwxyz"
theorem abc_len : ABC.length = 26 := by decide +kernel
theorem abc_at : ∀ i : Fin 26, ABC.cps.toList[i.val]? = some (97 + i.val) := by decide +kernel
theorem abc_atI {i : Int} (h0 : 0 ≤ i) (h1 : i < 26) : atI ABC.cps.toList i = some (97 + i.toNat) := by
  have e := abc_at ⟨i.toNat, by omega⟩
  have q := atI_nat (xs := ABC.cps.toList) (j := i.toNat) e
  rw [Int.toNat_of_nonneg h0] at q
  exact q
def OWN : List Str := ["rule", "none", "by", "hand", "free", "fail", "clash", "outer", "inner", "next", "what", "never"]
instance (z : Str) : Decidable (isNm z) := by unfold isNm; infer_instance
theorem own_nm : ∀ z ∈ OWN, isNm z := by decide +kernel
theorem own_inj : ∀ i : Fin 12, ∀ j : Fin 12, OWN[i.val]? = OWN[j.val]? → i = j := by decide +kernel
def STEPS : List Int := [1, 5, 7, 11]
/-- the k-th of the own words -/
def ownAt (b s : Int) (k : Nat) : Str := OWN.getD ((b + s * k) % 12).toNat "by"
theorem own_ix {n : Nat} (h : n < 12) : OWN[n]? = some (OWN.getD n "by") := by
  have l : n < OWN.length := h
  rw [List.getD_eq_getElem?_getD, List.getElem?_eq_getElem l]
  rfl
theorem own_atI (b s : Int) (k : Nat) : atI (OWN.map V.str) ((b + s * k) % 12) = some (.str (ownAt b s k)) := by
  have h0 : 0 ≤ (b + s * k) % 12 := Int.emod_nonneg _ (by decide)
  have h1 : (b + s * k) % 12 < 12 := Int.emod_lt_of_pos _ (by decide)
  have q := atI_nat (xs := OWN.map V.str) (j := ((b + s * k) % 12).toNat) (v := .str (ownAt b s k)) (by rw [List.getElem?_map, own_ix (by omega)]; rfl)
  rw [Int.toNat_of_nonneg h0] at q
  exact q
theorem mod_inj {m b s : Int} {i j : Nat} (hs : s ∈ STEPS) (hm : m = 12 ∨ m = 26) (hi : i < 12) (hj : j < 12) (e : (b + s * i) % m = (b + s * j) % m) : i = j := by
  have h : s = 1 ∨ s = 5 ∨ s = 7 ∨ s = 11 := by simpa [STEPS] using hs
  rcases h with rfl | rfl | rfl | rfl <;> rcases hm with rfl | rfl <;> omega
def ownWords (b s : Int) (n : Nat) : List Str := (List.range n).map (ownAt b s)
theorem own_good {b s : Int} {n : Nat} (hs : s ∈ STEPS) (hn : n ≤ 12) : (∀ z ∈ ownWords b s n, isNm z) ∧ (ownWords b s n).Nodup := by
  have lt : ∀ k : Nat, ((b + s * k) % 12).toNat < 12 := fun k => by
    have h0 : 0 ≤ (b + s * k) % 12 := Int.emod_nonneg _ (by decide)
    have h1 : (b + s * k) % 12 < 12 := Int.emod_lt_of_pos _ (by decide)
    omega
  refine ⟨fun z hz => ?_, ?_⟩
  · obtain ⟨k, _, rfl⟩ := List.mem_map.mp hz
    exact own_nm _ (List.mem_of_getElem? (own_ix (lt k)))
  · unfold ownWords
    refine nodup_map_on (fun x hx y hy e => ?_) List.nodup_range
    have hx := List.mem_range.mp hx
    have hy := List.mem_range.mp hy
    have e1 := own_ix (lt x)
    have e2 := own_ix (lt y)
    have e3 : OWN[((b + s * x) % 12).toNat]? = OWN[((b + s * y) % 12).toNat]? := by
      rw [e1, e2]
      exact congrArg some e
    have e4 := own_inj ⟨_, lt x⟩ ⟨_, lt y⟩ e3
    have e5 : ((b + s * x) % 12).toNat = ((b + s * y) % 12).toNat := congrArg Fin.val e4
    refine mod_inj hs (.inl rfl) (by omega) (by omega) (b := b) ?_
    have h0 : 0 ≤ (b + s * x) % 12 := Int.emod_nonneg _ (by decide)
    have h1 : 0 ≤ (b + s * y) % 12 := Int.emod_nonneg _ (by decide)
    omega
/-- the k-th of the made words -/
def madeAt (t : Str) (c f s : Int) (k : Nat) : Str := cutS t none (some c) ++ ⟨#[97 + ((f + s * k) % 26).toNat]⟩ ++ cutS t (some c) none
def madeWords (t : Str) (c f s : Int) (n : Nat) : List Str := (List.range n).map (madeAt t c f s)
theorem made_tl {t : Str} {c : Nat} (hc : c ≤ t.length) (f s : Int) (k : Nat) : (madeAt t c f s k).cps.toList = t.cps.toList.take c ++ (97 + ((f + s * k) % 26).toNat) :: t.cps.toList.drop c := by
  unfold madeAt
  have e1 : (cutS t none (some (c : Int))).cps.toList = t.cps.toList.take c := by
    unfold cutS
    show List.take (HT.sIx t.length t.length (some (c : Int)) - HT.sIx t.length 0 none) (List.drop (HT.sIx t.length 0 none) t.cps.toList) = _
    rw [HT.sIx_none, HT.sIx_nat, Nat.min_eq_left hc]
    rfl
  have e2 : (cutS t (some (c : Int)) none).cps.toList = t.cps.toList.drop c := by
    unfold cutS
    show List.take (HT.sIx t.length t.length none - HT.sIx t.length 0 (some (c : Int))) (List.drop (HT.sIx t.length 0 (some (c : Int))) t.cps.toList) = _
    rw [HT.sIx_none, HT.sIx_nat, Nat.min_eq_left hc, List.take_of_length_le]
    rw [List.length_drop, ← len_tl]
    omega
  have a : ∀ x y : Str, (x ++ y).cps.toList = x.cps.toList ++ y.cps.toList := fun x y => TL.tl_append x y
  rw [a, a, e1, e2, List.append_assoc]
  rfl
theorem made_good {t : Str} {c : Nat} {f s : Int} {n : Nat} (hc : c ≤ t.length) (h4 : 4 ≤ t.length) (h7 : t.length ≤ 7) (ht : ∀ x ∈ t.cps.toList, 97 ≤ x ∧ x ≤ 122) (hs : s ∈ STEPS) (hn : n ≤ 12) :
    (∀ z ∈ madeWords t c f s n, isNm z) ∧ (madeWords t c f s n).Nodup := by
  have hm : ∀ k : Nat, 0 ≤ (f + s * k) % 26 ∧ (f + s * k) % 26 < 26 := fun k => ⟨Int.emod_nonneg _ (by decide), Int.emod_lt_of_pos _ (by decide)⟩
  refine ⟨fun z hz => ?_, ?_⟩
  · obtain ⟨k, _, rfl⟩ := List.mem_map.mp hz
    have e := made_tl hc f s k
    have l : (madeAt t c f s k).length = t.length + 1 := by
      rw [len_tl, e, List.length_append, List.length_cons, List.length_take, List.length_drop, ← len_tl]
      omega
    refine ⟨by omega, by omega, fun x hx => ?_, fun hr => ?_⟩
    · rw [e] at hx
      rcases List.mem_append.mp hx with h | h
      · exact ht x (List.mem_of_mem_take h)
      · rcases List.mem_cons.mp h with h | h
        · have := hm k
          omega
        · exact ht x (List.mem_of_mem_drop h)
    · have := res_short _ hr
      omega
  · unfold madeWords
    refine nodup_map_on (fun x hx y hy e => ?_) List.nodup_range
    have hx := List.mem_range.mp hx
    have hy := List.mem_range.mp hy
    have e1 := made_tl hc f s x
    rw [e, made_tl hc f s y] at e1
    have e2 := (List.append_inj_right e1 rfl)
    have e3 : 97 + ((f + s * y) % 26).toNat = 97 + ((f + s * x) % 26).toNat := (List.cons.inj e2).1
    have h1 := hm x
    have h2 := hm y
    exact mod_inj hs (.inr rfl) (by omega) (by omega) (b := f) (by omega)
/-- letters joined -/
theorem join_letters : ∀ cs : List Nat, (Txt.join "" (cs.map fun c => (⟨#[c]⟩ : Str))).cps.toList = cs := by
  intro cs
  have j : ∀ ps : List (List Nat), TL.joinL [] ps = ps.flatten := by
    intro ps
    induction ps with
    | nil => rfl
    | cons p r ih =>
      cases r with
      | nil =>
        show p = _
        simp
      | cons q r =>
        show p ++ ([] ++ TL.joinL [] (q :: r)) = _
        rw [ih]
        rfl
  have e := TL.tl_join "" (cs.map fun c => (⟨#[c]⟩ : Str))
  rw [← TL.join_eq] at e
  have e0 : TL.tl ("" : Str) = [] := by decide +kernel
  rw [e0, j, List.map_map] at e
  have e' : (Txt.join "" (cs.map fun c => (⟨#[c]⟩ : Str))).cps.toList = (cs.map (TL.tl ∘ fun c => (⟨#[c]⟩ : Str))).flatten := e
  rw [e']
  clear e e'
  induction cs with
  | nil => rfl
  | cons c r ih =>
    show c :: (List.map (TL.tl ∘ fun c => (⟨#[c]⟩ : Str)) r).flatten = _
    rw [ih]
end Hr

/-! text A3 -/
set_option Elab.async false
set_option linter.all false
set_option maxRecDepth 100000
set_option maxHeartbeats 4000000
namespace Hr
open PySem L2
/-- a def of the module that keeps its promise, by its name -/
def Dk (P : Program) (w : World) (K : PySem.W.Frag) (mg : Str → Option Value) (base : Heap) (x : Str) (k : Nat) (ps : List Str) (sp : Sp) : Prop :=
  ∃ f fd, FnOk P w K mg base CX0 k f fd ps sp ∧ mg x = some (.ref f) ∧ PySem.W.keepIn K (.ref f) = true ∧ Binds K fd ps []
theorem pe_cd {X : Cx} {x : Str} {k : Nat} {ps : List Str} {sp : Sp} {e : Expr} {es : List Expr} {t : TA} {p pos : Pos} (D : Dk X.prog X.w X.K X.mg X.base x k ps sp) (hr : Room k X.A) (hg : Gl X x) (ha : PA X (e :: es) t)
    (hdb : (x == ("__debug__" : Str)) = false := by decide) (he : starEach (e :: es) X.env = (false, eval e X.env) :: starEach es X.env := by rfl) (hpl : (backTo pos (starEach es X.env)).any (·.1) = false := by rfl) :
    PE X (.Call (.Name x p) (e :: es) [] pos) (tCall sp [] E0 t) := by
  obtain ⟨f, fd, F, g, kp, b⟩ := D
  exact pe_call F hr hg g kp b .nil pass0 ha hdb he hpl
def spWords : Sp := fun vs H Q _ => ∃ (a : Addr) (n : Nat), vs = [.ref a, .int n] ∧ Pool H a ∧ n ≤ 12 ∧
  ∀ (H' : Hp) (p : Addr) (ws : List Str), But a H H' → Pool H' a → H p = none → H' p = some (.lst (ws.map V.str)) → ws.length = n → (∀ z ∈ ws, isNm z) → ws.Nodup → Q (.ref p) H'
section
variable {P : Program} {w : World} {K : PySem.W.Frag} {mg : Str → Option Value} {base : Heap} {f : Addr} {fd : FuncData}
abbrev nWords : List Str := ["_law_pool_here", "_law_many", "_law_own", "_law_begin", "_law_step", "_law_letters", "_law_stem", "_law_cut", "_law_first", "_law_k"]
theorem scWords : FnScope nWords ["_law_pool_here", "_law_many"] (defScope s_law_words) := ⟨rfl, rfl, rfl, by decide +kernel, rfl, by decide +kernel, by decide +kernel⟩
structure Okp (a : Addr) (H H' : Hp) : Prop where
  b : But a H H'
  p : Pool H' a
theorem Pool.sm {H : Hp} {a : Addr} (h : Pool H a) : ∃ o, H a = some o := by
  obtain ⟨s, d, c, h, _⟩ := h
  exact ⟨_, h⟩
theorem Pool.ne {H : Hp} {a p : Addr} (h : Pool H a) (hp : H p = none) : p ≠ a := fun e => by
  obtain ⟨o, ho⟩ := h.sm
  rw [← e, hp] at ho
  cases ho
theorem Pool.up {H : Hp} {a p : Addr} {o : HO} (h : Pool H a) (ne : p ≠ a) : Pool (L2.upd H p o) a := by
  obtain ⟨s, d, c, h, r⟩ := h
  exact ⟨s, d, c, by rw [upd_ne (Ne.symm ne)]; exact h, r⟩
theorem Okp.rf {a : Addr} {H : Hp} (h : Pool H a) : Okp a H H := ⟨But.refl, h⟩
theorem Okp.fre {a p : Addr} {H H1 : Hp} (h : Okp a H H1) (hp : H1 p = none) : H p = none := by
  cases e : H p with
  | none => rfl
  | some o =>
    rw [h.b p o (h.p.ne hp) e] at hp
    cases hp
theorem Okp.nw {a p : Addr} {H H1 : Hp} {o : HO} (h : Okp a H H1) (hp : H1 p = none) : Okp a H (L2.upd H1 p o) := ⟨h.b.new hp, h.p.up (h.p.ne hp)⟩
theorem Okp.mu {a p : Addr} {H H1 : Hp} {o : HO} (h : Okp a H H1) (hp : H p = none) (ne : p ≠ a) : Okp a H (L2.upd H1 p o) := ⟨fun b u hb e => by
  rw [upd_ne (ne_of_none e hp)]
  exact h.b b u hb e, h.p.up ne⟩
theorem Okp.st {a : Addr} {H H1 H2 : Hp} (h : Okp a H H1) (b : But a H1 H2) (p : Pool H2 a) : Okp a H H2 := ⟨h.b.trans b, p⟩
theorem one_sum : ∀ cs : List Nat, ((cs.map fun c => (⟨#[c]⟩ : Str)).map (·.length)).sum = cs.length
  | [] => rfl
  | c :: r => by
    rw [List.map_cons, List.map_cons, List.sum_cons, one_sum r, List.length_cons]
    show 1 + r.length = _
    omega
theorem add_len (x y : Str) : (x ++ y).length = x.length + y.length := by
  have e : (x ++ y).cps.toList = x.cps.toList ++ y.cps.toList := TL.tl_append x y
  rw [len_tl, len_tl, len_tl, e, List.length_append]
theorem steps_at {i : Int} (h0 : 0 ≤ i) (h1 : i < 4) : ∃ s ∈ STEPS, atI [V.int 1, V.int 5, V.int 7, V.int 11] i = some (.int s) := by
  have h : i = 0 ∨ i = 1 ∨ i = 2 ∨ i = 3 := by omega
  rcases h with rfl | rfl | rfl | rfl
  · exact ⟨1, by decide, rfl⟩
  · exact ⟨5, by decide, rfl⟩
  · exact ⟨7, by decide, rfl⟩
  · exact ⟨11, by decide, rfl⟩
theorem steps_sm {s : Int} (h : s ∈ STEPS) : -(2 ^ 64) < s ∧ s < 2 ^ 64 := by
  have h : s = 1 ∨ s = 5 ∨ s = 7 ∨ s = 11 := by simpa [STEPS] using h
  omega
theorem ok_words (F : FnP K "_law_words" s_law_words f fd) (DT : Dk P w K mg base "_law_take" 1 ["_law_pool_here", "_law_many"] spTake) (gR : mg "range" = none) (gL : mg "len" = none) : FnOk P w K mg base CX0 2 f fd ["_law_pool_here", "_law_many"] spWords := by
  refine F.ok scWords (fun vs H Q E h => ?_) (fun cdv A outer s H vs Q E hr h => ?_)
  · obtain ⟨a, n, rfl, _⟩ := h
    rfl
  · obtain ⟨a, n, rfl, hP, hn, k⟩ := h
    refine ⟨_, PSs.nox (pss_cons (ps_set (i := 2) scWords.nd rfl (.inr rfl) (pe_lst (pa_cons pe_str (pa_cons pe_str (pa_cons pe_str (pa_cons pe_str (pa_cons pe_str (pa_cons pe_str (pa_cons pe_str (pa_cons pe_str (pa_cons pe_str (pa_cons pe_str (pa_cons pe_str (pa_cons pe_str pa_nil))))))))))))))
      (pss_cons (ps_asg (pe_tup (pa_cons (pe_cd DT hr rfl (pa_cons (pv 0) (pa_cons pe_int pa_nil))) (pa_cons (pe_ix ix_list (pe_lst (pa_cons pe_int (pa_cons pe_int (pa_cons pe_int (pa_cons pe_int pa_nil))))) (pe_cd DT hr rfl (pa_cons (pv 0) (pa_cons pe_int pa_nil))) (fun _ _ => rfl)) pa_nil)))
          (pg_tup rfl (pgs_cons (pg_name (i := 3) scWords.nd rfl (.inr rfl)) (pgs_cons (pg_name (i := 4) scWords.nd rfl (.inr rfl)) pgs_nil))))
      (pss_cons (ps_if (pt_cmpR op_eq (pe_cd DT hr rfl (pa_cons (pv 0) (pa_cons pe_int pa_nil))) pe_int (nomark _))
        (pss_one (ps_ret (pe_lc (own := [("_law_k", 9)]) (g := gName 9) (tt := tYes) rfl scWords.nd (pi_range1 rfl gR (pa_cons (pv 1) pa_nil)) (blkOk_by (N := nWords) (sc := defScope s_law_words) (by decide +kernel)) (fun _ _ _ _ _ => pg_name (i := 9) scWords.nd rfl (.inl rfl)) (fun _ _ _ _ _ => pts_nil)
          (fun _ _ _ _ _ => pe_ix (r := rIxL K) ix_list (pv 2) (pe_op op_mod (pe_op op_add (pv 3) (pe_op op_mul (pv 4) (pv 9))) pe_int) (fun _ _ => rfl))))) pss_nil)
      (pss_cons (ps_set (i := 5) scWords.nd rfl (.inr rfl) pe_str)
      (pss_cons (ps_set (i := 6) scWords.nd rfl (.inr rfl) (pe_join pe_str (pe_lc (own := [("_law_k", 9)]) (g := gName 9) (tt := tYes) rfl scWords.nd (pi_range1 rfl gR (pa_cons (pe_op op_add pe_int (pe_cd DT hr rfl (pa_cons (pv 0) (pa_cons pe_int pa_nil)))) pa_nil)) (blkOk_by (N := nWords) (sc := defScope s_law_words) (by decide +kernel)) (fun _ _ _ _ _ => pg_name (i := 9) scWords.nd rfl (.inl rfl)) (fun _ _ _ _ _ => pts_nil)
          (fun _ _ _ _ _ => pe_ix ix_str (pv 5) (pe_cd DT hr rfl (pa_cons (pv 0) (pa_cons pe_int pa_nil))) (fun _ _ => rfl)))))
      (pss_cons (ps_asg (pe_tup (pa_cons (pe_cd DT hr rfl (pa_cons (pv 0) (pa_cons (pe_op op_add (pe_callB call_len_str (by rfl) gL PySem.boot_len (pa_cons (pv 6) pa_nil)) pe_int) pa_nil))) (pa_cons (pe_cd DT hr rfl (pa_cons (pv 0) (pa_cons pe_int pa_nil))) pa_nil)))
          (pg_tup rfl (pgs_cons (pg_name (i := 7) scWords.nd rfl (.inr rfl)) (pgs_cons (pg_name (i := 8) scWords.nd rfl (.inr rfl)) pgs_nil))))
      (pss_one (ps_ret (pe_lc (own := [("_law_k", 9)]) (g := gName 9) (tt := tYes) rfl scWords.nd (pi_range1 rfl gR (pa_cons (pv 1) pa_nil)) (blkOk_by (N := nWords) (sc := defScope s_law_words) (by decide +kernel)) (fun _ _ _ _ _ => pg_name (i := 9) scWords.nd rfl (.inl rfl)) (fun _ _ _ _ _ => pts_nil)
          (fun _ _ _ _ _ => pe_op op_add_str (pe_op op_add_str (pe_slice sl_str (pv 6) po_none (po_some (pv 7))) (pe_ix ix_str (pv 5) (pe_op op_mod (pe_op op_add (pv 8) (pe_op op_mul (pv 4) (pv 9))) pe_int) (fun _ _ => rfl))) (pe_slice sl_str (pv 6) (po_some (pv 7)) po_none))))))))))), ?_⟩
    refine ⟨(by show 12 ≤ sizeLine; decide), fun p0 hp0 => ?_⟩
    have o1 : Okp a H (L2.upd H p0 (.lst (OWN.map V.str))) := (Okp.rf hP).nw hp0
    refine ⟨_, rfl, a, 12, rfl, o1.p, by decide, by decide, fun H2 b bt2 hP2 b0 b1 => ?_⟩
    have o2 := o1.st bt2 hP2
    have h2 : H2 p0 = some (.lst (OWN.map V.str)) := bt2 p0 _ (hP.ne hp0) upd_same
    refine ⟨(by show 4 ≤ sizeLine; decide), fun p1 hp1 => ⟨_, rfl, a, 4, rfl, (o2.nw hp1).p, by decide, by decide, fun H3 i bt3 hP3 i0 i1 => ?_⟩⟩
    have o3 := (o2.nw hp1).st bt3 hP3
    have h3 : H3 p0 = some (.lst (OWN.map V.str)) := bt3 p0 _ (hP.ne hp0) (by rw [upd_ne (ne_of_none h2 hp1)]; exact h2)
    obtain ⟨st, hst, est⟩ := steps_at i0 i1
    refine ⟨p1, _, i, _, rfl, rfl, SqL.of (bt3 p1 _ (hP2.ne hp1) upd_same), est, (by show 2 ≤ sizeLine; decide), fun p2 hp2 => ?_⟩
    have o4 : Okp a H (L2.upd H3 p2 (.tup [.int b, .int st])) := o3.nw hp2
    have h4 : (L2.upd H3 p2 (.tup [.int b, .int st])) p0 = some (.lst (OWN.map V.str)) := by rw [upd_ne (ne_of_none h3 hp2)]; exact h3
    refine ⟨p2, _, rfl, SqT.of upd_same, rfl, _, _, rfl, _, _, rfl, rfl, ?_⟩
    refine ⟨_, rfl, a, 4, rfl, o4.p, by decide, by decide, fun H5 d bt5 hP5 d0 d1 => ⟨rfl, _, rfl, ?_⟩⟩
    have o5 := o4.st bt5 hP5
    have h5 : H5 p0 = some (.lst (OWN.map V.str)) := bt5 p0 _ (hP.ne hp0) h4
    clear bt5 hP5 h4 o4 h3 o3 bt3 hP3 o2 h2 bt2 hP2 hp1 hp2 o1
    refine ite2 (fun _ => ?_) (fun _ => ?_)
    · refine ⟨_, rfl, (n : Int), rfl, by omega, by omega, fun D hD => lc_range (lo := 0) (n := (n : Int).toNat) (fun j H' => Okp a H H' ∧ H' p0 = some (.lst (OWN.map V.str)) ∧ H' D = some (.lst ((ownWords b st j).map V.str))) ⟨o5.nw hD, by rw [upd_ne (ne_of_none h5 hD)]; exact h5, upd_same⟩ ?_ ?_⟩
      · rintro j H' hj ⟨oj, h0, hDj⟩
        refine ⟨rfl, ?_⟩
        refine ⟨_, rfl, _, rfl, _, rfl, _, rfl, _, _, rfl, rfl, .inl (steps_sm hst), _, _, rfl, rfl, _, _, rfl, rfl, (by show (0 : Int) < 12; decide), p0, _, _, _, rfl, rfl, SqL.of h0, (by rw [Int.zero_add]; exact own_atI b st j), _, hDj, ?_, oj.mu (o5.fre hD) (o5.p.ne hD), ?_, ?_⟩
        · rw [List.length_map, ownWords, List.length_map, List.length_range]
          exact Nat.lt_of_lt_of_le hj (Nat.le_trans (by simpa using hn) (by decide : 12 ≤ sizeLine))
        · rw [upd_ne (ne_of_none h5 hD)]
          exact h0
        · rw [upd_same, ownWords, ownWords, List.range_succ, List.map_append, List.map_append]
          rfl
      · rintro H' ⟨oj, h0, hDj⟩
        rw [Int.toNat_natCast] at hDj
        obtain ⟨g1, g2⟩ := own_good (b := b) hst hn
        exact k H' D _ oj.b oj.p (o5.fre hD) hDj (by rw [ownWords, List.length_map, List.length_range]) g1 g2
    · refine ⟨⟨_, rfl⟩, _, rfl, a, 4, rfl, o5.p, by decide, by decide, fun H6 m bt6 hP6 m0 m1 => ⟨_, _, rfl, rfl, 4 + m, rfl, by omega, by omega, fun D hD => ?_⟩⟩
      have o6 := o5.st bt6 hP6
      have nD : D ≠ a := o6.p.ne hD
      have fD : H D = none := o6.fre hD
      refine lc_range (lo := 0) (n := (4 + m).toNat) (fun j H' => Okp a H H' ∧ ∃ cs : List Nat, cs.length = j ∧ (∀ c ∈ cs, 97 ≤ c ∧ c ≤ 122) ∧ H' D = some (.lst (cs.map fun c => V.str ⟨#[c]⟩))) ⟨o6.nw hD, [], rfl, by simp, upd_same⟩ ?_ ?_
      · rintro j H' hj ⟨oj, cs, lc, hc, hDj⟩
        refine ⟨rfl, ?_⟩
        refine ⟨_, rfl, _, rfl, a, 26, rfl, oj.p, by decide, by decide, fun H7 d bt7 hP7 d0 d1 => ⟨ABC, d, _, rfl, rfl, (by rw [abc_len]; decide), abc_atI d0 d1, _, bt7 D _ nD hDj, ?_, (oj.st bt7 hP7).mu fD nD, cs ++ [97 + d.toNat], ?_, ?_, ?_⟩⟩
        · rw [List.length_map, lc]
          exact Nat.lt_of_lt_of_le hj (Nat.le_trans (by omega : (4 + m).toNat ≤ 8) (by decide : 8 ≤ sizeLine))
        · rw [List.length_append, lc]
          rfl
        · intro c hcm
          rcases List.mem_append.mp hcm with h | h
          · exact hc c h
          · have e : c = 97 + d.toNat := List.mem_singleton.mp h
            omega
        · rw [upd_same, List.map_append]
          rfl
      · rintro H8 ⟨o8, cs, lc, hc, hD8⟩
        have l8 : cs.length = (4 + m).toNat := lc
        obtain ⟨stem, hstem⟩ : ∃ z, z = Txt.join "" (cs.map fun c => (⟨#[c]⟩ : Str)) := ⟨_, rfl⟩
        have tstem : stem.cps.toList = cs := by rw [hstem]; exact join_letters cs
        have lstem : stem.length = (4 + m).toNat := by rw [len_tl, tstem, l8]
        refine ⟨"", D, cs.map fun c => (⟨#[c]⟩ : Str), rfl, rfl, .inl (SqL.of (by rw [List.map_map]; exact hD8)), ?_, ?_⟩
        · rw [one_sum, List.length_map, l8]
          have e : ("" : Str).length = 0 := by decide +kernel
          rw [e]
          omega
        rw [← hstem]
        refine ⟨_, rfl, _, rfl, stem, rfl, Nat.le_trans (by omega : stem.length ≤ 8) (by decide), _, _, rfl, rfl, a, _, rfl, o8.p, by omega, by omega, fun H9 c bt9 hP9 c0 c1 => ?_⟩
        have o9 := o8.st bt9 hP9
        refine ⟨_, rfl, a, 26, rfl, o9.p, by decide, by decide, fun H10 ft bt10 hP10 f0 f1 => ?_⟩
        have o10 := o9.st bt10 hP10
        refine ⟨(by show 2 ≤ sizeLine; decide), fun p3 hp3 => ?_⟩
        have o11 : Okp a H (L2.upd H10 p3 (.tup [.int c, .int ft])) := o10.nw hp3
        refine ⟨p3, _, rfl, SqT.of upd_same, rfl, _, _, rfl, _, _, rfl, rfl, ?_⟩
        obtain ⟨cn, rfl⟩ : ∃ cn : Nat, c = cn := ⟨c.toNat, by omega⟩
        have hcn : cn ≤ stem.length := by omega
        refine ⟨_, rfl, (n : Int), rfl, by omega, by omega, fun D2 hD2 => lc_range (lo := 0) (n := (n : Int).toNat) (fun j H' => Okp a H H' ∧ H' D2 = some (.lst ((madeWords stem cn ft st j).map V.str))) ⟨o11.nw hD2, upd_same⟩ ?_ ?_⟩
        · rintro j H' hj ⟨oj, hDj⟩
          have z1 : stem.length ≤ sizeLine := Nat.le_trans (by omega : stem.length ≤ 8) (by decide)
          have m0' : 0 ≤ (ft + st * (j : Int)) % 26 := Int.emod_nonneg _ (by decide)
          have m1' : (ft + st * (j : Int)) % 26 < 26 := Int.emod_lt_of_pos _ (by decide)
          have l1 : (cutS stem none (some (cn : Int))).length ≤ 8 := Nat.le_trans (cutS_length _ _ _) (by omega)
          have l2 : (cutS stem (some (cn : Int)) none).length ≤ 8 := Nat.le_trans (cutS_length _ _ _) (by omega)
          have l3 : ∀ x : Nat, (⟨#[x]⟩ : Str).length = 1 := fun _ => rfl
          refine ⟨rfl, ?_⟩
          refine ⟨_, rfl, _, rfl, _, rfl, stem, rfl, z1, _, rfl, _, rfl, _, rfl, _, rfl, _, _, rfl, rfl, .inl (steps_sm hst), _, _, rfl, rfl, _, _, rfl, rfl, (by show (0 : Int) < 26; decide), ABC, _, _, rfl, rfl, (by rw [abc_len]; decide), (by rw [Int.zero_add]; exact abc_atI m0' m1'), _, _, rfl, rfl, Nat.le_trans (by rw [l3]; omega) (by decide : 9 ≤ sizeLine), _, rfl, _, rfl, _, rfl, stem, rfl, z1, _, _, rfl, rfl, Nat.le_trans (by rw [add_len, l3]; omega) (by decide : 17 ≤ sizeLine), _, hDj, ?_, oj.mu (o11.fre hD2) (o11.p.ne hD2), ?_⟩
          · rw [List.length_map, madeWords, List.length_map, List.length_range]
            exact Nat.lt_of_lt_of_le hj (Nat.le_trans (by simpa using hn) (by decide : 12 ≤ sizeLine))
          · rw [upd_same, madeWords, madeWords, List.range_succ, List.map_append, List.map_append]
            rfl
        · rintro H' ⟨oj, hDj⟩
          rw [Int.toNat_natCast] at hDj
          obtain ⟨g1, g2⟩ := made_good (t := stem) (c := cn) (f := ft) hcn (by omega) (by omega) (by rw [tstem]; exact hc) hst hn
          exact k H' D2 _ oj.b oj.p (o11.fre hD2) hDj (by rw [madeWords, List.length_map, List.length_range]) g1 g2
end
end Hr

/-! text M2 -/
set_option Elab.async false
set_option linter.all false
set_option maxRecDepth 100000
set_option maxHeartbeats 4000000
namespace Hr
open PySem L2
abbrev TV : Type := Str × List Str
def ltS (a b : Str) : Prop := a.cps.toList < b.cps.toList
theorem lex_tri : ∀ a b : List Nat, a < b ∨ a = b ∨ b < a
  | [], [] => .inr (.inl rfl)
  | [], _ :: _ => .inl (List.nil_lt_cons ..)
  | _ :: _, [] => .inr (.inr (List.nil_lt_cons ..))
  | x :: a, y :: b => by
    rcases Nat.lt_trichotomy x y with h | h | h
    · exact .inl (List.cons_lt_cons_iff.mpr (.inl h))
    · subst h
      rcases lex_tri a b with h | h | h
      · exact .inl (List.cons_lt_cons_iff.mpr (.inr ⟨rfl, h⟩))
      · subst h
        exact .inr (.inl rfl)
      · exact .inr (.inr (List.cons_lt_cons_iff.mpr (.inr ⟨rfl, h⟩)))
    · exact .inr (.inr (List.cons_lt_cons_iff.mpr (.inl h)))
theorem lex_trans : ∀ {a b c : List Nat}, a < b → b < c → a < c
  | _, _, [], _, h => absurd h (List.not_lt_nil _)
  | _, [], _ :: _, h, _ => absurd h (List.not_lt_nil _)
  | [], _ :: _, _ :: _, _, _ => List.nil_lt_cons ..
  | x :: a, y :: b, z :: c, h, k => by
    rcases List.cons_lt_cons_iff.mp h with h | ⟨h, h'⟩ <;> rcases List.cons_lt_cons_iff.mp k with k | ⟨k, k'⟩
    · exact List.cons_lt_cons_iff.mpr (.inl (Nat.lt_trans h k))
    · exact List.cons_lt_cons_iff.mpr (.inl (k ▸ h))
    · exact List.cons_lt_cons_iff.mpr (.inl (h ▸ k))
    · exact List.cons_lt_cons_iff.mpr (.inr ⟨h.trans k, lex_trans h' k'⟩)
theorem lex_irrefl : ∀ a : List Nat, ¬ a < a
  | [], h => absurd h (List.not_lt_nil _)
  | x :: a, h => by
    rcases List.cons_lt_cons_iff.mp h with h | ⟨_, h⟩
    · exact absurd h (Nat.lt_irrefl _)
    · exact lex_irrefl a h
theorem str_ext {a b : Str} (h : a.cps.toList = b.cps.toList) : a = b := by
  cases a
  cases b
  congr 1
  exact Array.toList_inj.mp h
theorem rising_pw : ∀ (l : List Str) (p : Str), PyProof.Rows.risingS p l = true → (p :: l).Nodup → (p :: l).Pairwise ltS
  | [], p, _, _ => List.pairwise_singleton ..
  | x :: r, p, h, n => by
    obtain ⟨h1, h2⟩ := Bool.and_eq_true_iff.mp (show (!Spec.ltCps x.cps.toList p.cps.toList && PyProof.Rows.risingS x r) = true from h)
    have n' := List.nodup_cons.mp n
    have ih := rising_pw r x h2 n'.2
    have hpx : ltS p x := by
      rw [PyProof.Rows.ltCps_eq] at h1
      have h1 : ¬ x.cps.toList < p.cps.toList := by simpa using h1
      rcases lex_tri p.cps.toList x.cps.toList with h | h | h
      · exact h
      · exact absurd (List.mem_cons_self) (str_ext h ▸ n'.1)
      · exact absurd h h1
    refine List.pairwise_cons.mpr ⟨fun y hy => ?_, ih⟩
    rcases List.mem_cons.mp hy with rfl | hy
    · exact hpx
    · exact lex_trans hpx (List.rel_of_pairwise_cons ih hy)
theorem sorted_pw {l : List Str} (h : PyProof.Rows.sortedS l = true) (n : l.Nodup) : l.Pairwise ltS := by
  cases l with
  | nil => exact List.Pairwise.nil
  | cons x r => exact rising_pw r x h n
/-! things -/
def GoodT (t : TV) : Prop := isNm t.1 ∧ (∀ z ∈ t.2, isNm z) ∧ t.2.Nodup ∧ 2 ≤ t.2.length ∧ t.2.length ≤ 4
def nms (ts : List TV) : List Str := ts.map (·.1)
def waysN (ts : List TV) : Nat := (ts.map fun t => t.2.length).foldl (· * ·) 1
structure GoodH (o i : List TV) (h : Int) : Prop where
  o3 : o.length ≤ 3
  i1 : 1 ≤ i.length
  i4 : i.length ≤ 4
  og : ∀ t ∈ o, GoodT t
  ig : ∀ t ∈ i, GoodT t
  orr : (nms o).Pairwise ltS
  ir : (nms i).Pairwise ltS
  ow : waysN o ≤ 12
  h1 : 1 ≤ h
  h6 : h ≤ 6
  dj : ∀ z ∈ nms o, z ∉ nms i
theorem cut_to (l : List Str) (n : Nat) : cutV (l.map V.str) none (some (n : Int)) = (l.take n).map V.str := by
  unfold cutV
  rw [HT.sIx_none, HT.sIx_nat, List.drop_zero, Nat.sub_zero, List.length_map, List.map_take]
  rcases Nat.le_total n l.length with h | h
  · rw [Nat.min_eq_left h]
  · rw [Nat.min_eq_right h, List.take_of_length_le (by simp), List.take_of_length_le (by simpa using h)]
theorem cut_from (l : List Str) (n : Nat) : cutV (l.map V.str) (some (n : Int)) none = (l.drop n).map V.str := by
  unfold cutV
  rw [HT.sIx_none, HT.sIx_nat, List.length_map, List.map_drop]
  rcases Nat.le_total n l.length with h | h
  · rw [Nat.min_eq_left h, List.take_of_length_le (by simp)]
  · rw [Nat.min_eq_right h, List.drop_of_length_le (by simp), List.drop_of_length_le (by simpa using h), List.take_nil]
theorem cut_mid (l : List Str) (m n : Nat) (hmn : m ≤ n) : cutV (l.map V.str) (some (m : Int)) (some (n : Int)) = ((l.drop m).take (n - m)).map V.str := by
  unfold cutV
  rw [HT.sIx_nat, HT.sIx_nat, List.length_map, List.map_take, List.map_drop]
  rcases Nat.le_total m l.length with h | h
  · rw [Nat.min_eq_left h]
    rcases Nat.le_total n l.length with h' | h'
    · rw [Nat.min_eq_left h']
    · rw [Nat.min_eq_right h', List.take_of_length_le (by simp), List.take_of_length_le (by simp; omega)]
  · rw [Nat.min_eq_right h, List.drop_of_length_le (by simp), List.drop_of_length_le (by simpa using h), List.take_nil, List.take_nil]
/-- a piece of good values -/
theorem piece_good {x : Str} {vl : List Str} {a b : Nat} (hx : isNm x) (hv : ∀ z ∈ vl, isNm z) (nd : vl.Nodup) (h2 : 2 ≤ b) (h4 : b ≤ 4) (hl : a + b ≤ vl.length) : GoodT (x, (vl.drop a).take b) := by
  have sub : List.Sublist ((vl.drop a).take b) vl := (List.take_sublist ..).trans (List.drop_sublist ..)
  have ln : ((vl.drop a).take b).length = b := by rw [List.length_take, List.length_drop]; omega
  exact ⟨hx, fun z hz => hv z (sub.subset hz), sub.nodup nd, by rw [ln]; exact h2, by rw [ln]; exact h4⟩
theorem str_at {ns : List Str} {k : Nat} (h : k < ns.length) : atI (ns.map V.str) (k : Int) = some (.str ns[k]) := atI_nat (by rw [List.getElem?_map, List.getElem?_eq_getElem h]; rfl)
theorem ways_le {ts : List TV} {m : Nat} (h : ∀ t ∈ ts, t.2.length ≤ m) : waysN ts ≤ m ^ ts.length := by
  have key : ∀ (l : List TV) (b : Nat), (∀ t ∈ l, t.2.length ≤ m) → (l.map fun t => t.2.length).foldl (· * ·) b ≤ b * m ^ l.length := by
    intro l
    induction l with
    | nil => intro b _; simp
    | cons t r ih =>
      intro b h
      rw [List.map_cons, List.foldl_cons]
      refine Nat.le_trans (ih _ fun t ht => h t (List.mem_cons_of_mem _ ht)) ?_
      rw [List.length_cons, Nat.pow_succ, Nat.mul_comm (m ^ r.length) m, ← Nat.mul_assoc]
      exact Nat.mul_le_mul_right _ (Nat.mul_le_mul_left _ (h t List.mem_cons_self))
  have := key ts 1 h
  rw [Nat.one_mul] at this
  exact this
end Hr

/-! text A4 -/
set_option Elab.async false
set_option linter.all false
set_option maxRecDepth 100000
set_option maxHeartbeats 4000000
namespace Hr
open PySem L2
/-- tuples stay -/
def TK (H H' : Hp) : Prop := ∀ p xs, H p = some (.tup xs) → H' p = some (.tup xs)
theorem TK.rf {H : Hp} : TK H H := fun _ _ h => h
theorem TK.tr {H H1 H2 : Hp} (a : TK H H1) (b : TK H1 H2) : TK H H2 := fun p xs h => b p xs (a p xs h)
theorem TK.sm {H H1 : Hp} (a : Same H H1) : TK H H1 := fun p xs h => a p _ h
theorem TK.nw {H : Hp} {p : Addr} {o : HO} (h : H p = none) : TK H (L2.upd H p o) := fun q xs e => by
  rw [upd_ne (ne_of_none e h)]
  exact e
theorem TK.ls {H : Hp} {p : Addr} {xs : List V} {o : HO} (h : H p = some (.lst xs)) : TK H (L2.upd H p o) := fun q ys e => by
  rw [upd_ne (ne_of e h (by intro z; cases z))]
  exact e
theorem TK.bt {a : Addr} {H H1 : Hp} (b : But a H H1) (p : Pool H a) : TK H H1 := fun q ys e => by
  obtain ⟨s, d, c, h, _⟩ := p
  exact b q _ (ne_of e h (by intro z; cases z)) e
def Thing (H : Hp) (v : V) (t : TV) : Prop := ∃ p q, v = .ref p ∧ H p = some (.tup [.str t.1, .ref q]) ∧ H q = some (.tup (t.2.map V.str))
theorem Thing.tk {H H1 : Hp} {v : V} {t : TV} (k : TK H H1) (h : Thing H v t) : Thing H1 v t := by
  obtain ⟨p, q, e, h1, h2⟩ := h
  exact ⟨p, q, e, k _ _ h1, k _ _ h2⟩
theorem paired_imp {α β : Type} {F G : α → β → Prop} (i : ∀ a b, F a b → G a b) : ∀ {l : List α} {m : List β}, Paired F l m → Paired G l m
  | _, _, .nil => .nil
  | _, _, .cons h t => .cons (i _ _ h) (paired_imp i t)
theorem things_tk {H H1 : Hp} {vs : List V} {ts : List TV} (k : TK H H1) (h : Paired (Thing H) vs ts) : Paired (Thing H1) vs ts := paired_imp (fun _ _ => Thing.tk k) h
def Things (H : Hp) (p : Addr) (ts : List TV) : Prop := ∃ vs, H p = some (.tup vs) ∧ Paired (Thing H) vs ts
theorem Things.tk {H H1 : Hp} {p : Addr} {ts : List TV} (k : TK H H1) (h : Things H p ts) : Things H1 p ts := by
  obtain ⟨vs, h1, h2⟩ := h
  exact ⟨vs, k _ _ h1, things_tk k h2⟩
/-- the house as a tuple of the law's -/
def HouseT (H : Hp) (p : Addr) (o i : List TV) (h : Int) : Prop := ∃ po pi, H p = some (.tup [.ref po, .ref pi, .int h]) ∧ Things H po o ∧ Things H pi i
theorem HouseT.tk {H H1 : Hp} {p : Addr} {o i : List TV} {h : Int} (k : TK H H1) (z : HouseT H p o i h) : HouseT H1 p o i h := by
  obtain ⟨po, pi, h1, h2, h3⟩ := z
  exact ⟨po, pi, k _ _ h1, h2.tk k, h3.tk k⟩
theorem uk {H : Hp} {p q : Addr} {o u : HO} (h : H q = some o) (hp : H p = none) : (L2.upd H p u) q = some o := by
  rw [upd_ne (ne_of_none h hp)]
  exact h
theorem um {H : Hp} {p q : Addr} {o u : HO} (h : H q = some o) (ne : q ≠ p) : (L2.upd H p u) q = some o := by
  rw [upd_ne ne]
  exact h
theorem take_one {α : Type} {l : List α} {j : Nat} (h : j < l.length) : l.take (j + 1) = l.take j ++ [l[j]] := by
  rw [List.take_add_one, List.getElem?_eq_getElem h]
  rfl
theorem sz4 {n m : Nat} (h : n ≤ m) (hm : m ≤ 100000) : n < sizeLine := Nat.lt_of_le_of_lt (Nat.le_trans h hm) (by decide)
def spHouse : Sp := fun vs H Q _ => ∃ (a : Addr), vs = [.ref a, .int 6] ∧ Pool H a ∧
  ∀ (H' : Hp) (p : Addr) (o i : List TV) (h : Int), But a H H' → Pool H' a → HouseT H' p o i h → GoodH o i h → Q (.ref p) H'
section
variable {P : Program} {w : World} {K : PySem.W.Frag} {mg : Str → Option Value} {base : Heap} {f : Addr} {fd : FuncData}
abbrev nHouse : List Str := ["_law_pool_here", "_law_often", "_law_names", "_law_values", "_law_outer", "_law_inner", "_law_k", "_law_some"]
theorem scHouse : FnScope nHouse ["_law_pool_here", "_law_often"] (defScope s_law_house) := ⟨rfl, rfl, rfl, by decide +kernel, rfl, by decide +kernel, by decide +kernel⟩
theorem ok_house (F : FnP K "_law_house" s_law_house f fd) (DT : Dk P w K mg base "_law_take" 1 ["_law_pool_here", "_law_many"] spTake) (DW : Dk P w K mg base "_law_words" 2 ["_law_pool_here", "_law_many"] spWords)
    (gR : mg "range" = none) (gS : mg "sorted" = none) (gT : mg "tuple" = none) : FnOk P w K mg base CX0 3 f fd ["_law_pool_here", "_law_often"] spHouse := by
  refine F.ok scHouse (fun vs H Q E h => ?_) (fun cdv A outer s H vs Q E hr h => ?_)
  · obtain ⟨a, rfl, _⟩ := h
    rfl
  · obtain ⟨a, rfl, hP, k⟩ := h
    have hr1 : Room 1 _ := hr.mono (by decide)
    refine ⟨_, PSs.nox (pss_cons (ps_set (i := 2) scHouse.nd rfl (.inl rfl) (pe_callB cr_sortedS (by rfl) gS (by decide +kernel) (pa_cons (pe_cd DW hr rfl (pa_cons (pv 0) (pa_cons pe_int pa_nil))) pa_nil)))
      (pss_cons (ps_set (i := 3) scHouse.nd rfl (.inl rfl) (pe_cd DW hr rfl (pa_cons (pv 0) (pa_cons pe_int pa_nil))))
      (pss_cons (ps_par (i := 4) (j := 5) rfl scHouse.nd rfl rfl (by decide) rfl rfl (pa_cons (pe_lst pa_nil) (pa_cons (pe_lst pa_nil) pa_nil)) (by rfl))
      (pss_cons (ps_for PassesOwn.never rfl (pi_range1 rfl gR (pa_cons (pe_cd DT hr1 rfl (pa_cons (pv 0) (pa_cons pe_int pa_nil))) pa_nil)) (pg_name (i := 6) scHouse.nd rfl (.inl rfl))
        (pss_one (ps_expr (pe_bm PySem.F.plainAttrs_list PySem.F.slot_list_append PySem.F.type_list_append mt_append (pv 4) (pa_cons (pe_tup (pa_cons (pe_ix ix_list (pv 2) (pv 6) (fun _ _ => rfl)) (pa_cons (pe_callTy call_tuple_of (by rfl) gT (by decide +kernel) (pa_cons (pe_slice sl_list (pv 3) po_none (po_some (pe_op op_add pe_int (pe_cd DT hr1 rfl (pa_cons (pv 0) (pa_cons pe_int pa_nil)))))) pa_nil)) pa_nil))) pa_nil)))))
      (pss_cons (ps_for PassesOwn.never rfl (pi_range1 rfl gR (pa_cons (pe_op op_add pe_int (pe_cd DT hr1 rfl (pa_cons (pv 0) (pa_cons pe_int pa_nil)))) pa_nil)) (pg_name (i := 6) scHouse.nd rfl (.inl rfl))
        (pss_cons (ps_set (i := 7) scHouse.nd rfl (.inl rfl) (pe_slice sl_list (pv 3) (po_some (pe_cd DT hr1 rfl (pa_cons (pv 0) (pa_cons pe_int pa_nil)))) po_none))
        (pss_one (ps_expr (pe_bm PySem.F.plainAttrs_list PySem.F.slot_list_append PySem.F.type_list_append mt_append (pv 5) (pa_cons (pe_tup (pa_cons (pe_ix ix_list (pv 2) (pe_op op_add pe_int (pv 6)) (fun _ _ => rfl)) (pa_cons (pe_callTy call_tuple_of (by rfl) gT (by decide +kernel) (pa_cons (pe_slice sl_list (pv 7) po_none (po_some (pe_op op_add pe_int (pe_cd DT hr1 rfl (pa_cons (pv 0) (pa_cons pe_int pa_nil)))))) pa_nil)) pa_nil))) pa_nil))))))
      (pss_one (ps_ret (pe_tup (pa_cons (pe_callTy call_tuple_of (by rfl) gT (by decide +kernel) (pa_cons (pv 4) pa_nil)) (pa_cons (pe_callTy call_tuple_of (by rfl) gT (by decide +kernel) (pa_cons (pv 5) pa_nil)) (pa_cons (pe_op op_add pe_int (pe_cd DT hr1 rfl (pa_cons (pv 0) (pa_cons (pv 1) pa_nil)))) pa_nil))))))))))), ?_⟩
    refine ⟨_, rfl, a, 7, rfl, hP, by decide, fun H1 p1 ws bt1 hP1 fr1 h1 lw gw nw => ⟨p1, ws, rfl, SqL.of h1, by omega, fun ns p2 perm srt hp2 => ?_⟩⟩
    have ln : ns.length = 7 := perm.length_eq.trans lw
    have gn : ∀ z ∈ ns, isNm z := fun z hz => gw z (perm.subset hz)
    have nn : ns.Nodup := perm.symm.nodup nw
    have pw := sorted_pw srt nn
    have o2 : Okp a H (L2.upd H1 p2 (.lst (ns.map V.str))) := (Okp.st (Okp.rf hP) bt1 hP1).nw hp2
    have n2 : p2 ≠ a := hP1.ne hp2
    refine ⟨_, rfl, a, 4, rfl, o2.p, by decide, fun H3 p3 vl bt3 hP3 fr3 h3 lv gv nv => ?_⟩
    have o3 := o2.st bt3 hP3
    have h32 : H3 p2 = some (.lst (ns.map V.str)) := bt3 p2 _ n2 upd_same
    have n3 : p3 ≠ a := o2.p.ne fr3
    refine ⟨Nat.zero_le _, fun p4 hp4 => ⟨Nat.zero_le _, fun p5 hp5 => ⟨_, _, rfl, ?_⟩⟩⟩
    have o5 : Okp a H (L2.upd (L2.upd H3 p4 (.lst [])) p5 (.lst [])) := (o3.nw hp4).nw hp5
    have h52 := uk (u := .lst []) (uk (u := .lst []) h32 hp4) hp5
    have h53 := uk (u := .lst []) (uk (u := .lst []) h3 hp4) hp5
    have h54 : (L2.upd (L2.upd H3 p4 (.lst [])) p5 (.lst [])) p4 = some (.lst []) := uk upd_same hp5
    have n24 : p2 ≠ p4 := ne_of_none h32 hp4
    have n34 : p3 ≠ p4 := ne_of_none h3 hp4
    have n54 : p5 ≠ p4 := Ne.symm (ne_of_none upd_same hp5)
    have n25 : p2 ≠ p5 := ne_of_none (uk (u := .lst []) h32 hp4) hp5
    have n35 : p3 ≠ p5 := ne_of_none (uk (u := .lst []) h3 hp4) hp5
    have n4 : p4 ≠ a := hP3.ne hp4
    have n5 : p5 ≠ a := (o3.nw (o := .lst []) hp4).p.ne hp5
    have f4 : H p4 = none := o3.fre hp4
    have f5 : H p5 = none := (o3.nw (o := .lst []) hp4).fre hp5
    have h55 : (L2.upd (L2.upd H3 p4 (.lst [])) p5 (.lst [])) p5 = some (.lst []) := upd_same
    generalize (L2.upd (L2.upd H3 p4 (.lst [])) p5 (.lst [])) = H5 at o5 h52 h53 h54 h55 ⊢
    clear hp5 hp4 h32 h3 fr3 o3 bt3 hP3 hp2 bt1 hP1 o2 h1 fr1
    refine ⟨_, rfl, a, 3, rfl, o5.p, by decide, by decide, fun H6 m bt6 hP6 m0 m1 => ⟨m, rfl, by omega, by omega, for_range (lo := 0) (n := m.toNat)
      (fun j σ H' => ∃ (v : Option V) (vs : List V) (ts : List TV), σ = [some (.ref a), some (.int 6), some (.ref p2), some (.ref p3), some (.ref p4), some (.ref p5), v, none] ∧ Okp a H H' ∧ H' p2 = some (.lst (ns.map V.str)) ∧ H' p3 = some (.lst (vl.map V.str)) ∧
        H' p4 = some (.lst vs) ∧ H' p5 = some (.lst []) ∧ Paired (Thing H') vs ts ∧ nms ts = ns.take j ∧ ∀ t ∈ ts, GoodT t ∧ t.2.length ≤ 3)
      ⟨none, [], [], rfl, o5.st bt6 hP6, bt6 _ _ n2 h52, bt6 _ _ n3 h53, bt6 _ _ n4 h54, bt6 _ _ n5 h55, .nil, rfl, by simp⟩ ?_ ?_⟩⟩
    · rintro j σ H' hj ⟨v, vs, ts, rfl, oj, hj2, hj3, hj4, hj5, pj, nj, gj⟩
      have hj7 : j < ns.length := by omega
      have lvs : vs.length = j := by
        rw [pj.length]
        have e := congrArg List.length nj
        rw [nms, List.length_map, List.length_take] at e
        omega
      refine ⟨_, rfl, .inl ⟨rfl, _, SqL.of hj4⟩, _, rfl, _, rfl, p2, _, _, _, rfl, rfl, SqL.of hj2, (by rw [Int.zero_add]; exact str_at hj7), _, rfl, _, rfl, a, 2, rfl, oj.p, by decide, by decide, fun H7 d bt7 hP7 d0 d1 => ?_⟩
      obtain ⟨dn, rfl⟩ : ∃ dn : Nat, d = dn := ⟨d.toNat, by omega⟩
      have o7 := oj.st bt7 hP7
      refine ⟨_, _, rfl, rfl, ((2 + dn : Nat) : Int), congrArg V.int (by omega), p3, _, rfl, SqL.of (bt7 _ _ n3 hj3), fun q1 hq1 => ?_⟩
      rw [cut_to]
      refine ⟨q1, _, rfl, .inl ⟨SqL.of upd_same, fun q2 hq2 => ?_⟩⟩
      refine ⟨(by show 2 ≤ sizeLine; decide), fun q3 hq3 => ?_⟩
      have k2 := uk (u := .tup [.str ns[j], .ref q2]) (uk (u := .tup ((vl.take (2 + dn)).map V.str)) (uk (u := .lst ((vl.take (2 + dn)).map V.str)) (bt7 _ _ n2 hj2) hq1) hq2) hq3
      have k3 := uk (u := .tup [.str ns[j], .ref q2]) (uk (u := .tup ((vl.take (2 + dn)).map V.str)) (uk (u := .lst ((vl.take (2 + dn)).map V.str)) (bt7 _ _ n3 hj3) hq1) hq2) hq3
      have k4 := uk (u := .tup [.str ns[j], .ref q2]) (uk (u := .tup ((vl.take (2 + dn)).map V.str)) (uk (u := .lst ((vl.take (2 + dn)).map V.str)) (bt7 _ _ n4 hj4) hq1) hq2) hq3
      have k5 := uk (u := .tup [.str ns[j], .ref q2]) (uk (u := .tup ((vl.take (2 + dn)).map V.str)) (uk (u := .lst ((vl.take (2 + dn)).map V.str)) (bt7 _ _ n5 hj5) hq1) hq2) hq3
      have tk : TK H' _ := (((TK.bt bt7 oj.p).tr (TK.nw (o := .lst ((vl.take (2 + dn)).map V.str)) hq1)).tr (TK.nw (o := .tup ((vl.take (2 + dn)).map V.str)) hq2)).tr (TK.nw (o := .tup [.str ns[j], .ref q2]) hq3)
      have kq2 := uk (u := .tup [.str ns[j], .ref q2]) (upd_same (H := L2.upd H7 q1 (.lst ((vl.take (2 + dn)).map V.str))) (a := q2) (o := .tup ((vl.take (2 + dn)).map V.str))) hq3
      refine ⟨p4, vs, _, rfl, rfl, k4, sz4 (by omega : vs.length ≤ 7) (by decide), ?_⟩
      have tk' := tk.tr (TK.ls (o := .lst (vs ++ [.ref q3])) k4)
      refine ⟨_, vs ++ [.ref q3], ts ++ [(ns[j], vl.take (2 + dn))], rfl, (((o7.nw hq1).nw hq2).nw hq3).mu f4 n4, um k2 n24, um k3 n34, upd_same, um k5 n54, ?_, ?_, ?_⟩
      · exact (things_tk tk' pj).snoc ⟨q3, q2, rfl, TK.ls k4 _ _ upd_same, TK.ls k4 _ _ kq2⟩
      · rw [nms, List.map_append, take_one hj7, ← nj]
        rfl
      · intro t ht
        rcases List.mem_append.mp ht with h | h
        · exact gj t h
        · have e := List.mem_singleton.mp h
          subst e
          refine ⟨?_, ?_⟩
          · have := piece_good (x := ns[j]) (vl := vl) (a := 0) (b := 2 + dn) (gn _ (List.getElem_mem hj7)) gv nv (by omega) (by omega) (by omega)
            rw [List.drop_zero] at this
            exact this
          · show (vl.take (2 + dn)).length ≤ 3
            rw [List.length_take]
            omega
    · rintro σ H' ⟨v, vs, ts, rfl, oj, hj2, hj3, hj4, hj5, pj, nj, gj⟩
      have lts : ts.length ≤ 2 := by
        have e := congrArg List.length nj
        rw [nms, List.length_map, List.length_take] at e
        omega
      refine ⟨_, rfl, a, 3, rfl, oj.p, by decide, by decide, fun H8 m2 bt8 hP8 m20 m21 => ⟨_, _, rfl, rfl, 1 + m2, rfl, by omega, by omega, for_range (lo := 0) (n := (1 + m2).toNat)
        (fun i σ H'' => ∃ (v u : Option V) (ws : List V) (us : List TV), σ = [some (.ref a), some (.int 6), some (.ref p2), some (.ref p3), some (.ref p4), some (.ref p5), v, u] ∧ Okp a H H'' ∧ H'' p2 = some (.lst (ns.map V.str)) ∧ H'' p3 = some (.lst (vl.map V.str)) ∧
          H'' p4 = some (.lst vs) ∧ H'' p5 = some (.lst ws) ∧ Paired (Thing H'') vs ts ∧ Paired (Thing H'') ws us ∧ nms us = (ns.drop 3).take i ∧ ∀ t ∈ us, GoodT t)
        ⟨v, none, [], [], rfl, oj.st bt8 hP8, bt8 _ _ n2 hj2, bt8 _ _ n3 hj3, bt8 _ _ n4 hj4, bt8 _ _ n5 hj5, things_tk (TK.bt bt8 oj.p) pj, .nil, rfl, by simp⟩ ?_ ?_⟩⟩
      · rintro i σ H'' hi ⟨v, u, ws, us, rfl, oi, hi2, hi3, hi4, hi5, pi, qi, ni, gi⟩
        have hi7 : 3 + i < ns.length := by omega
        have lws : ws.length = i := by
          rw [qi.length]
          have e := congrArg List.length ni
          rw [nms, List.length_map, List.length_take, List.length_drop] at e
          omega
        refine ⟨_, rfl, _, rfl, a, 2, rfl, oi.p, by decide, by decide, fun H9 e bt9 hP9 e0 e1 => ?_⟩
        obtain ⟨en, rfl⟩ : ∃ en : Nat, e = en := ⟨e.toNat, by omega⟩
        have o9 := oi.st bt9 hP9
        refine ⟨(en : Int), rfl, p3, _, rfl, SqL.of (bt9 _ _ n3 hi3), fun q0 hq0 => ?_⟩
        rw [cut_from]
        have o10 : Okp a H (L2.upd H9 q0 (.lst ((vl.drop en).map V.str))) := o9.nw hq0
        have n0 : q0 ≠ a := o9.p.ne hq0
        have g2 := uk (u := .lst ((vl.drop en).map V.str)) (bt9 _ _ n2 hi2) hq0
        have g3 := uk (u := .lst ((vl.drop en).map V.str)) (bt9 _ _ n3 hi3) hq0
        have g4 := uk (u := .lst ((vl.drop en).map V.str)) (bt9 _ _ n4 hi4) hq0
        have g5 := uk (u := .lst ((vl.drop en).map V.str)) (bt9 _ _ n5 hi5) hq0
        have tk9 : TK H'' (L2.upd H9 q0 (.lst ((vl.drop en).map V.str))) := (TK.bt bt9 oi.p).tr (TK.nw hq0)
        refine ⟨_, rfl, .inl ⟨rfl, _, SqL.of g5⟩, _, rfl, _, rfl, _, _, rfl, rfl, p2, _, ((3 + i : Nat) : Int), _, rfl, congrArg V.int (by omega), SqL.of g2, str_at hi7, _, rfl, _, rfl, a, 2, rfl, o10.p, by decide, by decide, fun H7 d bt7 hP7 d0 d1 => ?_⟩
        obtain ⟨dn, rfl⟩ : ∃ dn : Nat, d = dn := ⟨d.toNat, by omega⟩
        have o7 := o10.st bt7 hP7
        refine ⟨_, _, rfl, rfl, ((2 + dn : Nat) : Int), congrArg V.int (by omega), q0, _, rfl, SqL.of (bt7 _ _ n0 upd_same), fun q1 hq1 => ?_⟩
        rw [cut_to]
        refine ⟨q1, _, rfl, .inl ⟨SqL.of upd_same, fun q2 hq2 => ?_⟩⟩
        refine ⟨(by show 2 ≤ sizeLine; decide), fun q3 hq3 => ?_⟩
        obtain ⟨pc, hpc⟩ : ∃ pc, pc = (vl.drop en).take (2 + dn) := ⟨_, rfl⟩
        rw [← hpc] at hq2 hq3 ⊢
        have k2 := uk (u := .tup [.str ns[3 + i], .ref q2]) (uk (u := .tup (pc.map V.str)) (uk (u := .lst (pc.map V.str)) (bt7 _ _ n2 g2) hq1) hq2) hq3
        have k3 := uk (u := .tup [.str ns[3 + i], .ref q2]) (uk (u := .tup (pc.map V.str)) (uk (u := .lst (pc.map V.str)) (bt7 _ _ n3 g3) hq1) hq2) hq3
        have k4 := uk (u := .tup [.str ns[3 + i], .ref q2]) (uk (u := .tup (pc.map V.str)) (uk (u := .lst (pc.map V.str)) (bt7 _ _ n4 g4) hq1) hq2) hq3
        have k5 := uk (u := .tup [.str ns[3 + i], .ref q2]) (uk (u := .tup (pc.map V.str)) (uk (u := .lst (pc.map V.str)) (bt7 _ _ n5 g5) hq1) hq2) hq3
        have tk : TK H'' _ := (((tk9.tr (TK.bt bt7 o10.p)).tr (TK.nw (o := .lst (pc.map V.str)) hq1)).tr (TK.nw (o := .tup (pc.map V.str)) hq2)).tr (TK.nw (o := .tup [.str ns[3 + i], .ref q2]) hq3)
        have kq2 := uk (u := .tup [.str ns[3 + i], .ref q2]) (upd_same (H := L2.upd H7 q1 (.lst (pc.map V.str))) (a := q2) (o := .tup (pc.map V.str))) hq3
        refine ⟨p5, ws, _, rfl, rfl, k5, sz4 (by omega : ws.length ≤ 7) (by decide), ?_⟩
        have tk' := tk.tr (TK.ls (o := .lst (ws ++ [.ref q3])) k5)
        refine ⟨_, _, ws ++ [.ref q3], us ++ [(ns[3 + i], pc)], rfl, (((o7.nw hq1).nw hq2).nw hq3).mu f5 n5, um k2 n25, um k3 n35, um k4 (Ne.symm n54), upd_same, things_tk tk' pi, ?_, ?_, ?_⟩
        · exact (things_tk tk' qi).snoc ⟨q3, q2, rfl, TK.ls k5 _ _ upd_same, TK.ls k5 _ _ kq2⟩
        · rw [nms, List.map_append, take_one (by rw [List.length_drop]; omega), ← ni, List.getElem_drop]
          rfl
        · intro t ht
          rcases List.mem_append.mp ht with h | h
          · exact gi t h
          · have e := List.mem_singleton.mp h
            subst e
            rw [hpc]
            exact piece_good (gn _ (List.getElem_mem hi7)) gv nv (by omega) (by omega) (by omega)
      · rintro σ H'' ⟨v, u, ws, us, rfl, oi, hi2, hi3, hi4, hi5, pi, qi, ni, gi⟩
        have lus : us.length = (1 + m2).toNat := by
          have e := congrArg List.length ni
          rw [nms, List.length_map, List.length_take, List.length_drop] at e
          omega
        refine ⟨_, rfl, p4, vs, rfl, .inl ⟨SqL.of hi4, fun t1 ht1 => ?_⟩⟩
        refine ⟨_, rfl, p5, ws, rfl, .inl ⟨SqL.of (uk hi5 ht1), fun t2 ht2 => ?_⟩⟩
        refine ⟨_, rfl, _, rfl, a, 6, rfl, ((oi.nw ht1).nw ht2).p, by decide, by decide, fun H10 hh bt10 hP10 hh0 hh1 => ⟨_, _, rfl, rfl, (by show 3 ≤ sizeLine; decide), fun t3 ht3 => ?_⟩⟩
        have o10 := ((oi.nw (o := .tup vs) ht1).nw (o := .tup ws) ht2).st bt10 hP10
        have tk : TK H'' (L2.upd H10 t3 (.tup [.ref t1, .ref t2, .int (1 + hh)])) := (((TK.nw (o := .tup vs) ht1).tr (TK.nw (o := .tup ws) ht2)).tr (TK.bt bt10 ((oi.nw ht1).nw ht2).p)).tr (TK.nw ht3)
        have tk2 : TK (L2.upd (L2.upd H'' t1 (.tup vs)) t2 (.tup ws)) (L2.upd H10 t3 (.tup [.ref t1, .ref t2, .int (1 + hh)])) := (TK.bt bt10 ((oi.nw ht1).nw ht2).p).tr (TK.nw ht3)
        refine k _ t3 ts us (1 + hh) (o10.nw ht3).b (o10.nw ht3).p ⟨t1, t2, upd_same, ⟨vs, tk2 _ _ (uk upd_same ht2), things_tk tk pi⟩, ⟨ws, tk2 _ _ upd_same, things_tk tk qi⟩⟩ ?_
        refine ⟨by omega, by omega, by omega, fun t ht => (gj t ht).1, gi, ?_, ?_, ?_, by omega, by omega, ?_⟩
        · rw [nj]
          exact pw.sublist (List.take_sublist ..)
        · rw [ni]
          exact pw.sublist ((List.take_sublist ..).trans (List.drop_sublist ..))
        · refine Nat.le_trans (ways_le (m := 3) fun t ht => (gj t ht).2) ?_
          have h : ts.length = 0 ∨ ts.length = 1 ∨ ts.length = 2 := by omega
          rcases h with h | h | h <;> rw [h] <;> decide
        · intro z hz hz2
          rw [nj] at hz
          rw [ni] at hz2
          have a1 : z ∈ ns.take 3 := (List.take_subset_take_left ns (by omega)) hz
          have a2 : z ∈ ns.drop 3 := List.mem_of_mem_take hz2
          have nd := nn
          rw [← List.take_append_drop 3 ns] at nd
          exact (List.nodup_append.mp nd).2.2 z a1 z a2 rfl
end
end Hr

/-! text Z1 -/
set_option Elab.async false
set_option linter.all false
set_option maxRecDepth 100000
set_option maxHeartbeats 4000000
namespace Hr
open PySem PySem.Spec PyProof.Rows L2
/-- zip of a list and a tuple: new pairs, as long as both have an item -/
def ItzM (K : PySem.W.Frag) (l t : Addr) : It where
  go := fun i H => ∃ (xs ys : List V) (x y : V), SqL K H l xs ∧ SqT K H t ys ∧ xs[i]? = some x ∧ ys[i]? = some y
  yld := fun i H v H' => ∃ q x y, v = .ref q ∧ H q = none ∧ H' = upd H q (.tup [x, y]) ∧ (∀ zs, SqL K H l zs → zs[i]? = some x) ∧ ∀ zs, SqT K H t zs → zs[i]? = some y
  stop := fun i H => ∃ xs ys : List V, SqL K H l xs ∧ SqT K H t ys ∧ i ≤ xs.length ∧ i ≤ ys.length ∧ (i = xs.length ∨ i = ys.length)
/-- where the five cells of the walk stand -/
structure Five (h : Heap) (z u v c d l t : Addr) (i : Nat) : Prop where
  hz : IsZip h z u v .none
  hu : IsTupOf2 h u (.ref c) (.ref d)
  hv : ∃ x y, IsTupOf2 h v x y
  hc : h.IsListIter c l i
  hd : h.IsTupleIter d t i
theorem turn_mix {P : Program} {w : World} {K : PySem.W.Frag} {elts : List Expr} {kk : Nat} {tpos : Pos} {l t z u v c d : Addr} (S : ZipSep2 z u v c d [c, l] [d, t]) (lc : l ≠ c) (td : t ≠ d) :
    Turn P w K (.Tuple elts kk tpos) (ItzM K l t) [z, u, v, c, d] z (fun i h => Five h z u v c d l t i) where
  mem := List.mem_cons_self
  obj := fun i h F b hb => by
    obtain ⟨hz, hu, ⟨x, y, hv⟩, ⟨oc, ec, _, dc⟩, ⟨od, ed, _, dd⟩⟩ := F
    simp only [List.mem_cons, List.not_mem_nil, or_false] at hb
    rcases hb with rfl | rfl | rfl | rfl | rfl
    · exact ⟨_, hz, fun _ n => nomatch n⟩
    · exact ⟨_, hu, fun _ n => nomatch n⟩
    · exact ⟨_, hv, fun _ n => nomatch n⟩
    · exact ⟨oc, ec, fun _ n => by rw [dc] at n; cases n⟩
    · exact ⟨od, ed, fun _ n => by rw [dd] at n; cases n⟩
  keep := fun i h h' F k => by
    obtain ⟨hz, hu, ⟨x, y, hv⟩, hc, hd⟩ := F
    exact ⟨k z (by simp) _ hz, k u (by simp) _ hu, ⟨x, y, k v (by simp) _ hv⟩, hc.at fun o e => k c (by simp) o e, hd.at fun o e => k d (by simp) o e⟩
  item := by
    intro X hP hw hK calm i pins s σ H E I hf F g
    subst hP hw hK
    obtain ⟨hz, hu, ⟨x0, y0, hv⟩, hc, hd⟩ := F
    obtain ⟨xs, ys, x, y, hl, ht, hx, hy⟩ := g
    obtain ⟨its, rl, pl, _⟩ := I.list hl
    obtain ⟨jts, rt, pt, _⟩ := I.tuple ht
    obtain ⟨ux, hux, rx⟩ := rl.get hx
    obtain ⟨uy, huy, ry⟩ := rt.get hy
    have hh : X.A.in1.handled = none := I.ok.hd calm
    have D1 := Draws.list (prog := X.prog) (w := X.w) (A := X.A.in1) hh c l lc its.toArray
    have D2 := Draws.tuple (prog := X.prog) (w := X.w) (A := X.A.in1) hh d t td jts.toArray
    have lz : z < s.heap.objs.size := Heap.lt_size hz
    have i1 : i < its.toArray.size := by
      have := (List.getElem?_eq_some_iff.mp hux).1
      simpa using this
    have i2 : i < jts.toArray.size := by
      have := (List.getElem?_eq_some_iff.mp huy).1
      simpa using this
    refine wpAny_pyNext_zipD2_item S D1 D2 hz hu hv ⟨hc, pl.isList⟩ ⟨hd, pt⟩ i1 i2 fun a1 a2 h' tk q1 q2 z' v' st1 st2 hT hsz hk => ?_
    have e1 : a1 = ux := by
      have q : its[i]? = some a1 := by simpa using q1
      rw [hux] at q
      exact (Option.some.inj q).symm
    have e2 : a2 = uy := by
      have q : jts[i]? = some a2 := by simpa using q2
      rw [huy] at q
      exact (Option.some.inj q).symm
    subst e1 e2
    refine ⟨_, rfl, wpAny_letOwnedTupleGo_zip (s := { s with heap := h', toks := tk }) z' fun h2 z2 sb => ?_⟩
    have nT : s.heap.objs.size ≠ z := Nat.ne_of_gt lz
    have hT2 := (sb.2 _ nT).trans hT
    have new : ObjOk X.prog X.w (upd H s.heap.objs.size (.tup [x, y])) h2 s.heap.objs.size (.tup [x, y]) :=
      ⟨by show 2 ≤ sizeLine; decide, [a1, a2], .cons rx (.cons ry .nil), ⟨_, hT2, rfl, _, rfl⟩⟩
    have J : Inv X pins σ (upd H s.heap.objs.size (.tup [x, y])) { s with heap := h2, toks := tk } :=
      I.turnedNew (t' := tk) (ch := [z, u, v, c, d]) (fun b o nb e => by
        simp only [List.mem_cons, List.not_mem_nil, or_false, not_or] at nb
        exact (sb.2 b nb.1).trans (hk b o nb.1 nb.2.2.1 nb.2.2.2.1 nb.2.2.2.2 e)) hf (Nat.le_refl _) new
    refine ⟨.ref s.heap.objs.size, _, J, rfl, ⟨_, x, y, rfl, I.hok.fresh (Nat.le_refl _), rfl, fun zs q => ?_, fun zs q => ?_⟩, ⟨z2, ?_, ⟨a1, a2, ?_⟩, ?_, ?_⟩, fun b hb => ?_⟩
    · rw [I.list_inj q hl]
      exact hx
    · rw [I.tuple_inj q ht]
      exact hy
    · exact (sb.2 _ S.TIz).trans (hk _ _ S.TIz S.TITO S.TIi1 S.TIi2 hu)
    · exact (sb.2 _ S.TOz).trans v'
    · exact st1.1.at fun o e => (sb.2 _ (Ne.symm S.zi1)).trans e
    · exact st2.1.at fun o e => (sb.2 _ (Ne.symm S.zi2)).trans e
    · have lt : b < s.heap.objs.size := by
        simp only [List.mem_cons, List.not_mem_nil, or_false] at hb
        rcases hb with rfl | rfl | rfl | rfl | rfl
        · exact lz
        · exact Heap.lt_size hu
        · exact Heap.lt_size hv
        · obtain ⟨_, e, _⟩ := hc
          exact Heap.lt_size e
        · obtain ⟨_, e, _⟩ := hd
          exact Heap.lt_size e
      rw [upd_ne (Nat.ne_of_lt lt)]
      exact (hf b hb).1
  done := by
    intro X hP hw hK calm i pins s σ H E I hf F g
    subst hP hw hK
    obtain ⟨hz, hu, ⟨x0, y0, hv⟩, hc, hd⟩ := F
    obtain ⟨xs, ys, hl, ht, le1, le2, he⟩ := g
    obtain ⟨its, rl, pl, _⟩ := I.list hl
    obtain ⟨jts, rt, pt, _⟩ := I.tuple ht
    have n1 : its.toArray.size = xs.length := by simpa using rl.length.symm
    have n2 : jts.toArray.size = ys.length := by simpa using rt.length.symm
    have hh : X.A.in1.handled = none := I.ok.hd calm
    have D1 := Draws.list (prog := X.prog) (w := X.w) (A := X.A.in1) hh c l lc its.toArray
    have D2 := Draws.tuple (prog := X.prog) (w := X.w) (A := X.A.in1) hh d t td jts.toArray
    refine wpAny_pyNext_zipD2_end S D1 D2 hz hu hv ⟨hc, pl.isList⟩ ⟨hd, pt⟩ (by rw [n1]; exact le1) (by rw [n2]; exact le2) (by rw [n1, n2]; exact he) fun h' tk hk => ⟨rfl, ?_⟩
    exact I.turnedL (t' := tk) (ch := [z, u, v, c, d]) (fun b o nb e => by
      simp only [List.mem_cons, List.not_mem_nil, or_false, not_or] at nb
      exact hk b o nb.1 nb.2.2.1 nb.2.2.2.1 nb.2.2.2.2 e) hf
  self := fun A i s Q E F q => wpAny_pyIter_zip F.hz q
def iZipM (K : PySem.W.Frag) (ta : TA) : TI := fun σ H R => ta σ H fun vs H1 => ∃ l t xs ys, vs = [.ref l, .ref t] ∧ SqL K H1 l xs ∧ SqT K H1 t ys ∧ R (ItzM K l t) H1
theorem pi_zipM {X : Cx} {e e2 : Expr} {ta : TA} {p pos tpos : Pos} {elts : List Expr} {kk : Nat} (hg : Gl X "zip") (hm : X.mg "zip" = none) (ha : PA X [e, e2] ta)
    (hs : starEach [e, e2] X.env = (false, eval e X.env) :: starEach [e2] X.env := by rfl) (hpl : (backTo pos (starEach [e2] X.env)).any (·.1) = false := by rfl) :
    PI X (.Tuple elts kk tpos) (.Call (.Name "zip" p) [e, e2] [] pos) (iZipM X.K ta) := by
  refine ⟨fun pins s σ H R I h => Call_ (ld_blt I hg hm PyProof.Rows.boot_zip (PyProof.Rows.callWith_type1 (thn (ha.run pos pins s σ H _ I h) fun us s1 k => ?_) hs hpl))⟩
  obtain ⟨vs, H1, I1, r1, l, t, xs, ys, ex, hl, ht, q⟩ := k
  subst ex
  obtain ⟨u1, u2, rfl, r2, r3⟩ := vals2 r1
  cases r2
  cases r3
  obtain ⟨its, rl, pl, _⟩ := I1.list hl
  obtain ⟨jts, rt, pt, _⟩ := I1.tuple ht
  obtain ⟨ol, hol, _⟩ := id pl.isList
  obtain ⟨ot, hot, _⟩ := id pt
  have ll := Heap.lt_size hol
  have lt := Heap.lt_size hot
  have S : ZipSep2 (s1.heap.objs.size + 4) (s1.heap.objs.size + 2) (s1.heap.objs.size + 3) s1.heap.objs.size (s1.heap.objs.size + 1) [s1.heap.objs.size, l] [s1.heap.objs.size + 1, t] :=
    zip_sep2 (fp1 := [l]) (fp2 := [t]) (fun b hb => by rw [List.mem_singleton.mp hb]; exact ll) (fun b hb => by rw [List.mem_singleton.mp hb]; exact lt)
  refine zip_begins2 (begins_list l its.toArray) (begins_tuple t jts.toArray) pl.isList pt fun h' hz hu hv hc hd hsz hk => wpAny_pyIter_zip hz ?_
  have I2 : Inv X pins σ H1 { s1 with heap := h' } := I1.kept (t' := s1.toks) hk
  refine ⟨s1.heap.objs.size + 4, [s1.heap.objs.size + 4, s1.heap.objs.size + 2, s1.heap.objs.size + 3, s1.heap.objs.size, s1.heap.objs.size + 1], _, _, H1, rfl, I2, turn_mix S (Nat.ne_of_lt ll) (Nat.ne_of_lt (Nat.lt_succ_of_lt lt)), ⟨hz, hu, ⟨_, _, hv⟩, ⟨_, hc, rfl, rfl⟩, ⟨_, hd, rfl, rfl⟩⟩, fun b hb => ?_, q⟩
  have le : s1.heap.objs.size ≤ b := by
    simp only [List.mem_cons, List.not_mem_nil, or_false] at hb
    rcases hb with e | e | e | e | e <;> rw [e] <;> first | exact Nat.le_refl _ | exact Nat.le_add_right _ _
  exact I1.fpOk le (I1.hok.fresh le)
/-- a loop over such a zip: as many turns as the tuple has items, no more than the list has -/
theorem for_zipM {K : PySem.W.Frag} {l t : Addr} {xs ys : List V} {g : TG} {tb : TS} {D : Ends} {σ : L2.St} {H : Hp} (hle : ys.length ≤ xs.length) (Pv : Nat → L2.St → Hp → Prop) (h0 : Pv 0 σ H) (hq : ∀ i σ H, Pv i σ H → SqL K H l xs ∧ SqT K H t ys)
    (hs : ∀ (i : Nat) (x y : V) (q : Addr) (σ : L2.St) (H : Hp), xs[i]? = some x → ys[i]? = some y → Pv i σ H → H q = none → g (.ref q) σ (upd H q (.tup [x, y])) fun σ2 H2 => tb { D with nx := Pv (i + 1), ct := Pv (i + 1), bk := D.nx } σ2 H2) (hd : ∀ σ H, Pv ys.length σ H → D.nx σ H) :
    ∃ W : Nat → Nat → L2.St → Hp → Prop, (∃ m, W 0 m σ H) ∧ ∀ i m σ H, W i m σ H →
      ((ItzM K l t).stop i H ∧ D.nx σ H) ∨ ((ItzM K l t).go i H ∧ ∃ N : L2.St → Hp → Prop, (∀ σ' H', N σ' H' → ∃ m', m' < m ∧ W (i + 1) m' σ' H') ∧ ∀ v H', (ItzM K l t).yld i H v H' → g v σ H' fun σ2 H2 => tb { D with nx := N, ct := N, bk := D.nx } σ2 H2) := by
  refine ⟨fun i m σ H => m + i = ys.length ∧ Pv i σ H, ⟨ys.length, rfl, h0⟩, fun i m σ H w => ?_⟩
  obtain ⟨em, p⟩ := w
  obtain ⟨qx, qy⟩ := hq i σ H p
  cases m with
  | zero =>
    have e : i = ys.length := by omega
    subst e
    exact .inl ⟨⟨xs, ys, qx, qy, hle, Nat.le_refl _, .inr rfl⟩, hd σ H p⟩
  | succ m =>
    have i2 : i < ys.length := by omega
    have i1 : i < xs.length := by omega
    refine .inr ⟨⟨xs, ys, _, _, qx, qy, List.getElem?_eq_getElem i1, List.getElem?_eq_getElem i2⟩, Pv (i + 1), fun σ' H' p' => ⟨m, Nat.lt_succ_self m, by omega, p'⟩, fun v H' y => ?_⟩
    obtain ⟨q, x', y', rfl, hn, rfl, f1, f2⟩ := y
    exact hs i x' y' q σ H (f1 xs qx) (f2 ys qy) p hn
end Hr

/-! text A5 -/
set_option Elab.async false
set_option linter.all false
set_option maxRecDepth 100000
set_option maxHeartbeats 8000000
namespace Hr
open PySem L2
def SZ : List (List Nat) := [[], [4], [3, 4], [4, 3], [2, 2, 3], [2, 3, 2], [3, 2, 2], [2, 2, 2], [4, 2], [2, 4]]
theorem sz_ok : ∀ z ∈ SZ, z.length ≤ 3 ∧ z.foldl (· * ·) 1 ≤ 12 ∧ ∀ n ∈ z, 2 ≤ n ∧ n ≤ 4 := by decide +kernel
def IsSz (H : Hp) (v : V) (z : List Nat) : Prop := ∃ q, v = .ref q ∧ H q = some (.tup (z.map fun (n : Nat) => V.int (n : Int)))
theorem sz_tk {H H1 : Hp} {vs : List V} {zs : List (List Nat)} (k : TK H H1) (h : Paired (IsSz H) vs zs) : Paired (IsSz H1) vs zs := paired_imp (fun _ _ ⟨q, e, h⟩ => ⟨q, e, k _ _ h⟩) h
theorem paired_get {α β : Type} {F : α → β → Prop} : ∀ {l : List α} {m : List β}, Paired F l m → ∀ {j : Nat}, j < l.length → ∃ x y, l[j]? = some x ∧ y ∈ m ∧ F x y
  | _, _, .nil, _, h => absurd h (Nat.not_lt_zero _)
  | _, _, .cons h t, 0, _ => ⟨_, _, rfl, List.mem_cons_self, h⟩
  | _, _, .cons h t, j + 1, hj => by
    obtain ⟨x, y, e, hm, f⟩ := paired_get t (j := j) (Nat.lt_of_succ_lt_succ hj)
    exact ⟨x, y, e, List.mem_cons_of_mem _ hm, f⟩
def spWide : Sp := fun vs H Q _ => ∃ (a : Addr), vs = [.ref a] ∧ Pool H a ∧
  ∀ (H' : Hp) (p : Addr) (o i : List TV) (h : Int), But a H H' → Pool H' a → HouseT H' p o i h → GoodH o i h → Q (.ref p) H'
section
variable {P : Program} {w : World} {K : PySem.W.Frag} {mg : Str → Option Value} {base : Heap} {f : Addr} {fd : FuncData}
abbrev nWide : List Str := ["_law_pool_here", "_law_sizes", "_law_names", "_law_values", "_law_outer", "_law_name", "_law_size", "_law_at", "_law_inner", "_law_some"]
theorem scWide : FnScope nWide ["_law_pool_here"] (defScope s_law_wide_house) := ⟨rfl, rfl, rfl, by decide +kernel, rfl, by decide +kernel, by decide +kernel⟩
theorem ok_wide (F : FnP K "_law_wide_house" s_law_wide_house f fd) (DT : Dk P w K mg base "_law_take" 1 ["_law_pool_here", "_law_many"] spTake) (DW : Dk P w K mg base "_law_words" 2 ["_law_pool_here", "_law_many"] spWords)
    (gZ : mg "zip" = none) (gS : mg "sorted" = none) (gT : mg "tuple" = none) : FnOk P w K mg base CX0 3 f fd ["_law_pool_here"] spWide := by
  refine F.ok scWide (fun vs H Q E h => ?_) (fun cdv A outer s H vs Q E hr h => ?_)
  · obtain ⟨a, rfl, _⟩ := h
    rfl
  · obtain ⟨a, rfl, hP, k⟩ := h
    have hr1 : Room 1 _ := hr.mono (by decide)
    refine ⟨_, PSs.nox (pss_cons (ps_set (i := 1) scWide.nd rfl (.inl rfl) (pe_ix ix_list (pe_lst (pa_cons (pe_tup pa_nil) (pa_cons (pe_tup (pa_cons pe_int pa_nil)) (pa_cons (pe_tup (pa_cons pe_int (pa_cons pe_int pa_nil))) (pa_cons (pe_tup (pa_cons pe_int (pa_cons pe_int pa_nil)))
        (pa_cons (pe_tup (pa_cons pe_int (pa_cons pe_int (pa_cons pe_int pa_nil)))) (pa_cons (pe_tup (pa_cons pe_int (pa_cons pe_int (pa_cons pe_int pa_nil)))) (pa_cons (pe_tup (pa_cons pe_int (pa_cons pe_int (pa_cons pe_int pa_nil)))) (pa_cons (pe_tup (pa_cons pe_int (pa_cons pe_int (pa_cons pe_int pa_nil))))
        (pa_cons (pe_tup (pa_cons pe_int (pa_cons pe_int pa_nil))) (pa_cons (pe_tup (pa_cons pe_int (pa_cons pe_int pa_nil))) pa_nil))))))))))) (pe_cd DT hr1 rfl (pa_cons (pv 0) (pa_cons pe_int pa_nil))) (fun _ _ => rfl)))
      (pss_cons (ps_par (i := 2) (j := 3) rfl scWide.nd rfl rfl (by decide) rfl rfl (pa_cons (pe_callB cr_sortedS (by rfl) gS (by decide +kernel) (pa_cons (pe_cd DW hr rfl (pa_cons (pv 0) (pa_cons pe_int pa_nil))) pa_nil)) (pa_cons (pe_cd DW hr rfl (pa_cons (pv 0) (pa_cons pe_int pa_nil))) pa_nil)) (by rfl))
      (pss_cons (ps_set (i := 4) scWide.nd rfl (.inl rfl) (pe_lst pa_nil))
      (pss_cons (ps_for PassesOwn.never rfl (pi_zipM rfl gZ (pa_cons (pv 2) (pa_cons (pv 1) pa_nil))) (pg_tup rfl (pgs_cons (pg_name (i := 5) scWide.nd rfl (.inl rfl)) (pgs_cons (pg_name (i := 6) scWide.nd rfl (.inl rfl)) pgs_nil)))
        (pss_cons (ps_set (i := 7) scWide.nd rfl (.inl rfl) (pe_cd DT hr1 rfl (pa_cons (pv 0) (pa_cons (pe_op op_sub pe_int (pv 6)) pa_nil))))
        (pss_one (ps_expr (pe_bm PySem.F.plainAttrs_list PySem.F.slot_list_append PySem.F.type_list_append mt_append (pv 4) (pa_cons (pe_tup (pa_cons (pv 5) (pa_cons (pe_callTy call_tuple_of (by rfl) gT (by decide +kernel) (pa_cons (pe_slice sl_list (pv 3) (po_some (pv 7)) (po_some (pe_op op_add (pv 7) (pv 6)))) pa_nil)) pa_nil))) pa_nil))))))
      (pss_cons (ps_set (i := 8) scWide.nd rfl (.inl rfl) (pe_lst pa_nil))
      (pss_cons (ps_for PassesOwn.never rfl (pi_list (pe_slice sl_list (pv 2) (po_some pe_int) (po_some (pe_op op_add pe_int (pe_cd DT hr1 rfl (pa_cons (pv 0) (pa_cons pe_int pa_nil))))))) (pg_name (i := 5) scWide.nd rfl (.inl rfl))
        (pss_cons (ps_set (i := 9) scWide.nd rfl (.inl rfl) (pe_slice sl_list (pv 3) (po_some (pe_cd DT hr1 rfl (pa_cons (pv 0) (pa_cons pe_int pa_nil)))) po_none))
        (pss_one (ps_expr (pe_bm PySem.F.plainAttrs_list PySem.F.slot_list_append PySem.F.type_list_append mt_append (pv 8) (pa_cons (pe_tup (pa_cons (pv 5) (pa_cons (pe_callTy call_tuple_of (by rfl) gT (by decide +kernel) (pa_cons (pe_slice sl_list (pv 9) po_none (po_some (pe_op op_add pe_int (pe_cd DT hr1 rfl (pa_cons (pv 0) (pa_cons pe_int pa_nil)))))) pa_nil)) pa_nil))) pa_nil))))))
      (pss_one (ps_ret (pe_tup (pa_cons (pe_callTy call_tuple_of (by rfl) gT (by decide +kernel) (pa_cons (pv 4) pa_nil)) (pa_cons (pe_callTy call_tuple_of (by rfl) gT (by decide +kernel) (pa_cons (pv 8) pa_nil)) (pa_cons (pe_op op_add pe_int (pe_cd DT hr1 rfl (pa_cons (pv 0) (pa_cons pe_int pa_nil)))) pa_nil)))))))))))), ?_⟩
    refine ⟨Nat.zero_le _, fun q0 g0 => ?_⟩
    have z0 : Paired (IsSz (L2.upd H q0 (.tup []))) [.ref q0] [[]] := .cons ⟨q0, rfl, upd_same⟩ .nil
    refine ⟨(by show 1 ≤ sizeLine; decide), fun q1 g1 => ?_⟩
    have z1 := (sz_tk (TK.nw (o := .tup [.int 4]) g1) z0).snoc (a := V.ref q1) (b := [4]) ⟨q1, rfl, upd_same⟩
    have o1 := ((Okp.rf hP).nw (o := .tup []) g0).nw (o := .tup [.int 4]) g1
    refine ⟨(by show 2 ≤ sizeLine; decide), fun q2 g2 => ?_⟩
    have z2 := (sz_tk (TK.nw (o := .tup [.int 3, .int 4]) g2) z1).snoc (a := V.ref q2) (b := [3, 4]) ⟨q2, rfl, upd_same⟩
    have o2 := o1.nw (o := .tup [.int 3, .int 4]) g2
    refine ⟨(by show 2 ≤ sizeLine; decide), fun q3 g3 => ?_⟩
    have z3 := (sz_tk (TK.nw (o := .tup [.int 4, .int 3]) g3) z2).snoc (a := V.ref q3) (b := [4, 3]) ⟨q3, rfl, upd_same⟩
    have o3 := o2.nw (o := .tup [.int 4, .int 3]) g3
    refine ⟨(by show 3 ≤ sizeLine; decide), fun q4 g4 => ?_⟩
    have z4 := (sz_tk (TK.nw (o := .tup [.int 2, .int 2, .int 3]) g4) z3).snoc (a := V.ref q4) (b := [2, 2, 3]) ⟨q4, rfl, upd_same⟩
    have o4 := o3.nw (o := .tup [.int 2, .int 2, .int 3]) g4
    refine ⟨(by show 3 ≤ sizeLine; decide), fun q5 g5 => ?_⟩
    have z5 := (sz_tk (TK.nw (o := .tup [.int 2, .int 3, .int 2]) g5) z4).snoc (a := V.ref q5) (b := [2, 3, 2]) ⟨q5, rfl, upd_same⟩
    have o5 := o4.nw (o := .tup [.int 2, .int 3, .int 2]) g5
    refine ⟨(by show 3 ≤ sizeLine; decide), fun q6 g6 => ?_⟩
    have z6 := (sz_tk (TK.nw (o := .tup [.int 3, .int 2, .int 2]) g6) z5).snoc (a := V.ref q6) (b := [3, 2, 2]) ⟨q6, rfl, upd_same⟩
    have o6 := o5.nw (o := .tup [.int 3, .int 2, .int 2]) g6
    refine ⟨(by show 3 ≤ sizeLine; decide), fun q7 g7 => ?_⟩
    have z7 := (sz_tk (TK.nw (o := .tup [.int 2, .int 2, .int 2]) g7) z6).snoc (a := V.ref q7) (b := [2, 2, 2]) ⟨q7, rfl, upd_same⟩
    have o7 := o6.nw (o := .tup [.int 2, .int 2, .int 2]) g7
    refine ⟨(by show 2 ≤ sizeLine; decide), fun q8 g8 => ?_⟩
    have z8 := (sz_tk (TK.nw (o := .tup [.int 4, .int 2]) g8) z7).snoc (a := V.ref q8) (b := [4, 2]) ⟨q8, rfl, upd_same⟩
    have o8 := o7.nw (o := .tup [.int 4, .int 2]) g8
    refine ⟨(by show 2 ≤ sizeLine; decide), fun q9 g9 => ?_⟩
    have z9 := (sz_tk (TK.nw (o := .tup [.int 2, .int 4]) g9) z8).snoc (a := V.ref q9) (b := [2, 4]) ⟨q9, rfl, upd_same⟩
    have o9 := o8.nw (o := .tup [.int 2, .int 4]) g9
    refine ⟨(by show 10 ≤ sizeLine; decide), fun pL gL => ?_⟩
    have zL : Paired (IsSz _) _ SZ := sz_tk (TK.nw (o := .lst [.ref q0, .ref q1, .ref q2, .ref q3, .ref q4, .ref q5, .ref q6, .ref q7, .ref q8, .ref q9]) gL) z9
    have oL := o9.nw (o := .lst [.ref q0, .ref q1, .ref q2, .ref q3, .ref q4, .ref q5, .ref q6, .ref q7, .ref q8, .ref q9]) gL
    have nL := o9.p.ne gL
    refine ⟨_, rfl, a, 10, rfl, oL.p, by decide, by decide, fun Hs d bts hPs d0 d1 => ?_⟩
    obtain ⟨dn, rfl⟩ : ∃ dn : Nat, d = dn := ⟨d.toNat, by omega⟩
    obtain ⟨x, sz, ex, hsz, qs, rfl, hqs⟩ := paired_get zL (j := dn) (by show dn < 10; omega)
    have os := oL.st bts hPs
    have hss : Hs qs = some (.tup (sz.map fun (n : Nat) => V.int (n : Int))) := TK.bt bts oL.p _ _ hqs
    refine ⟨pL, _, _, _, rfl, rfl, SqL.of (bts pL _ nL upd_same), atI_nat ex, ?_⟩
    clear hqs ex zL z9 z8 z7 z6 z5 z4 z3 z2 z1 z0 bts oL o9 o8 o7 o6 o5 o4 o3 o2 o1 gL g9 g8 g7 g6 g5 g4 g3 g2 g1 g0
    obtain ⟨sl3, sw, sb⟩ := sz_ok sz hsz
    refine ⟨_, rfl, a, 7, rfl, hPs, by decide, fun H1 p1 ws bt1 hP1 fr1 h1 lw gw nw => ⟨p1, ws, rfl, SqL.of h1, by omega, fun ns p2 perm srt hp2 => ?_⟩⟩
    have ln : ns.length = 7 := perm.length_eq.trans lw
    have gn : ∀ z ∈ ns, isNm z := fun z hz => gw z (perm.subset hz)
    have nn : ns.Nodup := perm.symm.nodup nw
    have pw := sorted_pw srt nn
    have o2 : Okp a H (L2.upd H1 p2 (.lst (ns.map V.str))) := (os.st bt1 hP1).nw hp2
    have n2 : p2 ≠ a := hP1.ne hp2
    have s2 := ((TK.bt bt1 hPs).tr (TK.nw (o := .lst (ns.map V.str)) hp2)) _ _ hss
    refine ⟨_, rfl, a, 5, rfl, o2.p, by decide, fun H3 p3 vl bt3 hP3 fr3 h3 lv gv nv => ⟨_, _, rfl, ?_⟩⟩
    have o3 := o2.st bt3 hP3
    have h32 : H3 p2 = some (.lst (ns.map V.str)) := bt3 p2 _ n2 upd_same
    have n3 : p3 ≠ a := o2.p.ne fr3
    have s3 := TK.bt bt3 o2.p _ _ s2
    refine ⟨Nat.zero_le _, fun p4 hp4 => ?_⟩
    have n24 : p2 ≠ p4 := ne_of_none h32 hp4
    have n34 : p3 ≠ p4 := ne_of_none h3 hp4
    have n4 : p4 ≠ a := hP3.ne hp4
    have f4 : H p4 = none := o3.fre hp4
    have o5 : Okp a H (L2.upd H3 p4 (.lst [])) := o3.nw hp4
    have h52 := uk (u := .lst []) h32 hp4
    have h53 := uk (u := .lst []) h3 hp4
    have h54 : (L2.upd H3 p4 (.lst [])) p4 = some (.lst []) := upd_same
    have s5 := TK.nw (o := .lst []) hp4 _ _ s3
    generalize (L2.upd H3 p4 (.lst [])) = H5 at o5 h52 h53 h54 s5 ⊢
    clear s3 s2 hss h32 h3 hp4 hp2 o3 o2 bt3 bt1 hP1 hP3 h1 fr1 fr3 os hPs
    refine ⟨_, rfl, _, rfl, p2, qs, _, _, rfl, SqL.of h52, SqT.of s5, for_zipM (K := K) (l := p2) (t := qs) (xs := ns.map V.str) (ys := sz.map fun (n : Nat) => V.int (n : Int)) (by rw [List.length_map, List.length_map]; omega)
      (fun j σ H' => ∃ (v5 v6 v7 : Option V) (vs : List V) (ts : List TV), σ = [some (.ref a), some (.ref qs), some (.ref p2), some (.ref p3), some (.ref p4), v5, v6, v7, none, none] ∧ Okp a H H' ∧ H' p2 = some (.lst (ns.map V.str)) ∧ H' p3 = some (.lst (vl.map V.str)) ∧
        H' p4 = some (.lst vs) ∧ H' qs = some (.tup (sz.map fun (n : Nat) => V.int (n : Int))) ∧ Paired (Thing H') vs ts ∧ nms ts = ns.take j ∧ (ts.map fun t => t.2.length) = sz.take j ∧ ∀ t ∈ ts, GoodT t)
      ⟨none, none, none, [], [], rfl, o5, h52, h53, h54, s5, .nil, rfl, rfl, by simp⟩ (fun j σ H' ⟨_, _, _, _, _, _, _, e2, _, _, e3, _⟩ => ⟨SqL.of e2, SqT.of e3⟩) ?_ ?_⟩
    · rintro j x y q σ H' hx hy ⟨v5, v6, v7, vs, ts, rfl, oj, hj2, hj3, hj4, hjs, pj, nj, wj, gj⟩ hq
      rw [List.getElem?_map] at hx hy
      have hj7 : j < ns.length := by
        rcases Nat.lt_or_ge j ns.length with h | h
        · exact h
        · rw [List.getElem?_eq_none h] at hx
          cases hx
      have hjz : j < sz.length := by
        rcases Nat.lt_or_ge j sz.length with h | h
        · exact h
        · rw [List.getElem?_eq_none h] at hy
          cases hy
      rw [List.getElem?_eq_getElem hj7] at hx
      rw [List.getElem?_eq_getElem hjz] at hy
      obtain rfl : V.str ns[j] = x := Option.some.inj hx
      obtain rfl : V.int (sz[j] : Int) = y := Option.some.inj hy
      have b2 := sb _ (List.getElem_mem hjz)
      have lvs : vs.length = j := by
        rw [pj.length]
        have e := congrArg List.length nj
        rw [nms, List.length_map, List.length_take] at e
        omega
      have oq : Okp a H (L2.upd H' q (.tup [.str ns[j], .int (sz[j] : Int)])) := oj.nw hq
      refine ⟨q, _, rfl, SqT.of upd_same, rfl, _, _, rfl, _, _, rfl, rfl, ?_⟩
      have kq2 := uk (u := .tup [.str ns[j], .int (sz[j] : Int)]) hj2 hq
      have kq3 := uk (u := .tup [.str ns[j], .int (sz[j] : Int)]) hj3 hq
      have kq4 := uk (u := .tup [.str ns[j], .int (sz[j] : Int)]) hj4 hq
      refine ⟨_, rfl, _, rfl, _, _, rfl, rfl, a, _, rfl, oq.p, by omega, by omega, fun H7 d bt7 hP7 d0 d1 => ?_⟩
      obtain ⟨dn, rfl⟩ : ∃ dn : Nat, d = dn := ⟨d.toNat, by omega⟩
      have o7 := oq.st bt7 hP7
      refine ⟨_, rfl, .inl ⟨rfl, _, SqL.of (bt7 _ _ n4 kq4)⟩, _, rfl, _, rfl, _, rfl, (dn : Int), rfl, _, rfl, _, rfl, _, _, rfl, rfl, ((dn + sz[j] : Nat) : Int), congrArg V.int (by omega), p3, _, rfl, SqL.of (bt7 _ _ n3 kq3), fun q1 hq1 => ?_⟩
      rw [cut_mid _ _ _ (Nat.le_add_right _ _), Nat.add_sub_cancel_left]
      refine ⟨q1, _, rfl, .inl ⟨SqL.of upd_same, fun q2 hq2 => ?_⟩⟩
      refine ⟨(by show 2 ≤ sizeLine; decide), fun q3 hq3 => ?_⟩
      obtain ⟨pc, hpc⟩ : ∃ pc, pc = (vl.drop dn).take sz[j] := ⟨_, rfl⟩
      rw [← hpc] at hq2 hq3 ⊢
      have k2 := uk (u := .tup [.str ns[j], .ref q2]) (uk (u := .tup (pc.map V.str)) (uk (u := .lst (pc.map V.str)) (bt7 _ _ n2 kq2) hq1) hq2) hq3
      have k3 := uk (u := .tup [.str ns[j], .ref q2]) (uk (u := .tup (pc.map V.str)) (uk (u := .lst (pc.map V.str)) (bt7 _ _ n3 kq3) hq1) hq2) hq3
      have k4 := uk (u := .tup [.str ns[j], .ref q2]) (uk (u := .tup (pc.map V.str)) (uk (u := .lst (pc.map V.str)) (bt7 _ _ n4 kq4) hq1) hq2) hq3
      have tk : TK H' _ := ((((TK.nw (o := .tup [.str ns[j], .int (sz[j] : Int)]) hq).tr (TK.bt bt7 oq.p)).tr (TK.nw (o := .lst (pc.map V.str)) hq1)).tr (TK.nw (o := .tup (pc.map V.str)) hq2)).tr (TK.nw (o := .tup [.str ns[j], .ref q2]) hq3)
      have kq := uk (u := .tup [.str ns[j], .ref q2]) (upd_same (H := L2.upd H7 q1 (.lst (pc.map V.str))) (a := q2) (o := .tup (pc.map V.str))) hq3
      refine ⟨p4, vs, _, rfl, rfl, k4, sz4 (by omega : vs.length ≤ 7) (by decide), ?_⟩
      have tk' := tk.tr (TK.ls (o := .lst (vs ++ [.ref q3])) k4)
      refine ⟨_, _, _, vs ++ [.ref q3], ts ++ [(ns[j], pc)], rfl, (((o7.nw hq1).nw hq2).nw hq3).mu f4 n4, um k2 n24, um k3 n34, upd_same, tk' _ _ hjs, ?_, ?_, ?_, ?_⟩
      · exact (things_tk tk' pj).snoc ⟨q3, q2, rfl, TK.ls k4 _ _ upd_same, TK.ls k4 _ _ kq⟩
      · rw [nms, List.map_append, take_one hj7, ← nj]
        rfl
      · rw [List.map_append, take_one hjz, ← wj]
        show _ ++ [pc.length] = _
        rw [hpc, List.length_take, List.length_drop, Nat.min_eq_left (by omega)]
      · intro t ht
        rcases List.mem_append.mp ht with h | h
        · exact gj t h
        · have e := List.mem_singleton.mp h
          subst e
          rw [hpc]
          exact piece_good (gn _ (List.getElem_mem hj7)) gv nv b2.1 b2.2 (by omega)
    · rintro σ H' ⟨v5, v6, v7, vs, ts, rfl, oj, hj2, hj3, hj4, hjs, pj, nj, wj, gj⟩
      rw [List.length_map] at nj wj
      rw [List.take_length] at wj
      have lts : ts.length ≤ 3 := by
        have e := congrArg List.length nj
        rw [nms, List.length_map, List.length_take] at e
        omega
      have wts : waysN ts ≤ 12 := by
        unfold waysN
        rw [wj]
        exact sw
      clear hjs
      refine ⟨Nat.zero_le _, fun p8 hp8 => ?_⟩
      have n28 : p2 ≠ p8 := ne_of_none hj2 hp8
      have n38 : p3 ≠ p8 := ne_of_none hj3 hp8
      have n48 : p4 ≠ p8 := ne_of_none hj4 hp8
      have n8 : p8 ≠ a := oj.p.ne hp8
      have f8 : H p8 = none := oj.fre hp8
      have o8 : Okp a H (L2.upd H' p8 (.lst [])) := oj.nw hp8
      have h82 := uk (u := .lst []) hj2 hp8
      have h83 := uk (u := .lst []) hj3 hp8
      have h84 := uk (u := .lst []) hj4 hp8
      have h88 : (L2.upd H' p8 (.lst [])) p8 = some (.lst []) := upd_same
      have pj8 := things_tk (TK.nw (o := .lst []) hp8) pj
      generalize (L2.upd H' p8 (.lst [])) = H8 at o8 h82 h83 h84 h88 pj8 ⊢
      refine ⟨_, rfl, 3, rfl, _, rfl, a, 4, rfl, o8.p, by decide, by decide, fun H9 m bt9 hP9 m0 m1 => ?_⟩
      obtain ⟨mn, rfl⟩ : ∃ mn : Nat, m = mn := ⟨m.toNat, by omega⟩
      have o9 := o8.st bt9 hP9
      refine ⟨_, _, rfl, rfl, ((4 + mn : Nat) : Int), congrArg V.int (by omega), p2, _, rfl, SqL.of (bt9 _ _ n2 h82), fun r hr9 => ?_⟩
      rw [show (3 : Int) = ((3 : Nat) : Int) from rfl, cut_mid ns 3 (4 + mn) (by omega)]
      obtain ⟨ms, hms⟩ : ∃ ms, ms = (ns.drop 3).take (4 + mn - 3) := ⟨_, rfl⟩
      have lms : ms.length = 1 + mn := by rw [hms, List.length_take, List.length_drop]; omega
      have sms : List.Sublist ms (ns.drop 3) := by rw [hms]; exact List.take_sublist ..
      rw [← hms]
      have nr : r ≠ a := o9.p.ne hr9
      have or : Okp a H (L2.upd H9 r (.lst (ms.map V.str))) := o9.nw hr9
      have n8r : p8 ≠ r := ne_of_none (bt9 _ _ n8 h88) hr9
      refine ⟨r, rfl, ⟨_, SqL.of upd_same⟩, for_list (K := K) (a := r) (xs := ms.map V.str)
        (fun i σ H'' => ∃ (v5 v6 v7 u : Option V) (ws : List V) (us : List TV), σ = [some (.ref a), some (.ref qs), some (.ref p2), some (.ref p3), some (.ref p4), v5, v6, v7, some (.ref p8), u] ∧ Okp a H H'' ∧ H'' r = some (.lst (ms.map V.str)) ∧ H'' p3 = some (.lst (vl.map V.str)) ∧
          H'' p4 = some (.lst vs) ∧ H'' p8 = some (.lst ws) ∧ Paired (Thing H'') vs ts ∧ Paired (Thing H'') ws us ∧ nms us = ms.take i ∧ ∀ t ∈ us, GoodT t)
        ⟨v5, v6, v7, none, [], [], rfl, or, upd_same, uk (bt9 _ _ n3 h83) hr9, uk (bt9 _ _ n4 h84) hr9, uk (bt9 _ _ n8 h88) hr9, things_tk ((TK.bt bt9 o8.p).tr (TK.nw hr9)) pj8, .nil, rfl, by simp⟩ (fun i σ H'' _ ⟨_, _, _, _, _, _, _, _, e, _⟩ => SqL.of e) ?_ ?_⟩
      · rintro i y σ H'' hi ⟨v5, v6, v7, u, ws, us, rfl, oi, hi2, hi3, hi4, hi5, pi, qi, ni, gi⟩
        rw [List.getElem?_map] at hi
        have hi7 : i < ms.length := by
          rcases Nat.lt_or_ge i ms.length with h | h
          · exact h
          · rw [List.getElem?_eq_none h] at hi
            cases hi
        rw [List.getElem?_eq_getElem hi7] at hi
        obtain rfl : V.str ms[i] = y := Option.some.inj hi
        have gm : isNm ms[i] := gn _ (List.mem_of_mem_drop (sms.subset (List.getElem_mem hi7)))
        have lws : ws.length = i := by
          rw [qi.length]
          have e := congrArg List.length ni
          rw [nms, List.length_map, List.length_take] at e
          omega
        refine ⟨_, rfl, _, rfl, a, 2, rfl, oi.p, by decide, by decide, fun H9 e bt9 hP9 e0 e1 => ?_⟩
        obtain ⟨en, rfl⟩ : ∃ en : Nat, e = en := ⟨e.toNat, by omega⟩
        have o9 := oi.st bt9 hP9
        refine ⟨(en : Int), rfl, p3, _, rfl, SqL.of (bt9 _ _ n3 hi3), fun q0 hq0 => ?_⟩
        rw [cut_from]
        have o10 : Okp a H (L2.upd H9 q0 (.lst ((vl.drop en).map V.str))) := o9.nw hq0
        have n0 : q0 ≠ a := o9.p.ne hq0
        have g2 := uk (u := .lst ((vl.drop en).map V.str)) (bt9 _ _ nr hi2) hq0
        have g3 := uk (u := .lst ((vl.drop en).map V.str)) (bt9 _ _ n3 hi3) hq0
        have g4 := uk (u := .lst ((vl.drop en).map V.str)) (bt9 _ _ n4 hi4) hq0
        have g5 := uk (u := .lst ((vl.drop en).map V.str)) (bt9 _ _ n8 hi5) hq0
        have tk9 : TK H'' (L2.upd H9 q0 (.lst ((vl.drop en).map V.str))) := (TK.bt bt9 oi.p).tr (TK.nw hq0)
        refine ⟨_, rfl, .inl ⟨rfl, _, SqL.of g5⟩, _, rfl, _, rfl, _, rfl, a, 3, rfl, o10.p, by decide, by decide, fun H7 d bt7 hP7 d0 d1 => ?_⟩
        obtain ⟨dn, rfl⟩ : ∃ dn : Nat, d = dn := ⟨d.toNat, by omega⟩
        have o7 := o10.st bt7 hP7
        refine ⟨_, _, rfl, rfl, ((2 + dn : Nat) : Int), congrArg V.int (by omega), q0, _, rfl, SqL.of (bt7 _ _ n0 upd_same), fun q1 hq1 => ?_⟩
        rw [cut_to]
        refine ⟨q1, _, rfl, .inl ⟨SqL.of upd_same, fun q2 hq2 => ?_⟩⟩
        refine ⟨(by show 2 ≤ sizeLine; decide), fun q3 hq3 => ?_⟩
        obtain ⟨pc, hpc⟩ : ∃ pc, pc = (vl.drop en).take (2 + dn) := ⟨_, rfl⟩
        rw [← hpc] at hq2 hq3 ⊢
        have k2 := uk (u := .tup [.str ms[i], .ref q2]) (uk (u := .tup (pc.map V.str)) (uk (u := .lst (pc.map V.str)) (bt7 _ _ nr g2) hq1) hq2) hq3
        have k3 := uk (u := .tup [.str ms[i], .ref q2]) (uk (u := .tup (pc.map V.str)) (uk (u := .lst (pc.map V.str)) (bt7 _ _ n3 g3) hq1) hq2) hq3
        have k4 := uk (u := .tup [.str ms[i], .ref q2]) (uk (u := .tup (pc.map V.str)) (uk (u := .lst (pc.map V.str)) (bt7 _ _ n4 g4) hq1) hq2) hq3
        have k5 := uk (u := .tup [.str ms[i], .ref q2]) (uk (u := .tup (pc.map V.str)) (uk (u := .lst (pc.map V.str)) (bt7 _ _ n8 g5) hq1) hq2) hq3
        have tk : TK H'' _ := (((tk9.tr (TK.bt bt7 o10.p)).tr (TK.nw (o := .lst (pc.map V.str)) hq1)).tr (TK.nw (o := .tup (pc.map V.str)) hq2)).tr (TK.nw (o := .tup [.str ms[i], .ref q2]) hq3)
        have kq2 := uk (u := .tup [.str ms[i], .ref q2]) (upd_same (H := L2.upd H7 q1 (.lst (pc.map V.str))) (a := q2) (o := .tup (pc.map V.str))) hq3
        refine ⟨p8, ws, _, rfl, rfl, k5, sz4 (by omega : ws.length ≤ 7) (by decide), ?_⟩
        have tk' := tk.tr (TK.ls (o := .lst (ws ++ [.ref q3])) k5)
        refine ⟨_, _, _, _, ws ++ [.ref q3], us ++ [(ms[i], pc)], rfl, (((o7.nw hq1).nw hq2).nw hq3).mu f8 n8, um k2 (Ne.symm n8r), um k3 n38, um k4 n48, upd_same, things_tk tk' pi, ?_, ?_, ?_⟩
        · exact (things_tk tk' qi).snoc ⟨q3, q2, rfl, TK.ls k5 _ _ upd_same, TK.ls k5 _ _ kq2⟩
        · rw [nms, List.map_append, take_one hi7, ← ni]
          rfl
        · intro t ht
          rcases List.mem_append.mp ht with h | h
          · exact gi t h
          · have e := List.mem_singleton.mp h
            subst e
            rw [hpc]
            exact piece_good gm gv nv (by omega) (by omega) (by omega)
      · rintro σ H'' ⟨v5, v6, v7, u, ws, us, rfl, oi, hi2, hi3, hi4, hi5, pi, qi, ni, gi⟩
        rw [List.length_map, List.take_length] at ni
        have lus : us.length = 1 + mn := by
          have e := congrArg List.length ni
          rw [nms, List.length_map] at e
          omega
        refine ⟨_, rfl, p4, vs, rfl, .inl ⟨SqL.of hi4, fun t1 ht1 => ?_⟩⟩
        refine ⟨_, rfl, p8, ws, rfl, .inl ⟨SqL.of (uk hi5 ht1), fun t2 ht2 => ?_⟩⟩
        refine ⟨_, rfl, a, 6, rfl, ((oi.nw ht1).nw ht2).p, by decide, by decide, fun H10 hh bt10 hP10 hh0 hh1 => ⟨_, _, rfl, rfl, (by show 3 ≤ sizeLine; decide), fun t3 ht3 => ?_⟩⟩
        have o10 := ((oi.nw (o := .tup vs) ht1).nw (o := .tup ws) ht2).st bt10 hP10
        have tk : TK H'' (L2.upd H10 t3 (.tup [.ref t1, .ref t2, .int (1 + hh)])) := (((TK.nw (o := .tup vs) ht1).tr (TK.nw (o := .tup ws) ht2)).tr (TK.bt bt10 ((oi.nw ht1).nw ht2).p)).tr (TK.nw ht3)
        have tk2 : TK (L2.upd (L2.upd H'' t1 (.tup vs)) t2 (.tup ws)) (L2.upd H10 t3 (.tup [.ref t1, .ref t2, .int (1 + hh)])) := (TK.bt bt10 ((oi.nw ht1).nw ht2).p).tr (TK.nw ht3)
        refine k _ t3 ts us (1 + hh) (o10.nw ht3).b (o10.nw ht3).p ⟨t1, t2, upd_same, ⟨vs, tk2 _ _ (uk upd_same ht2), things_tk tk pi⟩, ⟨ws, tk2 _ _ upd_same, things_tk tk qi⟩⟩ ?_
        refine ⟨lts, by omega, by omega, gj, gi, ?_, ?_, wts, by omega, by omega, ?_⟩
        · rw [nj]
          exact pw.sublist (List.take_sublist ..)
        · rw [ni]
          exact pw.sublist (sms.trans (List.drop_sublist ..))
        · intro z hz hz2
          rw [nj] at hz
          rw [ni] at hz2
          have a1 : z ∈ ns.take 3 := (List.take_subset_take_left ns (by omega)) hz
          have a2 : z ∈ ns.drop 3 := sms.subset hz2
          have nd := nn
          rw [← List.take_append_drop 3 ns] at nd
          exact (List.nodup_append.mp nd).2.2 z a1 z a2 rfl
end
end Hr

/-! text B0 -/
set_option Elab.async false
set_option linter.all false
set_option maxRecDepth 100000
set_option maxHeartbeats 4000000
namespace Hr
open PySem L2
/-- a comprehension without ifs whose element leaves what stood: the new list holds out -/
theorem lc_sm {J : It} {n : Nat} {G : Hp → Prop} {Y : Nat → Hp → V → Hp → Prop} (w : Walk J n G Y) {g : TG} {te : TE} {vs : List Nat} {σ : L2.St} {H1 : Hp} {D : Addr} {Qd : Hp → Prop} (out : List V) (ln : out.length = n) (hz : n ≤ 100000) (hD : H1 D = none) (hG : ∀ H, Same H1 H → G H)
    (hs : ∀ i x y H H' (Kt : V → Hp → Prop), i < n → out[i]? = some y → Same H1 H → Y i H x H' → (∀ H4, Same H H4 → Kt y H4) → g x (wipe σ vs) H' fun σ2 H2 => wipe σ2 vs = wipe σ vs ∧ te σ2 H2 Kt)
    (hd : ∀ H, Same H1 H → H D = some (.lst out) → Qd H) :
    ∃ W : Nat → Nat → Hp → Prop, (∃ m, W 0 m (upd H1 D (.lst []))) ∧ ∀ i m H, W i m H →
      (J.stop i H ∧ Qd H) ∨ (J.go i H ∧ ∃ Nx : Hp → Prop, (∀ H', Nx H' → ∃ m', m' < m ∧ W (i + 1) m' H') ∧ ∀ x H', J.yld i H x H' → g x (wipe σ vs) H' fun σ2 H2 => wipe σ2 vs = wipe σ vs ∧ tYes σ2 H2 fun b H3 =>
        if b = true then te σ2 H3 fun y H4 => ∃ acc, H4 D = some (.lst acc) ∧ acc.length < sizeLine ∧ Nx (upd H4 D (.lst (acc ++ [y]))) else Nx H3) := by
  refine lc_it w (fun i H => Same H1 H ∧ H D = some (.lst (out.take i))) ⟨Same.nw Same.rf hD, upd_same⟩ (fun i H _ p => hG H p.1) (fun i x H H' hi p y => ?_) (fun H p => hd H p.1 (by rw [p.2, ← ln, List.take_length]))
  have hl : i < out.length := by omega
  refine hs i x out[i] H H' _ hi (List.getElem?_eq_getElem hl) p.1 y fun H4 s4 => ⟨out.take i, s4 _ _ p.2, ?_, ?_, ?_⟩
  · rw [List.length_take]
    exact Nat.lt_of_le_of_lt (Nat.le_trans (Nat.min_le_right _ _) (by rw [ln]; exact hz)) (by decide)
  · intro b o e
    rw [upd_ne (ne_of_none e hD)]
    exact s4 _ _ (p.1 _ _ e)
  · rw [upd_same, ← take_one hl]
theorem abc_all : ∀ c, c ∈ ABC.cps.toList ↔ 97 ≤ c ∧ c ≤ 122 := by
  intro c
  have e : ABC.cps.toList = [97, 98, 99, 100, 101, 102, 103, 104, 105, 106, 107, 108, 109, 110, 111, 112, 113, 114, 115, 116, 117, 118, 119, 120, 121, 122] := by decide +kernel
  rw [e]
  simp only [List.mem_cons, List.not_mem_nil, or_false]
  omega
theorem inV_strs (z : Str) : ∀ l : List Str, inV (.str z) (l.map V.str) = decide (z ∈ l)
  | [] => by simp [inV]
  | a :: l => by
    have ih := inV_strs z l
    unfold inV at ih ⊢
    rw [List.map_cons, List.any_cons, ih]
    show (a == z || decide (z ∈ l)) = _
    by_cases h : a = z
    · subst h
      simp
    · have h1 : (a == z) = false := by simpa using h
      have h2 : ¬ z = a := fun e => h e.symm
      rw [h1]
      simp [h2]
theorem flat_strs (l : List Str) : (l.map V.str).all flatV = true := by
  rw [List.all_map]
  exact List.all_eq_true.mpr fun _ _ => rfl
end Hr

/-! text B1 -/
set_option Elab.async false
set_option linter.all false
set_option maxRecDepth 100000
set_option maxHeartbeats 4000000
namespace Hr
open PySem L2
/-- no text, by its type -/
def NoStr (K : PySem.W.Frag) (H : Hp) (x : V) : Prop := ∃ t, TyX K H x t ∧ PySem.W.kitOne K t (.type "str") = some false
def spIsName (K : PySem.W.Frag) : Sp := fun vs H Q _ => ∃ x, vs = [x] ∧
  ((∃ z, x = .str z ∧ z.length ≤ 10000 ∧ ∀ H', Same H H' → Q (.bl (decide (isNm z))) H') ∨ (NoStr K H x ∧ ∀ H', Same H H' → Q (.bl false) H'))
/-- the constants of the module of names -/
structure Cns (K : PySem.W.Frag) (mg : Str → Option Value) : Prop where
  isi : mg "isinstance" = none
  str : mg "str" = none
  int : mg "int" = none
  bool : mg "bool" = none
  tuple : mg "tuple" = none
  list : mg "list" = none
  len : mg "len" = none
  all : mg "all" = none
  any : mg "any" = none
  range : mg "range" = none
  set : mg "set" = none
  zip : mg "zip" = none
  most : ∃ t, mg "MOST_LETTERS" = some (.int 8 t)
  let_ : ∃ t, mg "LETTERS" = some (.str ABC t)
  wrd : ∃ a, mg "WORDS_OF_SAYINGS" = some (.ref a) ∧ ∀ H, SqT K H a (RES.map V.str)
section
variable {P : Program} {w : World} {K : PySem.W.Frag} {mg : Str → Option Value} {base : Heap} {f : Addr} {fd : FuncData}
abbrev nIsName : List Str := ["thing", "letter"]
theorem scIsName : FnScope nIsName ["thing"] (defScope s_is_name) := ⟨rfl, rfl, rfl, by decide +kernel, rfl, by decide +kernel, by decide +kernel⟩
theorem letters_all (z : Str) : ((z.cps.toList.map fun c => decide (c ∈ ABC.cps.toList)).all id) = decide (∀ c ∈ z.cps.toList, 97 ≤ c ∧ c ≤ 122) := by
  rw [List.all_map, Bool.eq_iff_iff, List.all_eq_true, decide_eq_true_iff]
  exact ⟨fun h c hc => (abc_all c).mp (of_decide_eq_true (h c hc)), fun h c hc => decide_eq_true ((abc_all c).mpr (h c hc))⟩
theorem nm_dec (z : Str) (h1 : 1 ≤ z.length) (h2 : z.length ≤ 8) : decide (isNm z) = (!decide (z ∈ RES) && decide (∀ c ∈ z.cps.toList, 97 ≤ c ∧ c ≤ 122)) := by
  rw [Bool.eq_iff_iff, decide_eq_true_iff, Bool.and_eq_true_iff]
  simp only [Bool.not_eq_true', decide_eq_false_iff_not, decide_eq_true_iff]
  exact ⟨fun h => ⟨h.2.2.2, h.2.2.1⟩, fun h => ⟨h1, h2, h.2, h.1⟩⟩
theorem ok_is_name (F : FnP K "is_name" s_is_name f fd) (C : Cns K mg) : FnOk P w K mg base CX0 1 f fd ["thing"] (spIsName K) := by
  refine F.ok scIsName (fun vs H Q E h => ?_) (fun cdv A outer s H vs Q E hr h => ?_)
  · obtain ⟨x, rfl, _⟩ := h
    rfl
  · obtain ⟨x, rfl, h⟩ := h
    obtain ⟨tm, gm⟩ := C.most
    obtain ⟨tl, gl⟩ := C.let_
    obtain ⟨aw, gw, sw⟩ := C.wrd
    refine ⟨_, PSs.nox (pss_cons (ps_if (PW.pt (pw_or (pt_not (pt_val (pe_callB call_isi (by rfl) C.isi (by decide +kernel) (pa_cons (pv 0) (pa_cons (pe_bltn (v := .ty "str") (by rfl) C.str (by decide +kernel) rfl) pa_nil)))))
        (pw_or1 (pt_not (pt_chain op_le op_le pe_int (pe_callB call_len_str (by rfl) C.len PySem.boot_len (pa_cons (pv 0) pa_nil)) (pe_glob (v := .int 8) rfl gm ⟨_, rfl⟩))))))
        (pss_one (ps_ret pe_bl)) pss_nil)
      (pss_one (ps_ret (pe_and (pe_cmpR op_notIn_seq (pv 0) (pe_glob (v := .ref aw) rfl gw rfl) (by rfl)) (pe_one (pe_callB (cr_all rfl) (by rfl) C.all (by decide +kernel)
        (pa_cons (pe_lc (own := [("letter", 1)]) (g := gName 1) (tt := tYes) rfl scIsName.nd (pi_str (pv 0)) (blkOk_by (N := nIsName) (sc := defScope s_is_name) (by decide +kernel)) (fun _ _ _ _ _ => pg_name (i := 1) scIsName.nd rfl (.inl rfl)) (fun _ _ _ _ _ => pts_nil)
          (fun _ _ _ _ _ => pe_cmpR op_in_sign (pv 1) (pe_glob (v := .str ABC) rfl gl ⟨_, rfl⟩) (by rfl))) pa_nil))))))), ?_⟩
    rcases h with ⟨z, rfl, hz, k⟩ | ⟨⟨t, ty, hk⟩, k⟩
    · have zl : z.length ≤ sizeLine := Nat.le_trans hz (by decide)
      refine ⟨_, rfl, .str z, .ty "str", _, _, true, rfl, .ty "str", .base (.str z), kit_ty (by decide +kernel), true, rfl, ?_⟩
      refine ⟨_, rfl, z, rfl, zl, _, _, rfl, rfl, _, rfl, ?_⟩
      refine ite2 (fun h1 => ?_) (fun h1 => ?_)
      · have h1 : (1 : Int) ≤ (z.length : Int) := of_decide_eq_true h1
        refine ⟨_, _, rfl, rfl, _, rfl, ?_⟩
        by_cases h2 : (z.length : Int) ≤ 8
        · rw [decide_eq_true h2]
          refine ⟨_, rfl, aw, _, rfl, .inr (sw H), rfl, flat_strs RES, _, rfl, ?_⟩
          show (if (!inV (.str z) (RES.map V.str)) = true then _ else _)
          rw [inV_strs]
          have nd := nm_dec z (by omega) (by omega)
          by_cases hr : z ∈ RES
          · rw [decide_eq_true hr] at nd ⊢
            refine iteF ?_
            have q := k H Same.rf
            rw [nd] at q
            exact q
          · rw [decide_eq_false hr] at nd ⊢
            refine iteT ⟨_, rfl, z, rfl, fun D hD => lc_sm walk_str ((z.cps.toList.map fun c => decide (c ∈ ABC.cps.toList)).map V.bl) (by simp) (by have e : z.cps.size = z.length := rfl; omega) hD (fun _ _ => trivial) ?_ ?_⟩
            · rintro i x y H2 H3 Kt hi hy s2 ⟨rfl, c, hc, rfl⟩ hk
              refine ⟨rfl, _, rfl, c, ABC, rfl, rfl, ?_⟩
              have e : y = V.bl (decide (c ∈ ABC.cps.toList)) := by
                have hc' : z.cps.toList[i]? = some c := by rw [← hc, Array.getElem?_toList]
                rw [List.getElem?_map, List.getElem?_map, hc'] at hy
                exact (Option.some.inj hy).symm
              subst e
              exact hk _ Same.rf
            · intro H2 s2 hD2
              refine ⟨D, _, rfl, SqL.of hD2, ?_⟩
              have q := k H2 s2
              rw [nd, ← letters_all z] at q
              exact q
        · rw [decide_eq_false h2]
          have nn : ¬ isNm z := fun h => h2 (by have := h.2.1; omega)
          have q := k H Same.rf
          rw [decide_eq_false nn] at q
          exact q
      · have h1 : ¬ (1 : Int) ≤ (z.length : Int) := fun e => h1 (decide_eq_true e)
        have nn : ¬ isNm z := fun h => h1 (by have := h.1; omega)
        have q := k H Same.rf
        rw [decide_eq_false nn] at q
        exact ⟨_, rfl, q⟩
    · exact ⟨_, rfl, x, .ty "str", _, _, false, rfl, .ty "str", ty, hk, false, rfl, k H Same.rf⟩
end
end Hr

/-! text Z2 -/
set_option Elab.async false
set_option linter.all false
set_option maxRecDepth 100000
set_option maxHeartbeats 8000000
namespace Hr
open PySem PySem.Spec PyProof.Rows L2
/-- unlike texts, as a set takes them in -/
def dstep (l : List Str) (z : Str) : List Str := if l.any (· == z) = true then l else l ++ [z]
def dd (l : List Str) : List Str := l.foldl dstep []
theorem dd_snoc (l : List Str) (z : Str) : dd (l ++ [z]) = dstep (dd l) z := by unfold dd; rw [List.foldl_append]; rfl
theorem dstep_any (l : List Str) (z k : Str) : (dstep l z).any (· == k) = (l.any (· == k) || decide (k = z)) := by
  unfold dstep
  by_cases h : l.any (· == z) = true
  · rw [if_pos h]
    by_cases e : k = z
    · rw [e, h]
      rfl
    · rw [decide_eq_false e, Bool.or_false]
  · rw [if_neg h, List.any_append]
    have q : [z].any (· == k) = decide (k = z) := by
      by_cases e : k = z
      · rw [decide_eq_true e, e]
        simp
      · rw [decide_eq_false e]
        have e' : ¬ z = k := fun w => e w.symm
        simp [e']
    rw [q]
theorem dstep_len (l : List Str) (z : Str) : (dstep l z).length = if l.any (· == z) = true then l.length else l.length + 1 := by
  unfold dstep
  split <;> simp
theorem dd_len : ∀ (l : List Str) (n : Nat), (dd (l.take n)).length ≤ n
  | l, 0 => by simp [dd]
  | l, n + 1 => by
    have ih := dd_len l n
    rcases Nat.lt_or_ge n l.length with h | h
    · rw [List.take_add_one, List.getElem?_eq_getElem h]
      show (dd (l.take n ++ [l[n]])).length ≤ _
      rw [dd_snoc, dstep_len]
      split <;> omega
    · rw [List.take_of_length_le (Nat.le_succ_of_le h)]
      rw [List.take_of_length_le h] at ih
      omega
theorem rev_ind {P : List Str → Prop} (h0 : P []) (hs : ∀ l z, P l → P (l ++ [z])) (l : List Str) : P l := by
  have key : ∀ m : List Str, P m.reverse := by
    intro m
    induction m with
    | nil => exact h0
    | cons z m ih =>
      rw [List.reverse_cons]
      exact hs _ _ ih
  have q := key l.reverse
  rw [List.reverse_reverse] at q
  exact q
theorem dd_mem : ∀ (l : List Str) (k : Str), (dd l).any (· == k) = decide (k ∈ l) := by
  refine rev_ind (fun k => by simp [dd]) fun l z ih k => ?_
  rw [dd_snoc, dstep_any, ih]
  by_cases h : k ∈ l <;> by_cases e : k = z <;> simp [h, e]
theorem dd_nodup : ∀ {l : List Str}, l.Nodup → dd l = l := by
  refine @rev_ind (fun l => l.Nodup → dd l = l) (fun _ => rfl) fun l z ih h => ?_
  · have h' := List.nodup_append.mp h
    rw [dd_snoc, ih h'.1]
    unfold dstep
    have nz : ¬ l.any (· == z) = true := by
      rw [← ih h'.1, dd_mem]
      intro q
      exact h'.2.2 z (of_decide_eq_true q) z (List.mem_singleton.mpr rfl) rfl
    rw [if_neg nz]
section
variable {prog : Program} {w : World} {A : Around} {R : Result → Shared → Prop} {it : Addr} {fp wr : List Addr} {G : Array GenState → Array GenState → Prop} {n : Nat} {P : Nat → Value → Prop} {St : Nat → Shared → Prop}
theorem in_loop (W : WalksS prog w A.in1 it fp wr G n P St) (a : Addr) (ha : a ∉ fp) (l : List Str) (ln : l.length = n) (hb : n + 1 < scanBound) (hv : ∀ i v, P i v → ∃ t, v = .str (l.getD i Str.empty) t) :
    ∀ (m i : Nat) (s : Shared), m + i = n → St i s → s.heap.SetOf (PySem.strKind prog w) a (fun k => (dd (l.take i)).any (· == k)) (dd (l.take i)).length →
      (∀ s', Moved (a :: wr) G s s' → s'.heap.SetOf (PySem.strKind prog w) a (fun k => (dd l).any (· == k)) (dd l).length → R (.ok (.ret .none)) s') →
      codeAny (model prog w) A (.builtin "set.update.loop" ⟨[.ref a, .ref it], []⟩) R s := by
  have aw : a ∉ wr := fun q => ha (W.sub _ q)
  have up : ∀ b ∈ wr, b ∈ a :: wr := fun b q => List.mem_cons_of_mem _ q
  intro m
  induction m with
  | zero =>
    intro i s hm st hS hR
    obtain rfl : i = n := by omega
    apply codeAny_builtin PyProof.Rows.F.entry_set_update_loop
    rw [A.under_plainId PyProof.Rows.F.plain_set_update_loop]
    refine wpAny_bind (m := pyNext (.ref it)) (W.done s _ _ st fun s' mv => ?_)
    show wpAny _ _ (ret (Value.none)) _ _ s'
    refine wpAny_pure (hR s' (mv.mono up) ?_)
    rw [← ln, List.take_length] at hS
    obtain ⟨o, es, ep, tb, ho, more⟩ := hS
    exact ⟨o, es, ep, tb, mv.heap a _ aw ho, more⟩
  | succ m ih =>
    intro i s hm st hS hR
    have lt : i < n := by omega
    apply codeAny_builtin PyProof.Rows.F.entry_set_update_loop
    rw [A.under_plainId PyProof.Rows.F.plain_set_update_loop]
    refine wpAny_bind (m := pyNext (.ref it)) (W.item i s _ _ lt st fun v s' hp st' mv => ?_)
    obtain ⟨t, rfl⟩ := hv i v hp
    have hS1 : s'.heap.SetOf (PySem.strKind prog w) a (fun k => (dd (l.take i)).any (· == k)) (dd (l.take i)).length := by
      obtain ⟨o, es, ep, tb, ho, more⟩ := hS
      exact ⟨o, es, ep, tb, mv.heap a _ aw ho, more⟩
    generalize hz : l.getD i Str.empty = z at *
    refine wpAny_bind (m := holding [Value.str z t] (setAdd a (.str z t))) (wpAny_holding ?_)
    unfold setAdd
    refine wpAny_holding (wpAny_bind ((PySem.strKind prog w).pyHash (k := z) (strKind_is _ _ _ _) ?_))
    have room : (dd (l.take i)).length + 1 < scanBound := by have := dd_len l i; omega
    refine wpAny_setAddHashed_of (knd := PySem.strKind prog w) (s := { s' with toks := s'.toks + 1 }) (strKind_is _ _ _ _) rfl hS1 room fun h' sb hS2 => ?_
    have e1 : l.take (i + 1) = l.take i ++ [z] := by
      have q : i < l.length := by omega
      rw [List.take_add_one, List.getElem?_eq_getElem q, ← hz, List.getD_eq_getElem?_getD, List.getElem?_eq_getElem q]
      rfl
    have hS3 : h'.SetOf (PySem.strKind prog w) a (fun k => (dd (l.take (i + 1))).any (· == k)) (dd (l.take (i + 1))).length :=
      SetOf_congr hS2 (fun k => by rw [e1, dd_snoc, dstep_any]) (by rw [e1, dd_snoc, dstep_len])
    refine wpAny_pure ⟨plainId_quiet PyProof.Rows.F.plain_set_update_loop _, ih (i + 1) _ (by omega) (W.frame _ s' _ _ st' (Nat.le_succ _) fun b q o e => ?_) hS3 fun s2 mv2 hS4 => hR s2 (Moved.trans W.gtrans ((mv.mono up).then_heap (Nat.le_succ _) fun b o q e => ?_) mv2) hS4⟩
    · rw [sb.2 b fun z => ha (z ▸ q)]
      exact e
    · rw [sb.2 b fun z => q (z ▸ List.mem_cons_self)]
      exact e
end
abbrev newSet (led : Bool) : Obj := { cls := .type "set", dict := none, data := .set #[] 0 (.fresh 0 0 led) }
section
variable {prog : Program} {w : World} {A : Around} {E : Value → Shared → Prop} {s : Shared}
/-- what set(t) leaves of a tuple of texts -/
def SetEnd (prog : Program) (w : World) (s : Shared) (l : List Str) (h' : Heap) : Prop :=
  h'.SetOf (PySem.strKind prog w) s.heap.objs.size (fun k => (dd l).any (· == k)) (dd l).length ∧ ∀ b o, b < s.heap.objs.size → s.heap.get? b = some o → h'.get? b = some o
theorem set_tup {t : Addr} {its : Array Value} {l : List Str} {Q : Value → Shared → Prop} (hh : A.handled = none) (ht : s.heap.IsTuple t its) (hi : StrsAre its.toList l) (hb : l.length + 1 < scanBound)
    (k : ∀ (h' : Heap) (tk : Nat), SetEnd prog w s l h' → Q (.ref s.heap.objs.size) { s with heap := h', toks := tk }) : wpAny (model prog w) A (call (.type "set") [.ref t]) Q E s := by
  obtain ⟨_, _, mro⟩ := PySem.F.called_set.mro
  have made := PySem.F.called_set.made
  have sub := PySem.F.called_set.sub
  refine wpAny_call (codeAny_of_tree (show wpAny _ _ (callAny (.type "set") _) _ _ _ from wpAny_pure ⟨Code.quiet_builtin _ (by decide +kernel), codeAny_builtin PySem.F.entry_type_call ?_⟩))
  rw [Around.under_plain (weight_type_call_type "set" [.ref t] []) rfl]
  have nt := PySem.F.called_set.notType
  have cc := PySem.F.called_set.canCreate
  have ct := PySem.F.typeCall_set_1 (.ref t)
  repeat (any_goals (first | assumption | wp_step))
  refine codeAny_mono (code_set_new_1 (.ref t) (E := E) (Q₁ := fun x s1 => ∃ led : Bool, x = .ref s.heap.objs.size ∧ s1 = { s with heap := s.heap.push (newSet led) }) fun led => ⟨led, rfl, rfl⟩) fun r s1 hr => ?_
  cases r with
  | error e => exact hr
  | ok fl =>
    cases fl with
    | ret x =>
      obtain ⟨led, rfl, rfl⟩ := hr
      have hS : (s.heap.push (newSet led)).get? s.heap.objs.size = some (newSet led) := Heap.get?_push_size _ rfl
      have hT : Shared.TypeIs { s with heap := s.heap.push (newSet led) } (.ref s.heap.objs.size) "set" := ⟨_, hS, rfl⟩
      have li := PySem.F.called_set.init.lookup
      have bi := PySem.F.called_set.init.bind (.ref s.heap.objs.size)
      repeat (any_goals (first | assumption | wp_step))
      refine codeAny_mono (codeAny_call_builtin (R := wants (fun r s2 => r = .none ∧ ∃ h' tk, s2 = { s with heap := h', toks := tk } ∧ SetEnd prog w s l h') E) PySem.F.called_set.init.plain PySem.F.entry_set_init (check_set_init_1 hT ?_)) fun r2 s2 hr2 => ?_
      · obtain ⟨⟨ocls, odict, odata, oslots⟩, hol, hcl, nl, hdl⟩ := ht
        simp only at hcl hdl
        subst hcl hdl
        have hol1 : (s.heap.push (newSet led)).get? t = some { cls := .type "tuple", dict := odict, data := .seq its nl, slots := oslots } := Heap.get?_push_of_some _ hol
        have s1 := PySem.F.sub_tuple_set
        have s2 := PySem.F.sub_tuple_frozenset
        have ne : (Value.type "tuple" == Value.type "dict") = false := by decide
        have ht1 : (s.heap.push (newSet led)).IsTuple t its := ⟨_, hol1, rfl, nl, rfl⟩
        unfold Builtin.«set.__init__» noKeywords Builtin.Frozenset.updateFrom
        generalize hPI : pyIter = PI
        wp_walk
        subst hPI
        refine wpAny_pyIter_tuple ht1 (wpAny_bind (wpAny_runValue ?_))
        have lS : t < s.heap.objs.size := Heap.lt_size hol
        have h3 : A.in1.in1.in1.handled = none := by simp [hh]
        have ll : l.length = its.size := by rw [← StrsAre.len_eq hi, Array.length_toList]
        have sz : (s.heap.push (newSet led)).objs.size = s.heap.objs.size + 1 := Heap.size_push ..
        have nI : t ≠ (s.heap.push (newSet led)).objs.size := by rw [sz]; exact Nat.ne_of_lt (Nat.lt_succ_of_lt lS)
        have nS : s.heap.objs.size ∉ [(s.heap.push (newSet led)).objs.size, t] := by
          rw [sz]
          simp only [List.mem_cons, List.not_mem_nil, or_false, not_or]
          exact ⟨Nat.ne_of_lt (Nat.lt_succ_self _), Ne.symm (Nat.ne_of_lt lS)⟩
        refine in_loop ((Walks.tuple h3 _ t nI its).toS) s.heap.objs.size nS l ll (by rw [← ll]; exact hb) (fun i v hv => SS.strs_at hi i v (by rw [Array.getElem?_toList]; exact hv)) its.size 0 _ (by omega)
          ⟨⟨_, Heap.get?_push_size _ rfl, rfl, rfl⟩, (ht1.push _)⟩ ?s0 ?sR
        case s0 =>
          exact SetOf_congr ((setObjOf_fresh (knd := PySem.strKind prog w) led).setOf (Heap.get?_push_of_some _ hS) (by unfold scanBound; omega)) (fun _ => rfl) rfl
        case sR =>
          intro s' mv hS'
          obtain ⟨h', g', d', tk', os'⟩ := s'
          obtain rfl : g' = s.gens := mv.gens
          obtain rfl : d' = s.drawn := mv.drawn
          obtain rfl : os' = s.os := mv.os
          show wpAny _ _ _ _ _ _
          refine wpAny_pure ?_
          show wpAny _ _ (ret (Value.none)) _ _ _
          refine wpAny_pure ⟨rfl, h', tk', rfl, hS', fun b o hb e => mv.heap b o ?_ (Heap.get?_push_of_some _ (Heap.get?_push_of_some _ e))⟩
          rw [sz]
          simp only [List.mem_cons, List.not_mem_nil, or_false, not_or]
          exact ⟨Nat.ne_of_lt hb, Nat.ne_of_lt (Nat.lt_succ_of_lt hb)⟩
      · cases r2 with
        | error e => exact hr2
        | ok fl2 =>
          cases fl2 with
          | ret r =>
            obtain ⟨rfl, h', tk, rfl, hE⟩ := hr2
            repeat (any_goals (first | assumption | wp_step))
            exact k _ _ hE
          | _ => exact hr2.elim
    | _ => exact hr.elim
end
/-- len(set(t)), t a tuple of texts -/
def tLenSetT (K : PySem.W.Frag) (ta : TE) : TE := fun σ H Q => ta σ H fun x H1 => ∃ t l, x = .ref t ∧ SqT K H1 t (l.map V.str) ∧ l.length ≤ 1000 ∧ Q (.int ((dd l).length : Nat)) H1
theorem pe_lenSetT {X : Cx} {a : Expr} {ta : TE} {p p2 q pos : Pos} (hc : X.calm = true) (hg : Gl X "len") (hm : X.mg "len" = none) (hg2 : Gl X "set") (hm2 : X.mg "set" = none) (ha : PE X a ta)
    (na : starEach [a] X.env = (false, eval a X.env) :: starEach [] X.env := by rfl) : PE X (.Call (.Name "len" p) [.Call (.Name "set" p2) [a] [] q] [] pos) (tLenSetT X.K ta) := by
  refine ⟨fun pins s σ H Q I h => Call_ (ld_blt I hg hm boot_len (PyProof.Rows.callWith_builtin1 (PyProof.Rows.args_cons (Call_ (ld_blt I hg2 hm2 boot_set ?_)) rfl) rfl rfl))⟩
  refine PyProof.Rows.callWith_type1 (PyProof.Rows.args_cons (thn (ha.run pins s σ H _ I h) fun v s1 w => PyProof.Rows.args_nil ?_) na) na rfl
  obtain ⟨x, H1, I1, r1, t, l, rfl, ht, hl, k⟩ := w
  cases r1
  obtain ⟨its, r, pt, _⟩ := I1.tuple ht
  refine set_tup (I1.ok.hd hc) pt (l := l) (by simpa using strsAre_of r) (by unfold scanBound; omega) fun h' tk hE => PyProof.Rows.args_nil ?_
  obtain ⟨⟨o, es, ep, tb, ho, hex, hd, _, _, _, hf, hn⟩, kp⟩ := hE
  have I2 : Inv X pins σ H1 { s1 with heap := h', toks := tk } := I1.kept fun b o e => kp b o (Heap.lt_size e) e
  have dl := dd_len l l.length
  rw [List.take_length] at dl
  exact call_len_set ho hex hd hf (by rw [hn] <;> omega) ⟨.int ((dd l).length : Nat), H1, I2.tok _, ⟨_, by rw [hn]⟩, k⟩
end Hr

/-! text B2 -/
set_option Elab.async false
set_option linter.all false
set_option maxRecDepth 100000
set_option maxHeartbeats 4000000
namespace Hr
open PySem L2
def spWhole : Sp := fun vs H Q _ => ∃ h l m : Int, vs = [.int h, .int l, .int m] ∧ l ≤ h ∧ h ≤ m ∧ Q (.bl true) H
def spRow (K : PySem.W.Frag) : Sp := fun vs H Q _ => ∃ (p : Addr) (xs : List V) (l m : Int), vs = [.ref p, .int l, .int m] ∧ H p = some (.tup xs) ∧ l ≤ xs.length ∧ (xs.length : Int) ≤ m ∧ Q (.bl true) H
def spRising (K : PySem.W.Frag) : Sp := fun vs H Q _ => ∃ (p : Addr) (l : List Str), vs = [.ref p] ∧ H p = some (.lst (l.map V.str)) ∧ l.length ≤ 1000 ∧ l.Pairwise ltS ∧ ∀ H', Same H H' → Q (.bl true) H'
def spNamesOf : Sp := fun vs H Q _ => ∃ (p : Addr) (ts : List TV), vs = [.ref p] ∧ Things H p ts ∧ ts.length ≤ 1000 ∧ ∀ H' q, Same H H' → H q = none → H' q = some (.lst ((nms ts).map V.str)) → Q (.ref q) H'
def spValues : Sp := fun vs H Q _ => ∃ (p : Addr) (l : List Str), vs = [.ref p] ∧ H p = some (.tup (l.map V.str)) ∧ (∀ z ∈ l, isNm z) ∧ l.Nodup ∧ 2 ≤ l.length ∧ l.length ≤ 4 ∧ ∀ H', Same H H' → Q (.bl true) H'
def spIsThing : Sp := fun vs H Q _ => ∃ (v : V) (t : TV), vs = [v] ∧ Thing H v t ∧ GoodT t ∧ ∀ H', Same H H' → Q (.bl true) H'
def spThings : Sp := fun vs H Q _ => ∃ (p : Addr) (ts : List TV) (l m : Int), vs = [.ref p, .int l, .int m] ∧ Things H p ts ∧ (∀ t ∈ ts, GoodT t) ∧ (nms ts).Pairwise ltS ∧ l ≤ ts.length ∧ (ts.length : Int) ≤ m ∧ ts.length ≤ 1000 ∧ ∀ H', Same H H' → Q (.bl true) H'
def spWays : Sp := fun vs H Q _ => ∃ (p : Addr) (ts : List TV), vs = [.ref p] ∧ Things H p ts ∧ ts.length ≤ 3 ∧ (∀ t ∈ ts, t.2.length ≤ 4) ∧ Q (.int (waysN ts : Nat)) H
def spShare : Sp := fun vs H Q _ => ∃ (p q : Addr) (ts us : List TV), vs = [.ref p, .ref q] ∧ Things H p ts ∧ Things H q us ∧ ts.length ≤ 1000 ∧ us.length ≤ 1000 ∧ (∀ z ∈ nms ts, z ∉ nms us) ∧ ∀ H', Same H H' → Q (.bl false) H'
structure HCns (K : PySem.W.Frag) (mg : Str → Option Value) : Prop where
  mo : ∃ t, mg "MOST_OUTER" = some (.int 3 t)
  mi : ∃ t, mg "MOST_INNER" = some (.int 4 t)
  lv : ∃ t, mg "LEAST_VALUES" = some (.int 2 t)
  mv : ∃ t, mg "MOST_VALUES" = some (.int 4 t)
  mw : ∃ t, mg "MOST_WAYS" = some (.int 12 t)
  mh : ∃ t, mg "MOST_HOURS" = some (.int 6 t)
theorem all_true {α : Type} (l : List α) : (l.map fun _ => true).all id = true := by
  rw [List.all_map]
  exact List.all_eq_true.mpr fun _ _ => rfl
theorem any_false {α : Type} (l : List α) : (l.map fun _ => false).any id = false := by
  rw [List.any_map]
  exact List.any_eq_false.mpr fun _ _ h => Bool.noConfusion h
theorem paired_ix {α β : Type} {F : α → β → Prop} : ∀ {l : List α} {m : List β}, Paired F l m → ∀ {j : Nat} {x : α}, l[j]? = some x → ∃ y, m[j]? = some y ∧ F x y
  | _, _, .nil, j, x, h => by simp at h
  | _, _, .cons h t, 0, x, e => by
    cases e
    exact ⟨_, rfl, h⟩
  | _, _, .cons h t, j + 1, x, e => paired_ix t (j := j) e
section
variable {P : Program} {w : World} {K : PySem.W.Frag} {mg : Str → Option Value} {base : Heap} {f : Addr} {fd : FuncData}
theorem scWhole : FnScope ["thing", "least", "most"] ["thing", "least", "most"] (defScope s_is_whole) := ⟨rfl, rfl, rfl, by decide +kernel, rfl, by decide +kernel, by decide +kernel⟩
theorem ok_is_whole (F : FnP K "is_whole" s_is_whole f fd) (C : Cns K mg) : FnOk P w K mg base CX0 1 f fd ["thing", "least", "most"] spWhole := by
  refine F.ok scWhole (fun vs H Q E h => ?_) (fun cdv A outer s H vs Q E hr h => ?_)
  · obtain ⟨h, l, m, rfl, _⟩ := h
    rfl
  · obtain ⟨h, l, m, rfl, h1, h2, k⟩ := h
    refine ⟨_, PSs.nox (pss_one (ps_ret (pe_and (pe_callB call_isi (by rfl) C.isi (by decide +kernel) (pa_cons (pv 0) (pa_cons (pe_bltn (v := .ty "int") (by rfl) C.int (by decide +kernel) rfl) pa_nil)))
      (pe_and (pe_not (pe_callB call_isi (by rfl) C.isi (by decide +kernel) (pa_cons (pv 0) (pa_cons (pe_bltn (v := .ty "bool") (by rfl) C.bool (by decide +kernel) rfl) pa_nil))))
        (pe_one (pe_chain op_le op_le (pv 1) (pv 0) (pv 2))))))), ?_⟩
    refine ⟨_, rfl, .int h, .ty "int", _, _, true, rfl, .ty "int", .base (.int h), kit_ty (by decide +kernel), true, rfl, ?_⟩
    refine iteT ⟨_, rfl, .int h, .ty "bool", _, _, false, rfl, .ty "bool", .base (.int h), kit_ty (by decide +kernel), false, rfl, true, rfl, iteT ?_⟩
    refine ⟨_, rfl, _, rfl, _, _, rfl, rfl, _, rfl, ?_⟩
    rw [decide_eq_true h1]
    refine iteT ⟨_, rfl, _, _, rfl, rfl, ?_⟩
    show Q (.bl (decide (h ≤ m))) H
    rw [decide_eq_true h2]
    exact k
theorem scRow : FnScope ["thing", "least", "most"] ["thing", "least", "most"] (defScope s_is_row) := ⟨rfl, rfl, rfl, by decide +kernel, rfl, by decide +kernel, by decide +kernel⟩
theorem ok_is_row (F : FnP K "is_row" s_is_row f fd) (C : Cns K mg) : FnOk P w K mg base CX0 1 f fd ["thing", "least", "most"] (spRow K) := by
  refine F.ok scRow (fun vs H Q E h => ?_) (fun cdv A outer s H vs Q E hr h => ?_)
  · obtain ⟨p, xs, l, m, rfl, _⟩ := h
    rfl
  · obtain ⟨p, xs, l, m, rfl, hp, h1, h2, k⟩ := h
    refine ⟨_, PSs.nox (pss_one (ps_ret (pe_and (pe_callB call_isi (by rfl) C.isi (by decide +kernel) (pa_cons (pv 0) (pa_cons (pe_bltn (v := .ty "tuple") (by rfl) C.tuple (by decide +kernel) rfl) pa_nil)))
        (pe_one (pe_chain op_le op_le (pv 1) (pe_callB call_len_seq (by rfl) C.len PySem.boot_len (pa_cons (pv 0) pa_nil)) (pv 2)))))), ?_⟩
    refine ⟨_, rfl, .ref p, .ty "tuple", _, _, true, rfl, .ty "tuple", .base (.tup hp), kit_ty (by decide +kernel), true, rfl, ?_⟩
    refine iteT ⟨_, rfl, _, rfl, p, _, rfl, .inr (SqT.of hp), _, _, rfl, rfl, _, rfl, ?_⟩
    rw [decide_eq_true h1]
    refine iteT ⟨_, rfl, _, _, rfl, rfl, ?_⟩
    show Q (.bl (decide ((xs.length : Int) ≤ m))) H
    rw [decide_eq_true h2]
    exact k
abbrev nRising : List Str := ["parts", "at"]
theorem scRising : FnScope nRising ["parts"] (defScope s_is_rising) := ⟨rfl, rfl, rfl, by decide +kernel, rfl, by decide +kernel, by decide +kernel⟩
theorem ok_is_rising (F : FnP K "is_rising" s_is_rising f fd) (C : Cns K mg) : FnOk P w K mg base CX0 1 f fd ["parts"] (spRising K) := by
  refine F.ok scRising (fun vs H Q E h => ?_) (fun cdv A outer s H vs Q E hr h => ?_)
  · obtain ⟨p, l, rfl, _⟩ := h
    rfl
  · obtain ⟨p, l, rfl, hp, hl, pw, k⟩ := h
    refine ⟨_, PSs.nox (pss_one (ps_ret (pe_callB (cr_all rfl) (by rfl) C.all (by decide +kernel)
        (pa_cons (pe_lc (own := [("at", 1)]) (g := gName 1) (tt := tYes) rfl scRising.nd (pi_range1 rfl C.range (pa_cons (pe_op op_sub (pe_callB call_len_seq (by rfl) C.len PySem.boot_len (pa_cons (pv 0) pa_nil)) pe_int) pa_nil)) (blkOk_by (N := nRising) (sc := defScope s_is_rising) (by decide +kernel)) (fun _ _ _ _ _ => pg_name (i := 1) scRising.nd rfl (.inl rfl)) (fun _ _ _ _ _ => pts_nil)
          (fun _ _ _ _ _ => pe_cmpR op_lt_str (pe_ix (r := rIxL K) ix_list (pv 0) (pv 1) (fun _ _ => rfl)) (pe_ix (r := rIxL K) ix_list (pv 0) (pe_op op_add (pv 1) pe_int) (fun _ _ => rfl)) (nomark _))) pa_nil)))), ?_⟩
    refine ⟨_, rfl, p, _, rfl, .inl (SqL.of hp), _, _, rfl, rfl, _, rfl, by rw [List.length_map]; omega, by rw [List.length_map]; omega, fun D hD => lc_sm walk_range (((List.range (l.length - 1)).map fun _ => true).map V.bl) (by simp) (by rw [List.length_map]; omega) hD (fun _ _ => trivial) ?_ ?_⟩
    · rintro i x y H2 H3 Kt hi hy s2 ⟨rfl, rfl⟩ hk
      rw [List.length_map] at hi
      have i1 : i < l.length := by omega
      have i2 : i + 1 < l.length := by omega
      have lt : l[i].cps.toList < l[i + 1].cps.toList := List.pairwise_iff_getElem.mp pw i (i + 1) i1 i2 (Nat.lt_succ_self i)
      refine ⟨rfl, _, rfl, _, rfl, p, _, _, _, rfl, rfl, SqL.of (s2 _ _ hp), (by rw [Int.zero_add]; exact str_at i1), _, rfl, _, rfl, _, _, rfl, rfl, p, _, ((i + 1 : Nat) : Int), _, rfl, congrArg V.int (by omega), SqL.of (s2 _ _ hp), str_at i2, _, _, rfl, rfl, ?_⟩
      have e : y = V.bl true := by
        rw [List.getElem?_map, List.getElem?_map] at hy
        cases q : (List.range (l.length - 1))[i]? with
        | none =>
          rw [q] at hy
          cases hy
        | some u =>
          rw [q] at hy
          exact (Option.some.inj hy).symm
      subst e
      rw [decide_eq_true lt]
      exact hk _ Same.rf
    · intro H2 s2 hD2
      refine ⟨D, _, rfl, SqL.of hD2, ?_⟩
      rw [all_true]
      exact k H2 s2
abbrev nNamesOf : List Str := ["things", "thing"]
theorem scNamesOf : FnScope nNamesOf ["things"] (defScope s_names_of) := ⟨rfl, rfl, rfl, by decide +kernel, rfl, by decide +kernel, by decide +kernel⟩
theorem ok_names_of (F : FnP K "names_of" s_names_of f fd) : FnOk P w K mg base CX0 1 f fd ["things"] spNamesOf := by
  refine F.ok scNamesOf (fun vs H Q E h => ?_) (fun cdv A outer s H vs Q E hr h => ?_)
  · obtain ⟨p, ts, rfl, _⟩ := h
    rfl
  · obtain ⟨p, ts, rfl, ⟨vs, hp, pr⟩, hl, k⟩ := h
    refine ⟨_, PSs.nox (pss_one (ps_ret (pe_lc (own := [("thing", 1)]) (g := gName 1) (tt := tYes) rfl scNamesOf.nd (pi_tup (pv 0)) (blkOk_by (N := nNamesOf) (sc := defScope s_names_of) (by decide +kernel)) (fun _ _ _ _ _ => pg_name (i := 1) scNamesOf.nd rfl (.inl rfl)) (fun _ _ _ _ _ => pts_nil)
          (fun _ _ _ _ _ => pe_ix (r := rIxT K) ix_tup (pv 1) pe_int (fun _ _ => rfl))))), ?_⟩
    refine ⟨_, rfl, p, rfl, ⟨_, SqT.of hp⟩, fun D hD => lc_sm (walk_tup (K := K) (a := p) (xs := vs)) ((nms ts).map V.str) (by rw [List.length_map, nms, List.length_map, pr.length]) (by rw [pr.length]; omega) hD (fun _ s => SqT.of (s _ _ hp)) ?_ ?_⟩
    · rintro i x y H2 H3 Kt hi hy s2 ⟨rfl, hx⟩ hk
      obtain ⟨t, ht, a, b, rfl, h1, h2⟩ := paired_ix pr hx
      have e : y = V.str t.1 := by
        rw [nms, List.map_map, List.getElem?_map, ht] at hy
        exact (Option.some.inj hy).symm
      subst e
      exact ⟨rfl, _, rfl, a, _, 0, _, rfl, rfl, SqT.of (s2 _ _ h1), rfl, hk _ Same.rf⟩
    · intro H2 s2 hD2
      exact k H2 D s2 hD hD2
end
end Hr

/-! text B3 -/
set_option Elab.async false
set_option linter.all false
set_option maxRecDepth 100000
set_option maxHeartbeats 4000000
namespace Hr
open PySem L2
section
variable {P : Program} {w : World} {K : PySem.W.Frag} {mg : Str → Option Value} {base : Heap} {f : Addr} {fd : FuncData}
abbrev pRow : List Str := ["thing", "least", "most"]
abbrev nValues : List Str := ["values", "value"]
theorem scValues : FnScope nValues ["values"] (defScope s_are_values) := ⟨rfl, rfl, rfl, by decide +kernel, rfl, by decide +kernel, by decide +kernel⟩
theorem trues_at {α : Type} {l : List α} {i : Nat} {y : V} (h : (((l.map fun _ => true).map V.bl)[i]?) = some y) : y = V.bl true := by
  rw [List.map_map, List.getElem?_map] at h
  cases q : l[i]? with
  | none =>
    rw [q] at h
    cases h
  | some u =>
    rw [q] at h
    exact (Option.some.inj h).symm
theorem falses_at {α : Type} {l : List α} {i : Nat} {y : V} (h : (((l.map fun _ => false).map V.bl)[i]?) = some y) : y = V.bl false := by
  rw [List.map_map, List.getElem?_map] at h
  cases q : l[i]? with
  | none =>
    rw [q] at h
    cases h
  | some u =>
    rw [q] at h
    exact (Option.some.inj h).symm
theorem ok_are_values (F : FnP K "are_values" s_are_values f fd) (C : Cns K mg) (HC : HCns K mg) (DR : Dk P w K mg base "is_row" 1 pRow (spRow K)) (DN : Dk P w K mg base "is_name" 1 ["thing"] (spIsName K)) : FnOk P w K mg base CX0 2 f fd ["values"] spValues := by
  refine F.ok scValues (fun vs H Q E h => ?_) (fun cdv A outer s H vs Q E hr h => ?_)
  · obtain ⟨p, l, rfl, _⟩ := h
    rfl
  · obtain ⟨p, l, rfl, hp, gn, nd, l2, l4, k⟩ := h
    obtain ⟨t1, g1⟩ := HC.lv
    obtain ⟨t2, g2⟩ := HC.mv
    refine ⟨_, PSs.nox (pss_cons (ps_if (PW.pt (pw_or (pt_not (pt_val (pe_cd DR hr rfl (pa_cons (pv 0) (pa_cons (pe_glob (v := .int 2) rfl g1 ⟨_, rfl⟩) (pa_cons (pe_glob (v := .int 4) rfl g2 ⟨_, rfl⟩) pa_nil))))))
        (pw_or1 (pt_not (pt_val (pe_callB (cr_all rfl) (by rfl) C.all (by decide +kernel) (pa_cons (pe_lc (own := [("value", 1)]) (g := gName 1) (tt := tYes) rfl scValues.nd (pi_tup (pv 0)) (blkOk_by (N := nValues) (sc := defScope s_are_values) (by decide +kernel)) (fun _ _ _ _ _ => pg_name (i := 1) scValues.nd rfl (.inl rfl)) (fun _ _ _ _ _ => pts_nil)
          (fun _ _ _ _ _ => pe_cd DN hr rfl (pa_cons (pv 1) pa_nil))) pa_nil))))))) (pss_one (ps_ret pe_bl)) pss_nil)
      (pss_one (ps_ret (pe_cmpR op_eq (pe_lenSetT rfl rfl C.len rfl C.set (pv 0)) (pe_callB call_len_seq (by rfl) C.len PySem.boot_len (pa_cons (pv 0) pa_nil)) (nomark _))))), ?_⟩
    refine ⟨_, rfl, p, _, 2, 4, rfl, hp, by rw [List.length_map]; omega, by rw [List.length_map]; omega, true, rfl, ?_⟩
    refine ⟨_, rfl, p, rfl, ⟨_, SqT.of hp⟩, fun D hD => lc_sm (walk_tup (K := K) (a := p) (xs := l.map V.str)) ((l.map fun _ => true).map V.bl) (by simp) (by rw [List.length_map]; omega) hD (fun _ s => SqT.of (s _ _ hp)) ?_ ?_⟩
    · rintro i x y H2 H3 Kt hi hy s2 ⟨rfl, hx⟩ hk
      obtain rfl := trues_at hy
      rw [List.length_map] at hi
      rw [List.getElem?_map, List.getElem?_eq_getElem hi] at hx
      obtain rfl : V.str l[i] = x := Option.some.inj hx
      have g := gn _ (List.getElem_mem hi)
      refine ⟨rfl, _, rfl, _, rfl, .inl ⟨_, rfl, Nat.le_trans g.2.1 (by decide), fun H4 s4 => ?_⟩⟩
      rw [decide_eq_true g]
      exact hk _ s4
    · intro H2 s2 hD2
      refine ⟨D, _, rfl, SqL.of hD2, true, (by rw [all_true]), ?_⟩
      refine ⟨_, rfl, p, l, rfl, SqT.of (s2 _ _ hp), by omega, _, rfl, p, _, rfl, .inr (SqT.of (s2 _ _ hp)), rfl, ?_⟩
      show Q (.bl (decide (V.int ((dd l).length : Nat) = V.int ((l.map V.str).length : Nat)))) H2
      rw [dd_nodup nd, List.length_map, decide_eq_true rfl]
      exact k H2 s2
theorem scIsThing : FnScope ["thing"] ["thing"] (defScope s_is_thing) := ⟨rfl, rfl, rfl, by decide +kernel, rfl, by decide +kernel, by decide +kernel⟩
theorem ok_is_thing (F : FnP K "is_thing" s_is_thing f fd) (DR : Dk P w K mg base "is_row" 1 pRow (spRow K)) (DN : Dk P w K mg base "is_name" 1 ["thing"] (spIsName K)) (DV : Dk P w K mg base "are_values" 2 ["values"] spValues) : FnOk P w K mg base CX0 3 f fd ["thing"] spIsThing := by
  refine F.ok scIsThing (fun vs H Q E h => ?_) (fun cdv A outer s H vs Q E hr h => ?_)
  · obtain ⟨v, t, rfl, _⟩ := h
    rfl
  · obtain ⟨v, t, rfl, ⟨a, b, rfl, h1, h2⟩, g, k⟩ := h
    have hr1 : Room 1 _ := hr.mono (by decide)
    refine ⟨_, PSs.nox (pss_one (ps_ret (pe_and (pe_cd DR hr1 rfl (pa_cons (pv 0) (pa_cons pe_int (pa_cons pe_int pa_nil))))
      (pe_and (pe_cd DN hr1 rfl (pa_cons (pe_ix ix_tup (pv 0) pe_int (fun _ _ => rfl)) pa_nil)) (pe_one (pe_cd DV hr rfl (pa_cons (pe_ix ix_tup (pv 0) pe_int (fun _ _ => rfl)) pa_nil))))))), ?_⟩
    refine ⟨_, rfl, a, _, 2, 2, rfl, h1, Int.le_refl 2, Int.le_refl 2, true, rfl, iteT ?_⟩
    refine ⟨_, rfl, a, _, 0, _, rfl, rfl, SqT.of h1, rfl, _, rfl, .inl ⟨_, rfl, Nat.le_trans g.1.2.1 (by decide), fun H4 s4 => ⟨_, rfl, ?_⟩⟩⟩
    rw [decide_eq_true g.1]
    refine iteT ⟨_, rfl, a, _, 1, _, rfl, rfl, SqT.of (s4 _ _ h1), rfl, b, t.2, rfl, s4 _ _ h2, g.2.1, g.2.2.1, g.2.2.2.1, g.2.2.2.2, fun H5 s5 => k H5 (Same.tr s4 s5)⟩
abbrev nThings : List Str := ["things", "least", "most", "thing"]
theorem scThings : FnScope nThings ["things", "least", "most"] (defScope s_are_things) := ⟨rfl, rfl, rfl, by decide +kernel, rfl, by decide +kernel, by decide +kernel⟩
theorem ok_are_things (F : FnP K "are_things" s_are_things f fd) (C : Cns K mg) (DR : Dk P w K mg base "is_row" 1 pRow (spRow K)) (DT : Dk P w K mg base "is_thing" 3 ["thing"] spIsThing) (DN : Dk P w K mg base "names_of" 1 ["things"] spNamesOf) (DI : Dk P w K mg base "is_rising" 1 ["parts"] (spRising K)) :
    FnOk P w K mg base CX0 4 f fd ["things", "least", "most"] spThings := by
  refine F.ok scThings (fun vs H Q E h => ?_) (fun cdv A outer s H vs Q E hr h => ?_)
  · obtain ⟨p, ts, l, m, rfl, _⟩ := h
    rfl
  · obtain ⟨p, ts, l, m, rfl, hT, g, pw, l1, l2, l3, k⟩ := h
    obtain ⟨vs, hp, pr⟩ := id hT
    have hr1 : Room 1 _ := hr.mono (by decide)
    have lv : vs.length = ts.length := pr.length
    refine ⟨_, PSs.nox (pss_cons (ps_if (PW.pt (pw_or (pt_not (pt_val (pe_cd DR hr1 rfl (pa_cons (pv 0) (pa_cons (pv 1) (pa_cons (pv 2) pa_nil))))))
        (pw_or1 (pt_not (pt_val (pe_callB (cr_all rfl) (by rfl) C.all (by decide +kernel) (pa_cons (pe_lc (own := [("thing", 3)]) (g := gName 3) (tt := tYes) rfl scThings.nd (pi_tup (pv 0)) (blkOk_by (N := nThings) (sc := defScope s_are_things) (by decide +kernel)) (fun _ _ _ _ _ => pg_name (i := 3) scThings.nd rfl (.inl rfl)) (fun _ _ _ _ _ => pts_nil)
          (fun _ _ _ _ _ => pe_cd DT hr rfl (pa_cons (pv 3) pa_nil))) pa_nil))))))) (pss_one (ps_ret pe_bl)) pss_nil)
      (pss_one (ps_ret (pe_cd DI hr1 rfl (pa_cons (pe_cd DN hr1 rfl (pa_cons (pv 0) pa_nil)) pa_nil))))), ?_⟩
    refine ⟨_, rfl, _, rfl, _, rfl, p, _, l, m, rfl, hp, by rw [lv]; exact l1, by rw [lv]; exact l2, true, rfl, ?_⟩
    refine ⟨_, rfl, p, rfl, ⟨_, SqT.of hp⟩, fun D hD => lc_sm (walk_tup (K := K) (a := p) (xs := vs)) ((vs.map fun _ => true).map V.bl) (by simp) (by omega) hD (fun _ s => SqT.of (s _ _ hp)) ?_ ?_⟩
    · rintro i x y H2 H3 Kt hi hy s2 ⟨rfl, hx⟩ hk
      obtain rfl := trues_at hy
      obtain ⟨t, ht, th⟩ := paired_ix pr hx
      exact ⟨rfl, _, rfl, _, t, rfl, th.tk (TK.sm s2), g t (List.mem_of_getElem? ht), fun H4 s4 => hk _ s4⟩
    · intro H2 s2 hD2
      refine ⟨D, _, rfl, SqL.of hD2, true, (by rw [all_true]), ?_⟩
      refine ⟨_, rfl, p, ts, rfl, hT.tk (TK.sm s2), l3, fun H3 q s3 _ hq => ?_⟩
      refine ⟨q, _, rfl, hq, by rw [nms, List.length_map]; exact l3, pw, fun H4 s4 => k H4 (Same.tr s2 (Same.tr s3 s4))⟩
theorem scWays : FnScope ["things", "ways", "thing"] ["things"] (defScope s_count_ways) := ⟨rfl, rfl, rfl, by decide +kernel, rfl, by decide +kernel, by decide +kernel⟩
theorem ways_take {ts : List TV} {i : Nat} {t : TV} (h : ts[i]? = some t) : waysN (ts.take (i + 1)) = waysN (ts.take i) * t.2.length := by
  unfold waysN
  rw [List.take_add_one, h]
  show (List.map _ (ts.take i ++ [t])).foldl _ _ = _
  rw [List.map_append, List.foldl_append]
  rfl
theorem ok_count_ways (F : FnP K "count_ways" s_count_ways f fd) (C : Cns K mg) : FnOk P w K mg base CX0 1 f fd ["things"] spWays := by
  refine F.ok scWays (fun vs H Q E h => ?_) (fun cdv A outer s H vs Q E hr h => ?_)
  · obtain ⟨p, ts, rfl, _⟩ := h
    rfl
  · obtain ⟨p, ts, rfl, ⟨vs, hp, pr⟩, hl, h4, k⟩ := h
    refine ⟨_, PSs.nox (pss_cons (ps_set (i := 1) scWays.nd rfl (.inl rfl) pe_int)
      (pss_cons (ps_for PassesOwn.never rfl (pi_tup (pv 0)) (pg_name (i := 2) scWays.nd rfl (.inl rfl)) (pss_one (ps_aug (i := 1) scWays.nd rfl (.inl rfl) (pe_callB call_len_seq (by rfl) C.len PySem.boot_len (pa_cons (pe_ix ix_tup (pv 2) pe_int (fun _ _ => rfl)) pa_nil)) iop_mul)))
      (pss_one (ps_ret (pv 1))))), ?_⟩
    refine ⟨_, rfl, p, rfl, ⟨_, SqT.of hp⟩, for_tup (K := K) (a := p) (xs := vs) (fun i σ H' => ∃ v, H' = H ∧ σ = [some (.ref p), some (.int (waysN (ts.take i) : Nat)), v]) ⟨none, rfl, rfl⟩ (fun i σ H' _ ⟨_, e, _⟩ => by rw [e]; exact SqT.of hp) ?_ ?_⟩
    · rintro i x σ H' hi ⟨v, rfl, rfl⟩
      obtain ⟨t, ht, a, b, rfl, h1, h2⟩ := paired_ix pr hi
      have w4 : waysN (ts.take i) ≤ 64 := by
        refine Nat.le_trans (ways_le (m := 4) fun t ht => h4 t (List.mem_of_mem_take ht)) ?_
        have e : (ts.take i).length ≤ 3 := by rw [List.length_take]; omega
        exact Nat.pow_le_pow_right (by decide) e
      refine ⟨_, rfl, _, rfl, a, _, 1, _, rfl, rfl, SqT.of h1, rfl, b, _, rfl, .inr (SqT.of h2), _, _, rfl, rfl, .inl ⟨by omega, by omega⟩, some (.ref a), rfl, ?_⟩
      rw [ways_take ht, List.length_map, Int.natCast_mul]
      rfl
    · rintro σ H' ⟨v, rfl, rfl⟩
      rw [pr.length, List.take_length]
      exact ⟨_, rfl, k⟩
abbrev nShare : List Str := ["some", "others", "taken", "name"]
theorem scShare : FnScope nShare ["some", "others"] (defScope s_share_a_name) := ⟨rfl, rfl, rfl, by decide +kernel, rfl, by decide +kernel, by decide +kernel⟩
theorem ok_share (F : FnP K "share_a_name" s_share_a_name f fd) (C : Cns K mg) (DN : Dk P w K mg base "names_of" 1 ["things"] spNamesOf) : FnOk P w K mg base CX0 2 f fd ["some", "others"] spShare := by
  refine F.ok scShare (fun vs H Q E h => ?_) (fun cdv A outer s H vs Q E hr h => ?_)
  · obtain ⟨p, q, ts, us, rfl, _⟩ := h
    rfl
  · obtain ⟨p, q, ts, us, rfl, hT, hU, l1, l2, dj, k⟩ := h
    refine ⟨_, PSs.nox (pss_cons (ps_set (i := 2) scShare.nd rfl (.inr rfl) (pe_cd DN hr rfl (pa_cons (pv 0) pa_nil)))
      (pss_one (ps_ret (pe_callB (cr_any rfl) (by rfl) C.any (by decide +kernel) (pa_cons (pe_lc (own := [("name", 3)]) (g := gName 3) (tt := tYes) rfl scShare.nd (pi_list (pe_cd DN hr rfl (pa_cons (pv 1) pa_nil))) (blkOk_by (N := nShare) (sc := defScope s_share_a_name) (by decide +kernel)) (fun _ _ _ _ _ => pg_name (i := 3) scShare.nd rfl (.inl rfl)) (fun _ _ _ _ _ => pts_nil)
          (fun _ _ _ _ _ => pe_cmpR (r := rIn K false) op_in_seq (pv 3) (pv 2) (by rfl))) pa_nil))))), ?_⟩
    refine ⟨_, rfl, p, ts, rfl, hT, l1, fun H1 a s1 _ ha => ?_⟩
    refine ⟨_, rfl, q, us, rfl, hU.tk (TK.sm s1), l2, fun H2 b s2 _ hb => ?_⟩
    refine ⟨b, rfl, ⟨_, SqL.of hb⟩, fun D hD => lc_sm (walk_list (K := K) (a := b) (xs := (nms us).map V.str)) (((nms us).map fun _ => false).map V.bl) (by simp) (by rw [List.length_map, nms, List.length_map]; omega) hD (fun _ s => SqL.of (s _ _ hb)) ?_ ?_⟩
    · rintro i x y H3 H4 Kt hi hy s3 ⟨rfl, hx⟩ hk
      obtain rfl := falses_at hy
      rw [List.length_map] at hi
      rw [List.getElem?_map, List.getElem?_eq_getElem hi] at hx
      obtain rfl : V.str (nms us)[i] = x := Option.some.inj hx
      have no : (nms us)[i] ∉ nms ts := fun h => dj _ h (List.getElem_mem hi)
      refine ⟨rfl, _, rfl, _, rfl, a, _, rfl, .inl (SqL.of (s3 _ _ (s2 _ _ ha))), rfl, flat_strs _, ?_⟩
      show Kt (.bl (inV _ _)) _
      rw [inV_strs, decide_eq_false no]
      exact hk _ Same.rf
    · intro H3 s3 hD3
      refine ⟨D, _, rfl, SqL.of hD3, ?_⟩
      rw [any_false]
      exact k H3 (Same.tr s1 (Same.tr s2 s3))
end
end Hr

/-! text B4 -/
set_option Elab.async false
set_option linter.all false
set_option maxRecDepth 100000
set_option maxHeartbeats 4000000
namespace Hr
open PySem L2
theorem n_oi : ¬ (("outer" : Str) = "inner") := by decide +kernel
theorem n_oh : ¬ (("outer" : Str) = "hours") := by decide +kernel
theorem n_ih : ¬ (("inner" : Str) = "hours") := by decide +kernel
theorem n_io : ¬ (("inner" : Str) = "outer") := by decide +kernel
theorem n_ho : ¬ (("hours" : Str) = "outer") := by decide +kernel
theorem n_hi : ¬ (("hours" : Str) = "inner") := by decide +kernel
/-- a house's fields -/
def hf (po pi : Addr) (h : Int) : List (Str × V) := putF "hours" (.int h) (putF "inner" (.ref pi) (putF "outer" (.ref po) []))
theorem hf_outer (po pi : Addr) (h : Int) : (hf po pi h).lookup ("outer" : Str) = some (.ref po) := by
  unfold hf
  rw [lookup_putF, if_neg n_oh, lookup_putF, if_neg n_oi, lookup_putF, if_pos rfl]
theorem hf_inner (po pi : Addr) (h : Int) : (hf po pi h).lookup ("inner" : Str) = some (.ref pi) := by
  unfold hf
  rw [lookup_putF, if_neg n_ih, lookup_putF, if_pos rfl]
theorem hf_hours (po pi : Addr) (h : Int) : (hf po pi h).lookup ("hours" : Str) = some (.int h) := by
  unfold hf
  rw [lookup_putF, if_pos rfl]
theorem hf_no (po pi : Addr) (h : Int) {m : Str} (h1 : ¬ m = "hours") (h2 : ¬ m = "inner") (h3 : ¬ m = "outer") : (hf po pi h).lookup m = none := by
  unfold hf
  rw [lookup_putF, if_neg h1, lookup_putF, if_neg h2, lookup_putF, if_neg h3]
  all_goals rfl
/-- the house at p, its class at C -/
def HouseAt (H : Hp) (C p : Addr) (o i : List TV) (h : Int) : Prop := ∃ dx po pi, H p = some (.ins C dx (hf po pi h)) ∧ Things H po o ∧ Things H pi i
theorem HouseAt.sm {H H1 : Hp} {C p : Addr} {o i : List TV} {h : Int} (s : Same H H1) (z : HouseAt H C p o i h) : HouseAt H1 C p o i h := by
  obtain ⟨dx, po, pi, h1, h2, h3⟩ := z
  exact ⟨dx, po, pi, s _ _ h1, h2.tk (TK.sm s), h3.tk (TK.sm s)⟩
theorem HouseAt.bt {a : Addr} {H H1 : Hp} {C p : Addr} {o i : List TV} {h : Int} (s : But a H H1) (P : Pool H a) (z : HouseAt H C p o i h) : HouseAt H1 C p o i h := by
  obtain ⟨dx, po, pi, h1, h2, h3⟩ := z
  refine ⟨dx, po, pi, s _ _ ?_ h1, h2.tk (TK.bt s P), h3.tk (TK.bt s P)⟩
  obtain ⟨_, _, _, hP, _⟩ := P
  exact ne_of h1 hP (by intro z; cases z)
structure HTxt (K : PySem.W.Frag) (mg : Str → Option Value) (C : Addr) : Prop where
  cl : Cls K C
  nO : NoAttr K C "outer"
  nI : NoAttr K C "inner"
  nH : NoAttr K C "hours"
  mgC : mg "House" = some (.ref C)
def spHInit (C : Addr) : Sp := fun vs H Q _ => ∃ (p dx po pi : Addr) (o i : List TV) (h : Int), vs = [.ref p, .ref po, .ref pi, .int h] ∧ H p = some (.ins C dx []) ∧ Things H po o ∧ Things H pi i ∧ GoodH o i h ∧
  ∀ H', But p H H' → H' p = some (.ins C dx (hf po pi h)) → Q .non H'
abbrev FnM (K : PySem.W.Frag) (x q : Str) (st : Stmt) (dvs : List V) (f : Addr) (fd : FuncData) : Prop := FunD K x q (defArgs st) (defBody st) (defScope st) dvs [] f fd
def spCanO : Sp := fun vs H Q _ => ∃ (p : Addr) (ts : List TV), vs = [.ref p] ∧ Things H p ts ∧ (∀ t ∈ ts, GoodT t) ∧ (nms ts).Pairwise ltS ∧ ts.length ≤ 3 ∧ waysN ts ≤ 12 ∧ ∀ H', Same H H' → Q (.bl true) H'
def spCanI : Sp := fun vs H Q _ => ∃ (p q : Addr) (ts us : List TV), vs = [.ref p, .ref q] ∧ Things H p ts ∧ Things H q us ∧ (∀ t ∈ us, GoodT t) ∧ (nms us).Pairwise ltS ∧ 1 ≤ us.length ∧ us.length ≤ 4 ∧ ts.length ≤ 3 ∧ (∀ z ∈ nms ts, z ∉ nms us) ∧ ∀ H', Same H H' → Q (.bl true) H'
def spCanH : Sp := fun vs H Q _ => ∃ h : Int, vs = [.int h] ∧ 1 ≤ h ∧ h ≤ 6 ∧ Q (.bl true) H
section
variable {P : Program} {w : World} {K : PySem.W.Frag} {mg : Str → Option Value} {base : Heap} {f C : Addr} {fd : FuncData}
theorem scCanO : FnScope ["things"] ["things"] (defScope s_can_be_outer) := ⟨rfl, rfl, rfl, by decide +kernel, rfl, by decide +kernel, by decide +kernel⟩
theorem scCanI : FnScope ["outer", "things"] ["outer", "things"] (defScope s_can_be_inner) := ⟨rfl, rfl, rfl, by decide +kernel, rfl, by decide +kernel, by decide +kernel⟩
theorem scCanH : FnScope ["hours"] ["hours"] (defScope s_can_be_hours) := ⟨rfl, rfl, rfl, by decide +kernel, rfl, by decide +kernel, by decide +kernel⟩
theorem ok_canO (F : FnP K "can_be_outer" s_can_be_outer f fd) (HC : HCns K mg) (DT : Dk P w K mg base "are_things" 4 ["things", "least", "most"] spThings) (DW : Dk P w K mg base "count_ways" 1 ["things"] spWays) : FnOk P w K mg base CX0 5 f fd ["things"] spCanO := by
  refine F.ok scCanO (fun vs H Q E h => ?_) (fun cdv A outer s H vs Q E hr h => ?_)
  · obtain ⟨p, ts, rfl, _⟩ := h
    rfl
  · obtain ⟨p, ts, rfl, tO, g, rr, l3, w12, k⟩ := h
    obtain ⟨t1, g1⟩ := HC.mo
    obtain ⟨t3, g3⟩ := HC.mw
    have hr1 : Room 1 _ := hr.mono (by decide)
    refine ⟨_, PSs.nox (pss_one (ps_ret (pe_and (pe_cd DT hr rfl (pa_cons (pv 0) (pa_cons pe_int (pa_cons (pe_glob (v := .int 3) rfl g1 ⟨_, rfl⟩) pa_nil))))
      (pe_one (pe_cmpR op_le (pe_cd DW hr1 rfl (pa_cons (pv 0) pa_nil)) (pe_glob (v := .int 12) rfl g3 ⟨_, rfl⟩) (by rfl)))))), ?_⟩
    refine ⟨_, rfl, p, ts, 0, 3, rfl, tO, g, rr, by omega, by omega, by omega, fun H1 s1 => ⟨true, rfl, iteT ?_⟩⟩
    refine ⟨_, rfl, p, ts, rfl, tO.tk (TK.sm s1), l3, fun t ht => (g t ht).2.2.2.2, _, _, rfl, rfl, ?_⟩
    show Q (.bl (decide (((waysN ts : Nat) : Int) ≤ 12))) H1
    rw [decide_eq_true (by omega)]
    exact k _ s1
theorem ok_canI (F : FnP K "can_be_inner" s_can_be_inner f fd) (HC : HCns K mg) (DT : Dk P w K mg base "are_things" 4 ["things", "least", "most"] spThings) (DS : Dk P w K mg base "share_a_name" 2 ["some", "others"] spShare) : FnOk P w K mg base CX0 5 f fd ["outer", "things"] spCanI := by
  refine F.ok scCanI (fun vs H Q E h => ?_) (fun cdv A outer s H vs Q E hr h => ?_)
  · obtain ⟨p, q, ts, us, rfl, _⟩ := h
    rfl
  · obtain ⟨p, q, ts, us, rfl, tO, tI, g, rr, l1, l4, l3, dj, k⟩ := h
    obtain ⟨t2, g2⟩ := HC.mi
    have hr2 : Room 2 _ := hr.mono (by decide)
    refine ⟨_, PSs.nox (pss_one (ps_ret (pe_and (pe_cd DT hr rfl (pa_cons (pv 1) (pa_cons pe_int (pa_cons (pe_glob (v := .int 4) rfl g2 ⟨_, rfl⟩) pa_nil))))
      (pe_one (pe_not (pe_cd DS hr2 rfl (pa_cons (pv 0) (pa_cons (pv 1) pa_nil)))))))), ?_⟩
    refine ⟨_, rfl, q, us, 1, 4, rfl, tI, g, rr, by omega, by omega, by omega, fun H1 s1 => ⟨true, rfl, iteT ?_⟩⟩
    refine ⟨_, rfl, _, rfl, p, q, ts, us, rfl, tO.tk (TK.sm s1), tI.tk (TK.sm s1), by omega, by omega, dj, fun H2 s2 => ⟨false, rfl, ?_⟩⟩
    exact k _ (Same.tr s1 s2)
theorem ok_canH (F : FnP K "can_be_hours" s_can_be_hours f fd) (HC : HCns K mg) (DH : Dk P w K mg base "is_whole" 1 pRow spWhole) : FnOk P w K mg base CX0 2 f fd ["hours"] spCanH := by
  refine F.ok scCanH (fun vs H Q E h => ?_) (fun cdv A outer s H vs Q E hr h => ?_)
  · obtain ⟨h, rfl, _⟩ := h
    rfl
  · obtain ⟨h, rfl, h1, h6, k⟩ := h
    obtain ⟨t4, g4⟩ := HC.mh
    refine ⟨_, PSs.nox (pss_one (ps_ret (pe_cd DH hr rfl (pa_cons (pv 0) (pa_cons pe_int (pa_cons (pe_glob (v := .int 6) rfl g4 ⟨_, rfl⟩) pa_nil)))))), ?_⟩
    exact ⟨_, rfl, h, 1, 6, rfl, h1, h6, k⟩
end
section
variable {P : Program} {w : World} {K : PySem.W.Frag} {mg : Str → Option Value} {base : Heap} {f C : Addr} {fd : FuncData}
abbrev pInit : List Str := ["self", "outer", "inner", "hours"]
theorem scInit : FnScope pInit pInit (defScope s_House_init) := ⟨rfl, rfl, rfl, by decide +kernel, rfl, by decide +kernel, by decide +kernel⟩
theorem ok_init (F : FnM K "__init__" "House.__init__" s_House_init [.int 4] f fd) (T : HTxt K mg C) (DO : Dk P w K mg base "can_be_outer" 5 ["things"] spCanO) (DI : Dk P w K mg base "can_be_inner" 5 ["outer", "things"] spCanI)
    (DH : Dk P w K mg base "can_be_hours" 2 ["hours"] spCanH) : FnOk P w K mg base CX0 6 f fd pInit (spHInit C) := by
  refine F.ok scInit (fun vs H Q E h => ?_) (fun cdv A outer s H vs Q E hr h => ?_)
  · obtain ⟨p, dx, po, pi, o, i, h, rfl, _⟩ := h
    rfl
  · obtain ⟨p, dx, po, pi, o, i, h, rfl, hp, tO, tI, G, k⟩ := h
    have hr2 : Room 2 _ := hr.mono (by decide)
    refine ⟨_, PSs.nox (pss_cons (ps_if (pt_not (pt_val (pe_cd DO hr rfl (pa_cons (pv 1) pa_nil)))) (pss_one ps_never) pss_nil)
      (pss_cons (ps_if (pt_not (pt_val (pe_cd DI hr rfl (pa_cons (pv 1) (pa_cons (pv 2) pa_nil))))) (pss_one ps_never) pss_nil)
      (pss_cons (ps_if (pt_not (pt_val (pe_cd DH hr2 rfl (pa_cons (pv 3) pa_nil)))) (pss_one ps_never) pss_nil)
      (pss_cons (ps_fld (pv 0) (pv 1) rfl) (pss_cons (ps_fld (pv 0) (pv 2) rfl) (pss_one (ps_fld (pv 0) (pv 3) rfl))))))), ?_⟩
    refine ⟨_, rfl, po, o, rfl, tO, G.og, G.orr, G.o3, G.ow, fun H1 s1 => ⟨true, rfl, ?_⟩⟩
    refine ⟨_, rfl, _, rfl, po, pi, o, i, rfl, tO.tk (TK.sm s1), tI.tk (TK.sm s1), G.ig, G.ir, G.i1, G.i4, G.o3, G.dj, fun H2 s2 => ⟨true, rfl, ?_⟩⟩
    have s12 := Same.tr s1 s2
    refine ⟨_, rfl, h, rfl, G.h1, G.h6, true, rfl, ?_⟩
    have hp3 := s12 _ _ hp
    refine ⟨_, rfl, _, rfl, p, C, dx, _, rfl, hp3, T.cl, T.nO, (by show 0 < 1000; decide), _, rfl, _, rfl, p, C, dx, _, rfl, upd_same, T.cl, T.nI, ?_, _, rfl, _, rfl, p, C, dx, _, rfl, upd_same, T.cl, T.nH, ?_, ?_⟩
    · show 1 < 1000
      decide
    · show (putF "inner" (.ref pi) [("outer", .ref po)]).length < 1000
      show (if ("outer" : Str) = "inner" then [(("inner" : Str), V.ref pi)] else (("outer" : Str), V.ref po) :: putF "inner" (V.ref pi) []).length < 1000
      rw [if_neg n_oi]
      show 2 < 1000
      decide
    · refine k _ (fun b u hb e => ?_) upd_same
      rw [upd_ne hb, upd_ne hb, upd_ne hb]
      exact s12 _ _ e
end
end Hr

/-! text B5 -/
set_option Elab.async false
set_option linter.all false
set_option maxRecDepth 100000
set_option maxHeartbeats 4000000
namespace Hr
open PySem L2
/-- a walk by its invariant, whatever a turn does -/
theorem wk {J : It} {n : Nat} {G : Hp → Prop} {Y : Nat → Hp → V → Hp → Prop} (w : Walk J n G Y) {H0 : Hp} {Qd : Hp → Prop} {B : V → Hp → (Hp → Prop) → Prop} (Pv : Nat → Hp → Prop) (h0 : Pv 0 H0) (hG : ∀ i H, i ≤ n → Pv i H → G H)
    (hs : ∀ i x H H', i < n → Pv i H → Y i H x H' → B x H' (Pv (i + 1))) (hd : ∀ H, Pv n H → Qd H) :
    ∃ W : Nat → Nat → Hp → Prop, (∃ m, W 0 m H0) ∧ ∀ i m H, W i m H → (J.stop i H ∧ Qd H) ∨ (J.go i H ∧ ∃ Nx : Hp → Prop, (∀ H', Nx H' → ∃ m', m' < m ∧ W (i + 1) m' H') ∧ ∀ x H', J.yld i H x H' → B x H' Nx) := by
  refine ⟨fun i m H => m + i = n ∧ Pv i H, ⟨n, rfl, h0⟩, fun i m H ⟨e, p⟩ => ?_⟩
  have q := hG i H (by omega) p
  cases m with
  | zero =>
    obtain rfl : i = n := by omega
    exact .inl ⟨w.stops H q, hd H p⟩
  | succ m => exact .inr ⟨w.goes i H (by omega) q, Pv (i + 1), fun H' p' => ⟨m, Nat.lt_succ_self m, by omega, p'⟩, fun x H' y => hs i x H H' (by omega) p (w.yields i H x H' (by omega) q y)⟩
/-! all ways -/
def stepW (ws : List (List Str)) (vals : List Str) : List (List Str) := ws.flatMap fun u => vals.map fun v => u ++ [v]
def waysL (ts : List TV) : List (List Str) := ts.foldl (fun ws t => stepW ws t.2) [[]]
theorem waysL_take {ts : List TV} {i : Nat} {t : TV} (h : ts[i]? = some t) : waysL (ts.take (i + 1)) = stepW (waysL (ts.take i)) t.2 := by
  unfold waysL
  rw [List.take_add_one, h, List.foldl_append]
  rfl
theorem stepW_take {ws : List (List Str)} {vals : List Str} {i : Nat} (h : i < ws.length) : stepW (ws.take (i + 1)) vals = stepW (ws.take i) vals ++ vals.map fun v => ws[i] ++ [v] := by
  unfold stepW
  rw [take_one h, List.flatMap_append]
  simp
theorem stepW_len (ws : List (List Str)) (vals : List Str) : (stepW ws vals).length = ws.length * vals.length := by
  unfold stepW
  induction ws with
  | nil => simp
  | cons a r ih => rw [List.flatMap_cons, List.length_append, ih, List.length_map, List.length_cons, Nat.succ_mul]; omega
theorem waysL_len (ts : List TV) : (waysL ts).length = waysN ts := by
  have key : ∀ (l : List TV) (ws : List (List Str)), (l.foldl (fun ws t => stepW ws t.2) ws).length = (l.map fun t => t.2.length).foldl (· * ·) ws.length := by
    intro l
    induction l with
    | nil => intro ws; rfl
    | cons t r ih =>
      intro ws
      rw [List.foldl_cons, ih, stepW_len, List.map_cons, List.foldl_cons]
  exact key ts [[]]
theorem waysL_el {ts : List TV} {u : List Str} (h : u ∈ waysL ts) : u.length = ts.length := by
  have key : ∀ (l : List TV) (ws : List (List Str)) (n : Nat), (∀ u ∈ ws, u.length = n) → ∀ u ∈ l.foldl (fun ws t => stepW ws t.2) ws, u.length = n + l.length := by
    intro l
    induction l with
    | nil => intro ws n h u hu; exact h u hu
    | cons t r ih =>
      intro ws n h u hu
      rw [List.foldl_cons] at hu
      have q := ih (stepW ws t.2) (n + 1) (fun x hx => ?_) u hu
      · rw [q, List.length_cons]
        omega
      · unfold stepW at hx
        obtain ⟨y, hy, hx⟩ := List.mem_flatMap.mp hx
        obtain ⟨z, _, rfl⟩ := List.mem_map.mp hx
        rw [List.length_append, h y hy]
        rfl
  have q := key ts [[]] 0 (fun u hu => by rw [List.mem_singleton.mp hu]; rfl) u h
  omega
/-- a tuple of texts; a list of them -/
def IsTS (H : Hp) (v : V) (u : List Str) : Prop := ∃ q, v = .ref q ∧ H q = some (.tup (u.map V.str))
theorem ts_tk {H H1 : Hp} {vs : List V} {us : List (List Str)} (k : TK H H1) (h : Paired (IsTS H) vs us) : Paired (IsTS H1) vs us := paired_imp (fun _ _ ⟨q, e, h⟩ => ⟨q, e, k _ _ h⟩) h
def LoT (H : Hp) (p : Addr) (us : List (List Str)) : Prop := ∃ vs, H p = some (.lst vs) ∧ Paired (IsTS H) vs us
theorem LoT.sm {H H1 : Hp} {p : Addr} {us : List (List Str)} (s : Same H H1) (h : LoT H p us) : LoT H1 p us := by
  obtain ⟨vs, h1, h2⟩ := h
  exact ⟨vs, s _ _ h1, ts_tk (TK.sm s) h2⟩
theorem Same.mu {H H1 : Hp} {p : Addr} {o : HO} (h : Same H H1) (hp : H p = none) : Same H (L2.upd H1 p o) := fun b u e => by
  rw [upd_ne (ne_of_none e hp)]
  exact h b u e
theorem ways12 {o i : List TV} {h : Int} (G : GoodH o i h) (j : Nat) : waysN (o.take j) ≤ 64 := by
  refine Nat.le_trans (ways_le (m := 4) fun t ht => (G.og t (List.mem_of_mem_take ht)).2.2.2.2) ?_
  have e : (o.take j).length ≤ 3 := by rw [List.length_take]; have := G.o3; omega
  exact Nat.pow_le_pow_right (by decide) e
def spAllOuter (C : Addr) : Sp := fun vs H Q _ => ∃ (p : Addr) (o i : List TV) (h : Int), vs = [.ref p] ∧ HouseAt H C p o i h ∧ GoodH o i h ∧ ∀ H' q, Same H H' → H q = none → LoT H' q (waysL o) → Q (.ref q) H'
section
variable {P : Program} {w : World} {K : PySem.W.Frag} {mg : Str → Option Value} {base : Heap} {f C : Addr} {fd : FuncData}
abbrev nAll : List Str := ["house", "ways", "thing", "way", "value"]
theorem scAll : FnScope nAll ["house"] (defScope s_all_outer) := ⟨rfl, rfl, rfl, by decide +kernel, rfl, by decide +kernel, by decide +kernel⟩
theorem ok_all_outer (F : FnP K "all_outer" s_all_outer f fd) (T : HTxt K mg C) : FnOk P w K mg base CX0 1 f fd ["house"] (spAllOuter C) := by
  refine F.ok scAll (fun vs H Q E h => ?_) (fun cdv A outer s H vs Q E hr h => ?_)
  · obtain ⟨p, o, i, h, rfl, _⟩ := h
    rfl
  · obtain ⟨p, o, i, h, rfl, ⟨dx, po, pi, hp, tO, tI⟩, G, k⟩ := h
    obtain ⟨os, ho, pO⟩ := id tO
    refine ⟨_, PSs.nox (pss_cons (ps_set (i := 1) scAll.nd rfl (.inl rfl) (pe_lst (pa_cons (pe_tup pa_nil) pa_nil)))
      (pss_cons (ps_for PassesOwn.never rfl (pi_tup (pe_fld (pv 0) rfl)) (pg_name (i := 2) scAll.nd rfl (.inr rfl))
        (pss_one (ps_setLc2 (i := 1) (own := [("way", 3), ("value", 4)]) (vs1 := [4]) (g := gName 3) (tt := tYes) (wi1 := iTup K (tOp (rIxT K) (tVar 2) (tC (.int 1)))) (g1 := gName 4) (tt1 := tYes) (te := tTup (StX.tStar K (tVar 3) (tCons (tVar 4) tNil))) rfl scAll.nd rfl rfl (sw_true rfl rfl rfl (by decide +kernel)) (pi_list (pv 1)) (blkOk_by (N := nAll) (sc := defScope s_all_outer) (by decide +kernel)) (by decide)
          (fun _ _ _ _ _ => pg_name (i := 3) scAll.nd rfl (.inl rfl)) (fun _ _ _ _ _ => pts_nil) (fun _ _ _ _ _ => pi_tup (pe_ix (r := rIxT K) ix_tup (pv 2) pe_int (fun _ _ => rfl))) (fun _ _ _ _ _ => pg_name (i := 4) scAll.nd rfl (.inl rfl)) (fun _ _ _ _ _ => pts_nil)
          (fun _ _ _ _ _ => pe_tup (StX.pa_star (pv 3) (pa_cons (pv 4) pa_nil))))))
      (pss_one (ps_ret (pv 1))))), ?_⟩
    refine ⟨Nat.zero_le _, fun q0 hq0 => ⟨(by show 1 ≤ sizeLine; decide), fun q1 hq1 => ?_⟩⟩
    have s1 : Same H (L2.upd (L2.upd H q0 (.tup [])) q1 (.lst [.ref q0])) := Same.nw (Same.nw Same.rf hq0) hq1
    have l1 : LoT (L2.upd (L2.upd H q0 (.tup [])) q1 (.lst [.ref q0])) q1 [[]] := ⟨_, upd_same, .cons ⟨q0, rfl, TK.nw hq1 _ _ upd_same⟩ .nil⟩
    have f1 : H q1 = none := Same.fre (Same.nw Same.rf hq0) hq1
    generalize (L2.upd (L2.upd H q0 (.tup [])) q1 (.lst [.ref q0])) = H1 at s1 l1 ⊢
    refine ⟨_, rfl, p, C, dx, _, _, rfl, s1 _ _ hp, T.cl, T.nO, hf_outer _ _ _, po, rfl, ⟨_, SqT.of (s1 _ _ ho)⟩, for_tup (K := K) (a := po) (xs := os)
      (fun j σ H' => ∃ (v : Option V) (q : Addr), σ = [some (.ref p), some (.ref q), v, none, none] ∧ Same H H' ∧ H q = none ∧ LoT H' q (waysL (o.take j))) ⟨none, q1, rfl, s1, f1, l1⟩ (fun j σ H' _ ⟨_, _, _, s, _⟩ => SqT.of (s _ _ ho)) ?_ ?_⟩
    · rintro j x σ H' hj ⟨v, q, rfl, sj, fq, vs, hq, pq⟩
      obtain ⟨t, ht, a, b, rfl, h1, h2⟩ := paired_ix pO hj
      have lw : vs.length ≤ 64 := by
        rw [pq.length, waysL_len]
        exact ways12 G j
      have gt := G.og t (List.mem_of_getElem? ht)
      refine ⟨_, rfl, q, rfl, ⟨_, SqL.of hq⟩, fun D hD => wk (walk_list (K := K) (a := q) (xs := vs)) (fun i H2 => Same H' H2 ∧ ∃ acc, H2 D = some (.lst acc) ∧ Paired (IsTS H2) acc (stepW ((waysL (o.take j)).take i) t.2)) ⟨Same.nw Same.rf hD, [], upd_same, .nil⟩ (fun i H2 _ s => SqL.of (s.1 _ _ hq)) ?_ ?_⟩
      · rintro i y H2 H3 hi ⟨s2, acc, hD2, pa⟩ ⟨rfl, hy⟩
        obtain ⟨u, hu, r, rfl, hr0⟩ := paired_ix pq hy
        have hiw : i < (waysL (o.take j)).length := by rw [← pq.length]; exact hi
        have eu : (waysL (o.take j))[i] = u := by
          rw [List.getElem?_eq_getElem hiw] at hu
          exact Option.some.inj hu
        have lacc : acc.length ≤ 64 * 4 := by
          rw [pa.length, stepW_len, List.length_take]
          refine Nat.mul_le_mul ?_ gt.2.2.2.2
          rw [← pq.length]
          exact Nat.le_trans (Nat.min_le_right _ _) lw
        refine ⟨rfl, _, rfl, a, _, 1, _, rfl, rfl, SqT.of (s2 _ _ (sj _ _ h1)), rfl, b, rfl, ⟨_, SqT.of (s2 _ _ (sj _ _ h2))⟩, wk (walk_tup (K := K) (a := b) (xs := t.2.map V.str)) (fun m H4 => Same H' H4 ∧ ∃ acc4, H4 D = some (.lst acc4) ∧ Paired (IsTS H4) acc4 (stepW ((waysL (o.take j)).take i) t.2 ++ (t.2.take m).map fun z => u ++ [z])) ⟨s2, acc, hD2, by simpa using pa⟩ (fun m H4 _ s => SqT.of (s.1 _ _ (sj _ _ h2))) ?_ ?_⟩
        · rintro m y4 H4 H5 hm ⟨s4, acc4, hD4, pa4⟩ ⟨rfl, hy4⟩
          rw [List.length_map] at hm
          rw [List.getElem?_map, List.getElem?_eq_getElem hm] at hy4
          obtain rfl : V.str t.2[m] = y4 := Option.some.inj hy4
          have lacc4 : acc4.length ≤ 1000 := by
            rw [pa4.length, List.length_append, ← pa.length, List.length_map, List.length_take]
            have := gt.2.2.2.2
            omega
          refine ⟨rfl, _, rfl, r, _, rfl, .inl (SqT.of (s4 _ _ hr0)), _, rfl, ?_, fun q9 hq9 => ⟨acc4, ?_, ?_, ?_, acc4 ++ [.ref q9], upd_same, ?_⟩⟩
          · have lu := waysL_el (List.mem_of_getElem? hu)
            rw [List.length_take] at lu
            have := G.o3
            show (u.map V.str ++ [V.str t.2[m]]).length ≤ sizeLine
            rw [List.length_append, List.length_map]
            exact Nat.le_trans (by show u.length + 1 ≤ 4; omega) (by decide : 4 ≤ sizeLine)
          · exact uk hD4 hq9
          · exact sz4 lacc4 (by decide)
          · exact Same.mu (Same.nw s4 hq9) hD
          · rw [take_one hm, List.map_append, ← List.append_assoc]
            have tk : TK H5 _ := (TK.nw (o := .tup (u.map V.str ++ [V.str t.2[m]])) hq9).tr (TK.ls (o := .lst (acc4 ++ [.ref q9])) (uk hD4 hq9))
            refine (ts_tk tk pa4).snoc ⟨q9, rfl, TK.ls (uk hD4 hq9) _ _ ?_⟩
            rw [upd_same, List.map_append]
            rfl
        · rintro H4 ⟨s4, acc4, hD4, pa4⟩
          rw [List.length_map, List.take_length] at pa4
          refine ⟨s4, acc4, hD4, ?_⟩
          rw [stepW_take hiw, eu]
          exact pa4
      · rintro H2 ⟨s2, acc, hD2, pa⟩
        rw [pq.length, List.take_length, ← waysL_take ht] at pa
        exact ⟨_, D, rfl, Same.tr sj s2, Same.fre sj hD, acc, hD2, pa⟩
    · rintro σ H' ⟨v, q, rfl, sj, fq, lq⟩
      rw [pO.length, List.take_length] at lq
      exact ⟨_, rfl, k H' q sj fq lq⟩
end
end Hr

/-! text B6 -/
set_option Elab.async false
set_option linter.all false
set_option maxRecDepth 100000
set_option maxHeartbeats 4000000
namespace Hr
open PySem L2
theorem join_len (y : Str) (ps : List Str) : (Txt.join y ps).length ≤ (ps.map (·.length)).sum + ps.length * y.length := by
  rw [len_tl, show (Txt.join y ps).cps.toList = TL.joinL (TL.tl y) (ps.map TL.tl) from by rw [TL.join_eq]; exact TL.tl_join y ps]
  have ey : y.length = (TL.tl y).length := len_tl y
  rw [ey]
  induction ps with
  | nil => simp [TL.joinL]
  | cons a r ih =>
    have ea : a.length = (TL.tl a).length := len_tl a
    cases r with
    | nil =>
      show (TL.tl a).length ≤ _
      simp only [List.map_cons, List.map_nil, List.sum_cons, List.sum_nil, ea]
      omega
    | cons b r =>
      show (TL.tl a ++ (TL.tl y ++ TL.joinL (TL.tl y) ((b :: r).map TL.tl))).length ≤ _
      rw [List.length_append, List.length_append]
      have e2 : ((a :: b :: r).map (·.length)).sum = a.length + ((b :: r).map (·.length)).sum := rfl
      have e3 : (a :: b :: r).length * (TL.tl y).length = (b :: r).length * (TL.tl y).length + (TL.tl y).length := by rw [List.length_cons, Nat.succ_mul]
      rw [e2, e3, ea]
      omega
def rowOf (x : Str) (t : TV) : Str := Txt.join " " (x :: t.1 :: t.2)
def hoursT (h : Int) : Str := ("hours " : Str) ++ (toString h : Str)
def rowsT (o i : List TV) (h : Int) : List Str := hoursT h :: (o.map (rowOf "outer") ++ i.map (rowOf "inner"))
def textT (o i : List TV) (h : Int) : Str := Txt.join "\n" (rowsT o i h)
theorem sum_le : ∀ {l : List Str} {m : Nat}, (∀ z ∈ l, z.length ≤ m) → (l.map (·.length)).sum ≤ l.length * m
  | [], _, _ => by simp
  | a :: l, m, h => by
    have h1 := h a List.mem_cons_self
    have h2 := sum_le (l := l) (m := m) fun z hz => h z (List.mem_cons_of_mem _ hz)
    rw [List.map_cons, List.sum_cons, List.length_cons, Nat.succ_mul]
    omega
theorem parts_len {x : Str} {t : TV} (hx : x.length ≤ 8) (g : GoodT t) : ((x :: t.1 :: t.2).map (·.length)).sum ≤ 48 ∧ (x :: t.1 :: t.2).length ≤ 6 := by
  have h2 : ((t.2).map (·.length)).sum ≤ t.2.length * 8 := sum_le fun z hz => (g.2.1 z hz).2.1
  have h3 := g.1.2.1
  have h4 := g.2.2.2.2
  rw [List.map_cons, List.map_cons, List.sum_cons, List.sum_cons, List.length_cons, List.length_cons]
  omega
theorem row_len {x : Str} {t : TV} (hx : x.length ≤ 8) (g : GoodT t) : (rowOf x t).length ≤ 54 := by
  have h := join_len " " (x :: t.1 :: t.2)
  obtain ⟨h1, h2⟩ := parts_len hx g
  have e : (" " : Str).length = 1 := by decide +kernel
  rw [e] at h
  unfold rowOf
  omega
theorem hours_len {h : Int} (h1 : 1 ≤ h) (h6 : h ≤ 6) : (hoursT h).length ≤ 20 := by
  have c : h = 1 ∨ h = 2 ∨ h = 3 ∨ h = 4 ∨ h = 5 ∨ h = 6 := by omega
  rcases c with rfl | rfl | rfl | rfl | rfl | rfl <;> decide +kernel
theorem empty_app (z : Str) : Str.empty ++ z = z := by
  apply str_ext
  have e : (Str.empty ++ z).cps.toList = Str.empty.cps.toList ++ z.cps.toList := TL.tl_append _ _
  rw [e]
  rfl
def firsts (i : List TV) : List Str := i.map fun t => t.2.headD ""
def spFirst (C : Addr) : Sp := fun vs H Q _ => ∃ (p : Addr) (o i : List TV) (h : Int), vs = [.ref p] ∧ HouseAt H C p o i h ∧ GoodH o i h ∧ ∀ H' q, Same H H' → H q = none → H' q = some (.tup ((firsts i).map V.str)) → Q (.ref q) H'
def spRows : Sp := fun vs H Q _ => ∃ (x : Str) (p : Addr) (ts : List TV), vs = [.str x, .ref p] ∧ x.length ≤ 8 ∧ Things H p ts ∧ (∀ t ∈ ts, GoodT t) ∧ ts.length ≤ 4 ∧ ∀ H' q, Same H H' → H q = none → H' q = some (.lst ((ts.map (rowOf x)).map V.str)) → Q (.ref q) H'
def spStr (C : Addr) : Sp := fun vs H Q _ => ∃ (p : Addr) (o i : List TV) (h : Int), vs = [.ref p] ∧ HouseAt H C p o i h ∧ GoodH o i h ∧ ∀ H', Same H H' → Q (.str (textT o i h)) H'
def spLen (C : Addr) : Sp := fun vs H Q _ => ∃ (p : Addr) (o i : List TV) (h : Int), vs = [.ref p] ∧ HouseAt H C p o i h ∧ GoodH o i h ∧ ∀ H', Same H H' → Q (.int ((o.length + i.length : Nat) : Int)) H'
section
variable {P : Program} {w : World} {K : PySem.W.Frag} {mg : Str → Option Value} {base : Heap} {f C : Addr} {fd : FuncData}
abbrev nFirst : List Str := ["house", "thing"]
theorem scFirst : FnScope nFirst ["house"] (defScope s_first_values) := ⟨rfl, rfl, rfl, by decide +kernel, rfl, by decide +kernel, by decide +kernel⟩
theorem ok_first (F : FnP K "first_values" s_first_values f fd) (T : HTxt K mg C) (Cn : Cns K mg) : FnOk P w K mg base CX0 1 f fd ["house"] (spFirst C) := by
  refine F.ok scFirst (fun vs H Q E h => ?_) (fun cdv A outer s H vs Q E hr h => ?_)
  · obtain ⟨p, o, i, h, rfl, _⟩ := h
    rfl
  · obtain ⟨p, o, i, h, rfl, ⟨dx, po, pi, hp, tO, is, hi, pI⟩, G, k⟩ := h
    refine ⟨_, PSs.nox (pss_one (ps_ret (pe_callTy call_tuple_of (by rfl) Cn.tuple (by decide +kernel) (pa_cons (pe_lc (own := [("thing", 1)]) (g := gName 1) (tt := tYes) rfl scFirst.nd (pi_tup (pe_fld (pv 0) rfl)) (blkOk_by (N := nFirst) (sc := defScope s_first_values) (by decide +kernel)) (fun _ _ _ _ _ => pg_name (i := 1) scFirst.nd rfl (.inl rfl)) (fun _ _ _ _ _ => pts_nil)
        (fun _ _ _ _ _ => pe_ix (r := rIxT K) ix_tup (pe_ix (r := rIxT K) ix_tup (pv 1) pe_int (fun _ _ => rfl)) pe_int (fun _ _ => rfl))) pa_nil)))), ?_⟩
    refine ⟨_, rfl, p, C, dx, _, _, rfl, hp, T.cl, T.nI, hf_inner _ _ _, pi, rfl, ⟨_, SqT.of hi⟩, fun D hD => lc_sm (walk_tup (K := K) (a := pi) (xs := is)) ((firsts i).map V.str) (by rw [List.length_map, firsts, List.length_map, pI.length]) (by have := G.i4; rw [pI.length]; omega) hD (fun _ s => SqT.of (s _ _ hi)) ?_ ?_⟩
    · rintro j x y H2 H3 Kt hj hy s2 ⟨rfl, hx⟩ hk
      obtain ⟨t, ht, a, b, rfl, h1, h2⟩ := paired_ix pI hx
      have g := G.ig t (List.mem_of_getElem? ht)
      have e : y = V.str (t.2.headD "") := by
        rw [firsts, List.map_map, List.getElem?_map, ht] at hy
        exact (Option.some.inj hy).symm
      subst e
      have hd : atI (t.2.map V.str) 0 = some (V.str (t.2.headD "")) := by
        have l := g.2.2.2.1
        cases q : t.2 with
        | nil =>
          rw [q] at l
          exact absurd l (by decide)
        | cons z r => exact atI_nat (j := 0) rfl
      exact ⟨rfl, _, rfl, a, _, 1, _, rfl, rfl, SqT.of (s2 _ _ h1), rfl, b, _, 0, _, rfl, rfl, SqT.of (s2 _ _ h2), hd, hk _ Same.rf⟩
    · intro H2 s2 hD2
      exact ⟨D, _, rfl, .inl ⟨SqL.of hD2, fun q hq => k _ q (Same.nw s2 hq) (Same.fre s2 hq) upd_same⟩⟩
abbrev nRows : List Str := ["word", "things", "name", "values"]
theorem scRows : FnScope nRows ["word", "things"] (defScope s_thing_rows) := ⟨rfl, rfl, rfl, by decide +kernel, rfl, by decide +kernel, by decide +kernel⟩
theorem ok_rows (F : FnP K "thing_rows" s_thing_rows f fd) : FnOk P w K mg base CX0 1 f fd ["word", "things"] spRows := by
  refine F.ok scRows (fun vs H Q E h => ?_) (fun cdv A outer s H vs Q E hr h => ?_)
  · obtain ⟨x, p, ts, rfl, _⟩ := h
    rfl
  · obtain ⟨x, p, ts, rfl, hx8, ⟨vs, hp, pr⟩, g, l4, k⟩ := h
    refine ⟨_, PSs.nox (pss_one (ps_ret (pe_lc (own := [("name", 2), ("values", 3)]) (g := gTup K 2 (gCons (gName 2) (gCons (gName 3) gNil))) (tt := tYes) (te := tM1 (fun x xs H Q => ∃ a p, ∃ ys : List Str, x = .str a ∧ xs = [.ref p] ∧ (SqL K H p (ys.map V.str) ∨ SqT K H p (ys.map V.str)) ∧ (ys.map (·.length)).sum + ys.length * a.length ≤ 16777216 ∧ Q (.str (Txt.join a ys)) H) (tC (.str " ")) (tLst (tCons (tVar 0) (tCons (tVar 2) (StX.tStar K (tVar 3) tNil)))))
        rfl scRows.nd (pi_tup (pv 1)) (blkOk_by (N := nRows) (sc := defScope s_thing_rows) (by decide +kernel)) (fun _ _ _ _ _ => pg_tup rfl (pgs_cons (pg_name (i := 2) scRows.nd rfl (.inl rfl)) (pgs_cons (pg_name (i := 3) scRows.nd rfl (.inl rfl)) pgs_nil))) (fun _ _ _ _ _ => pts_nil)
        (fun _ _ _ _ _ => pe_join pe_str (pe_lst (pa_cons (pv 0) (pa_cons (pv 2) (StX.pa_star (pv 3) pa_nil)))))))), ?_⟩
    refine ⟨_, rfl, p, rfl, ⟨_, SqT.of hp⟩, fun D hD => lc_sm (walk_tup (K := K) (a := p) (xs := vs)) ((ts.map (rowOf x)).map V.str) (by rw [List.length_map, List.length_map, pr.length]) (by rw [pr.length]; omega) hD (fun _ s => SqT.of (s _ _ hp)) ?_ ?_⟩
    · rintro j v y H2 H3 Kt hj hy s2 ⟨rfl, hv⟩ hk
      obtain ⟨t, ht, a, b, rfl, h1, h2⟩ := paired_ix pr hv
      have gt := g t (List.mem_of_getElem? ht)
      have e : y = V.str (rowOf x t) := by
        rw [List.map_map, List.getElem?_map, ht] at hy
        exact (Option.some.inj hy).symm
      subst e
      obtain ⟨q1, q2⟩ := parts_len hx8 gt
      have e1 : (" " : Str).length = 1 := by decide +kernel
      refine ⟨a, _, rfl, SqT.of (s2 _ _ h1), rfl, _, _, rfl, _, _, rfl, rfl, rfl, ⟨_, rfl⟩, _, rfl, _, rfl, _, rfl, b, _, rfl, .inl (SqT.of (s2 _ _ h2)), ?_, fun q hq => ?_⟩
      · show ([V.str x, V.str t.1] ++ (t.2.map V.str ++ [])).length ≤ sizeLine
        rw [List.length_append, List.length_append, List.length_map]
        exact Nat.le_trans (by have := gt.2.2.2.2; show 2 + (t.2.length + 0) ≤ 6; omega) (by decide : 6 ≤ sizeLine)
      · refine ⟨" ", q, x :: t.1 :: t.2, rfl, rfl, .inl (SqL.of ?_), by rw [e1]; omega, hk _ (Same.nw Same.rf hq)⟩
        rw [upd_same]
        simp
    · intro H2 s2 hD2
      exact k H2 D s2 hD hD2
end
end Hr

/-! text B7 -/
set_option Elab.async false
set_option linter.all false
set_option maxRecDepth 100000
set_option maxHeartbeats 4000000
namespace Hr
open PySem L2
theorem rows_len {o i : List TV} {h : Int} (G : GoodH o i h) : ((rowsT o i h).map (·.length)).sum + (rowsT o i h).length * 1 ≤ 16777216 ∧ (rowsT o i h).length ≤ 8 := by
  have w1 : ("outer" : Str).length ≤ 8 := by decide +kernel
  have w2 : ("inner" : Str).length ≤ 8 := by decide +kernel
  have l : (rowsT o i h).length ≤ 8 := by
    rw [rowsT, List.length_cons, List.length_append, List.length_map, List.length_map]
    have := G.o3
    have := G.i4
    omega
  have s := sum_le (l := rowsT o i h) (m := 54) fun z hz => by
    rcases List.mem_cons.mp hz with rfl | hz
    · have := hours_len G.h1 G.h6
      omega
    · rcases List.mem_append.mp hz with hz | hz
      · obtain ⟨t, ht, rfl⟩ := List.mem_map.mp hz
        exact row_len w1 (G.og t ht)
      · obtain ⟨t, ht, rfl⟩ := List.mem_map.mp hz
        exact row_len w2 (G.ig t ht)
  exact ⟨by omega, l⟩
theorem log_small {h : Int} (h1 : 1 ≤ h) (h6 : h ≤ 6) : h.natAbs.log2 < 1920 := by
  have c : h = 1 ∨ h = 2 ∨ h = 3 ∨ h = 4 ∨ h = 5 ∨ h = 6 := by omega
  rcases c with rfl | rfl | rfl | rfl | rfl | rfl <;> decide
def spLWays : Sp := fun vs H Q _ => ∃ (p : Addr) (o i : List TV) (h : Int), vs = [.ref p] ∧ HouseT H p o i h ∧ GoodH o i h ∧ ∀ H' q, Same H H' → H q = none → LoT H' q (waysL o) → Q (.ref q) H'
def spLText : Sp := fun vs H Q _ => ∃ (p : Addr) (o i : List TV) (h : Int), vs = [.ref p] ∧ HouseT H p o i h ∧ GoodH o i h ∧ ∀ H', Same H H' → Q (.str (textT o i h)) H'
section
variable {P : Program} {w : World} {K : PySem.W.Frag} {mg : Str → Option Value} {base : Heap} {f C : Addr} {fd : FuncData}
theorem scStr : FnScope ["self", "rows"] ["self"] (defScope s_House_str) := ⟨rfl, rfl, rfl, by decide +kernel, rfl, by decide +kernel, by decide +kernel⟩
theorem ok_str (F : FnM K "__str__" "House.__str__" s_House_str [] f fd) (T : HTxt K mg C) (DR : Dk P w K mg base "thing_rows" 1 ["word", "things"] spRows) : FnOk P w K mg base CX0 2 f fd ["self"] (spStr C) := by
  refine F.ok scStr (fun vs H Q E h => ?_) (fun cdv A outer s H vs Q E hr h => ?_)
  · obtain ⟨p, o, i, h, rfl, _⟩ := h
    rfl
  · obtain ⟨p, o, i, h, rfl, ⟨dx, po, pi, hp, tO, tI⟩, G, k⟩ := h
    obtain ⟨rl1, rl2⟩ := rows_len G
    have w1 : ("outer" : Str).length ≤ 8 := by decide +kernel
    have w2 : ("inner" : Str).length ≤ 8 := by decide +kernel
    have hz0 : (("hours " : Str)).length = 6 := by decide +kernel
    have hl := hours_len G.h1 G.h6
    refine ⟨_, PSs.nox (pss_cons (ps_set (i := 1) scStr.nd rfl (.inl rfl) (pe_lst (pa_cons (pe_joined (.cons pe_str (.cons (pe_fmt (pe_fld (pv 0) rfl)) .nil))) pa_nil)))
      (pss_cons (ps_aug (i := 1) scStr.nd rfl (.inl rfl) (pe_cd DR hr rfl (pa_cons pe_str (pa_cons (pe_fld (pv 0) rfl) pa_nil))) iop_ext)
      (pss_cons (ps_aug (i := 1) scStr.nd rfl (.inl rfl) (pe_cd DR hr rfl (pa_cons pe_str (pa_cons (pe_fld (pv 0) rfl) pa_nil))) iop_ext)
      (pss_one (ps_ret (pe_join pe_str (pv 1))))))), ?_⟩
    refine ⟨_, rfl, (by rw [empty_app]; show ("hours " : Str).length ≤ sizeLine; rw [hz0]; decide), _, rfl, p, C, dx, _, _, rfl, hp, T.cl, T.nH, hf_hours _ _ _, .inr ⟨h, rfl, log_small G.h1 G.h6, _, rfl, ?_, ?_⟩⟩
    · rw [empty_app]
      exact Nat.le_trans hl (by decide)
    · rw [empty_app]
      refine ⟨(by show 1 ≤ sizeLine; decide), fun q0 hq0 => ?_⟩
      have s0 : Same H (L2.upd H q0 (.lst [.str (hoursT h)])) := Same.nw Same.rf hq0
      refine ⟨_, rfl, _, rfl, p, C, dx, _, _, rfl, s0 _ _ hp, T.cl, T.nO, hf_outer _ _ _, "outer", po, o, rfl, w1, tO.tk (TK.sm s0), G.og, by have := G.o3; omega, fun H1 q1 s1 f1 h1 => ?_⟩
      have h10 := s1 _ _ (upd_same (H := H) (a := q0) (o := .lst [.str (hoursT h)]))
      refine ⟨q0, q1, _, _, rfl, rfl, h10, h1, ?_, ?_⟩
      · rw [List.length_map, List.length_map]
        exact Nat.le_trans (by have := G.o3; show 1 + o.length ≤ 8; omega) (by decide : 8 ≤ sizeLine)
      have s2 : Same H (L2.upd H1 q0 (.lst ([.str (hoursT h)] ++ (o.map (rowOf "outer")).map V.str))) := Same.mu (Same.tr s0 s1) hq0
      refine ⟨_, rfl, _, rfl, p, C, dx, _, _, rfl, s2 _ _ hp, T.cl, T.nI, hf_inner _ _ _, "inner", pi, i, rfl, w2, tI.tk (TK.sm s2), G.ig, G.i4, fun H3 q3 s3 f3 h3 => ?_⟩
      have h30 := s3 _ _ (upd_same (H := H1) (a := q0) (o := .lst ([.str (hoursT h)] ++ (o.map (rowOf "outer")).map V.str)))
      refine ⟨q0, q3, _, _, rfl, rfl, h30, h3, ?_, ?_⟩
      · rw [List.length_append, List.length_map, List.length_map, List.length_map, List.length_map]
        exact Nat.le_trans (by have := G.o3; have := G.i4; show 1 + o.length + i.length ≤ 8; omega) (by decide : 8 ≤ sizeLine)
      have el : ([V.str (hoursT h)] ++ (o.map (rowOf "outer")).map V.str) ++ (i.map (rowOf "inner")).map V.str = (rowsT o i h).map V.str := by
        rw [rowsT, List.map_cons, List.map_append]
        simp
      rw [el]
      have e1 : ("\n" : Str).length = 1 := by decide +kernel
      refine ⟨⟨_, rfl⟩, _, rfl, "\n", q0, rowsT o i h, rfl, rfl, .inl (SqL.of upd_same), by rw [e1]; exact rl1, k _ (Same.mu (Same.tr s2 s3) hq0)⟩
theorem scLen : FnScope ["self"] ["self"] (defScope s_House_len) := ⟨rfl, rfl, rfl, by decide +kernel, rfl, by decide +kernel, by decide +kernel⟩
theorem ok_len (F : FnM K "__len__" "House.__len__" s_House_len [] f fd) (T : HTxt K mg C) (Cn : Cns K mg) : FnOk P w K mg base CX0 1 f fd ["self"] (spLen C) := by
  refine F.ok scLen (fun vs H Q E h => ?_) (fun cdv A outer s H vs Q E hr h => ?_)
  · obtain ⟨p, o, i, h, rfl, _⟩ := h
    rfl
  · obtain ⟨p, o, i, h, rfl, ⟨dx, po, pi, hp, ⟨os, ho, pO⟩, ⟨is, hi, pI⟩⟩, G, k⟩ := h
    refine ⟨_, PSs.nox (pss_one (ps_ret (pe_callB call_len_seq (by rfl) Cn.len PySem.boot_len (pa_cons (pe_op op_catA (pe_fld (pv 0) rfl) (pe_fld (pv 0) rfl)) pa_nil)))), ?_⟩
    have lo := pO.length
    have li := pI.length
    have g1 := G.o3
    have g2 := G.i4
    refine ⟨_, rfl, p, C, dx, _, _, rfl, hp, T.cl, T.nO, hf_outer _ _ _, _, rfl, p, C, dx, _, _, rfl, hp, T.cl, T.nI, hf_inner _ _ _, po, pi, _, _, rfl, rfl, SqT.of ho, SqT.of hi, ?_, fun e => ?_, fun _ e => ?_, fun _ _ q hq => ?_⟩
    · exact Nat.le_trans (by omega : os.length + is.length ≤ 8) (by decide)
    · refine ⟨pi, _, rfl, .inr (SqT.of hi), ?_⟩
      rw [e] at lo
      have : o.length + i.length = is.length := by simp at lo; omega
      have q := k H Same.rf
      rw [this] at q
      exact q
    · rw [e] at li
      have := G.i1
      simp at li
      omega
    · refine ⟨q, _, rfl, .inr (SqT.of upd_same), ?_⟩
      rw [List.length_append, lo, li]
      exact k _ (Same.nw Same.rf hq)
end
end Hr

/-! text B8 -/
set_option Elab.async false
set_option linter.all false
set_option maxRecDepth 100000
set_option maxHeartbeats 4000000
namespace Hr
open PySem L2
theorem paired_app {α β : Type} {F : α → β → Prop} : ∀ {l1 l2 : List α} {m1 m2 : List β}, Paired F l1 m1 → Paired F l2 m2 → Paired F (l1 ++ l2) (m1 ++ m2)
  | _, _, _, _, .nil, h => h
  | _, _, _, _, .cons a t, h => .cons a (paired_app t h)
section
variable {P : Program} {w : World} {K : PySem.W.Frag} {mg : Str → Option Value} {base : Heap} {f C : Addr} {fd : FuncData}
abbrev nLWays : List Str := ["_law_house_here", "_law_found", "_law_name", "_law_values", "_law_more", "_law_way", "_law_value"]
theorem scLWays : FnScope nLWays ["_law_house_here"] (defScope s_law_ways) := ⟨rfl, rfl, rfl, by decide +kernel, rfl, by decide +kernel, by decide +kernel⟩
theorem ok_lways (F : FnP K "_law_ways" s_law_ways f fd) : FnOk P w K mg base CX0 1 f fd ["_law_house_here"] spLWays := by
  refine F.ok scLWays (fun vs H Q E h => ?_) (fun cdv A outer s H vs Q E hr h => ?_)
  · obtain ⟨p, o, i, h, rfl, _⟩ := h
    rfl
  · obtain ⟨p, o, i, h, rfl, ⟨po, pi, hp, ⟨os, ho, pO⟩, tI⟩, G, k⟩ := h
    refine ⟨_, PSs.nox (pss_cons (ps_set (i := 1) scLWays.nd rfl (.inl rfl) (pe_lst (pa_cons (pe_tup pa_nil) pa_nil)))
      (pss_cons (ps_for PassesOwn.never rfl (pi_tup (pe_ix ix_tup (pv 0) pe_int (fun _ _ => rfl))) (pg_tup rfl (pgs_cons (pg_name (i := 2) scLWays.nd rfl (.inl rfl)) (pgs_cons (pg_name (i := 3) scLWays.nd rfl (.inl rfl)) pgs_nil)))
        (pss_cons (ps_set (i := 4) scLWays.nd rfl (.inl rfl) (pe_lst pa_nil))
        (pss_cons (ps_for PassesOwn.never rfl (pi_list (pv 1)) (pg_name (i := 5) scLWays.nd rfl (.inr rfl))
          (pss_one (ps_expr (pe_bm PySem.F.plainAttrs_list PySem.F.slot_list_extend PySem.F.type_list_extend mt_extend (pv 4) (pa_cons (pe_lc (own := [("_law_value", 6)]) (g := gName 6) (tt := tYes) (te := tOp (rCatA K) (tVar 5) (tTup (tCons (tVar 6) tNil))) rfl scLWays.nd (pi_tup (pv 3)) (blkOk_by (N := nLWays) (sc := defScope s_law_ways) (by decide +kernel)) (fun _ _ _ _ _ => pg_name (i := 6) scLWays.nd rfl (.inl rfl)) (fun _ _ _ _ _ => pts_nil)
            (fun _ _ _ _ _ => pe_op op_catA (pv 5) (pe_tup (pa_cons (pv 6) pa_nil)))) pa_nil)))))
        (pss_one (ps_set (i := 1) scLWays.nd rfl (.inl rfl) (pv 4))))))
      (pss_one (ps_ret (pv 1))))), ?_⟩
    refine ⟨Nat.zero_le _, fun q0 hq0 => ⟨(by show 1 ≤ sizeLine; decide), fun q1 hq1 => ?_⟩⟩
    have s1 : Same H (L2.upd (L2.upd H q0 (.tup [])) q1 (.lst [.ref q0])) := Same.nw (Same.nw Same.rf hq0) hq1
    have l1 : LoT (L2.upd (L2.upd H q0 (.tup [])) q1 (.lst [.ref q0])) q1 [[]] := ⟨_, upd_same, .cons ⟨q0, rfl, TK.nw hq1 _ _ upd_same⟩ .nil⟩
    have f1 : H q1 = none := Same.fre (Same.nw Same.rf hq0) hq1
    generalize (L2.upd (L2.upd H q0 (.tup [])) q1 (.lst [.ref q0])) = H1 at s1 l1 ⊢
    refine ⟨_, rfl, p, _, 0, _, rfl, rfl, SqT.of (s1 _ _ hp), rfl, po, rfl, ⟨_, SqT.of (s1 _ _ ho)⟩, for_tup (K := K) (a := po) (xs := os)
      (fun j σ H' => ∃ (v2 v3 v4 v5 : Option V) (q : Addr), σ = [some (.ref p), some (.ref q), v2, v3, v4, v5, none] ∧ Same H H' ∧ H q = none ∧ LoT H' q (waysL (o.take j))) ⟨none, none, none, none, q1, rfl, s1, f1, l1⟩ (fun j σ H' _ ⟨_, _, _, _, _, _, s, _⟩ => SqT.of (s _ _ ho)) ?_ ?_⟩
    · rintro j x σ H' hj ⟨v2, v3, v4, v5, q, rfl, sj, fq, vs, hq, pq⟩
      obtain ⟨t, ht, a, b, rfl, h1, h2⟩ := paired_ix pO hj
      have lw : vs.length ≤ 64 := by
        rw [pq.length, waysL_len]
        exact ways12 G j
      have gt := G.og t (List.mem_of_getElem? ht)
      refine ⟨a, _, rfl, SqT.of (sj _ _ h1), rfl, _, _, rfl, _, _, rfl, rfl, ?_⟩
      refine ⟨Nat.zero_le _, fun D hD => ?_⟩
      have nqD : q ≠ D := ne_of_none hq hD
      have hq' := uk (u := .lst []) hq hD
      refine ⟨_, rfl, q, rfl, ⟨_, SqL.of hq'⟩, for_list (K := K) (a := q) (xs := vs)
        (fun i σ H2 => ∃ v5 acc, σ = [some (.ref p), some (.ref q), some (.str t.1), some (.ref b), some (.ref D), v5, none] ∧ Same H' H2 ∧ H2 D = some (.lst acc) ∧ Paired (IsTS H2) acc (stepW ((waysL (o.take j)).take i) t.2)) ⟨v5, [], rfl, Same.nw Same.rf hD, upd_same, .nil⟩ (fun i σ H2 _ ⟨_, _, _, s, _⟩ => SqL.of (s _ _ hq)) ?_ ?_⟩
      · rintro i y σ H2 hy ⟨v5, acc, rfl, s2, hD2, pa⟩
        have hi : i < vs.length := by
          rcases Nat.lt_or_ge i vs.length with h | h
          · exact h
          · rw [List.getElem?_eq_none h] at hy
            cases hy
        obtain ⟨u, hu, r, rfl, hr0⟩ := paired_ix pq hy
        have hiw : i < (waysL (o.take j)).length := by rw [← pq.length]; exact hi
        have eu : (waysL (o.take j))[i] = u := by
          rw [List.getElem?_eq_getElem hiw] at hu
          exact Option.some.inj hu
        have lu := waysL_el (List.mem_of_getElem? hu)
        rw [List.length_take] at lu
        have o3 := G.o3
        have lacc : acc.length ≤ 64 * 4 := by
          rw [pa.length, stepW_len, List.length_take]
          refine Nat.mul_le_mul ?_ gt.2.2.2.2
          rw [← pq.length]
          exact Nat.le_trans (Nat.min_le_right _ _) lw
        refine ⟨_, rfl, .inl ⟨rfl, _, SqL.of hD2⟩, _, rfl, b, rfl, ⟨_, SqT.of (s2 _ _ (sj _ _ h2))⟩, fun L hL => wk (walk_tup (K := K) (a := b) (xs := t.2.map V.str)) (fun m H4 => Same H2 H4 ∧ ∃ ls, H4 L = some (.lst ls) ∧ Paired (IsTS H4) ls ((t.2.take m).map fun z => u ++ [z])) ⟨Same.nw Same.rf hL, [], upd_same, .nil⟩ (fun m H4 _ s => SqT.of (s.1 _ _ (s2 _ _ (sj _ _ h2)))) ?_ ?_⟩
        · rintro m y4 H4 H5 hm ⟨s4, ls, hL4, pl⟩ ⟨rfl, hy4⟩
          rw [List.length_map] at hm
          rw [List.getElem?_map, List.getElem?_eq_getElem hm] at hy4
          obtain rfl : V.str t.2[m] = y4 := Option.some.inj hy4
          have lls : ls.length ≤ 4 := by
            rw [pl.length, List.length_map, List.length_take]
            have := gt.2.2.2.2
            omega
          have hru := s4 _ _ (s2 _ _ hr0)
          refine ⟨rfl, _, rfl, _, rfl, (by show 1 ≤ sizeLine; decide), fun q8 hq8 => ⟨r, q8, _, _, rfl, rfl, SqT.of (uk hru hq8), SqT.of upd_same, ?_, fun e => ?_, (fun _ e => absurd e (List.cons_ne_nil _ _)), fun _ _ q9 hq9 => ?_⟩⟩
          · rw [List.length_map]
            exact Nat.le_trans (by show u.length + 1 ≤ 4; omega) (by decide : 4 ≤ sizeLine)
          · refine ⟨ls, uk hL4 hq8, sz4 lls (by decide), Same.mu (Same.nw s4 hq8) hL, ls ++ [.ref q8], upd_same, ?_⟩
            have eu0 : u = [] := List.map_eq_nil_iff.mp e
            rw [take_one hm, List.map_append]
            have tk : TK H5 _ := (TK.nw (o := .tup [V.str t.2[m]]) hq8).tr (TK.ls (o := .lst (ls ++ [.ref q8])) (uk hL4 hq8))
            refine (ts_tk tk pl).snoc ⟨q8, rfl, TK.ls (uk hL4 hq8) _ _ ?_⟩
            rw [upd_same, eu0]
            rfl
          · have k8 := uk (u := .tup [V.str t.2[m]]) hL4 hq8
            refine ⟨ls, uk k8 hq9, sz4 lls (by decide), Same.mu (Same.nw (Same.nw s4 hq8) hq9) hL, ls ++ [.ref q9], upd_same, ?_⟩
            rw [take_one hm, List.map_append]
            have tk : TK H5 _ := ((TK.nw (o := .tup [V.str t.2[m]]) hq8).tr (TK.nw (o := .tup (u.map V.str ++ [V.str t.2[m]])) hq9)).tr (TK.ls (o := .lst (ls ++ [.ref q9])) (uk k8 hq9))
            refine (ts_tk tk pl).snoc ⟨q9, rfl, TK.ls (uk k8 hq9) _ _ ?_⟩
            rw [upd_same, List.map_append]
            rfl
        · rintro H4 ⟨s4, ls, hL4, pl⟩
          rw [List.length_map, List.take_length] at pl
          have hD4 := s4 _ _ hD2
          have lls : ls.length ≤ 4 := by
            rw [pl.length, List.length_map]
            exact gt.2.2.2.2
          refine ⟨D, L, acc, ls, rfl, rfl, hD4, hL4, Nat.le_trans (by omega : acc.length + ls.length ≤ 1000) (by decide), ?_⟩
          have tk : TK H4 (L2.upd H4 D (.lst (acc ++ ls))) := TK.ls hD4
          refine ⟨_, acc ++ ls, rfl, Same.mu (Same.tr s2 s4) hD, upd_same, ?_⟩
          rw [stepW_take hiw, eu]
          exact paired_app (ts_tk ((TK.sm s4).tr tk) pa) (ts_tk tk pl)
      · rintro σ H2 ⟨v5, acc, rfl, s2, hD2, pa⟩
        rw [pq.length, List.take_length, ← waysL_take ht] at pa
        exact ⟨_, rfl, _, _, _, _, D, rfl, Same.tr sj s2, Same.fre sj hD, acc, hD2, pa⟩
    · rintro σ H' ⟨v2, v3, v4, v5, q, rfl, sj, fq, lq⟩
      rw [pO.length, List.take_length] at lq
      exact ⟨_, rfl, k H' q sj fq lq⟩
end
end Hr

/-! text B9 -/
set_option Elab.async false
set_option linter.all false
set_option maxRecDepth 100000
set_option maxHeartbeats 4000000
namespace Hr
open PySem L2
/-! the same data, as deep as n -/
def Sc (H : Hp) (x y : V) : Prop := x = y ∧ (flatV x = true ∨ ∃ p, x = .ref p ∧ H p = some (.dK []))
def Eqd (H : Hp) : Nat → V → V → Prop
  | 0, x, y => Sc H x y
  | n + 1, x, y => Sc H x y ∨ ∃ p q xs ys, x = .ref p ∧ y = .ref q ∧ ((H p = some (.tup xs) ∧ H q = some (.tup ys)) ∨ (H p = some (.lst xs) ∧ H q = some (.lst ys))) ∧ xs.length ≤ 1000 ∧ Paired (Eqd H n) xs ys
theorem Eqd.sm {H H1 : Hp} (s : Same H H1) : ∀ {n : Nat} {x y : V}, Eqd H n x y → Eqd H1 n x y
  | 0, x, y, h => by
    obtain ⟨e, h | ⟨p, e2, h⟩⟩ := h
    · exact ⟨e, .inl h⟩
    · exact ⟨e, .inr ⟨p, e2, s _ _ h⟩⟩
  | n + 1, x, y, h => by
    rcases h with ⟨e, h | ⟨p, e2, h⟩⟩ | ⟨p, q, xs, ys, e1, e2, h, l, pr⟩
    · exact .inl ⟨e, .inl h⟩
    · exact .inl ⟨e, .inr ⟨p, e2, s _ _ h⟩⟩
    · refine .inr ⟨p, q, xs, ys, e1, e2, ?_, l, paired_imp (fun a b => Eqd.sm s) pr⟩
      rcases h with ⟨a, b⟩ | ⟨a, b⟩
      · exact .inl ⟨s _ _ a, s _ _ b⟩
      · exact .inr ⟨s _ _ a, s _ _ b⟩
theorem Eqd.up {H : Hp} : ∀ {n : Nat} {x y : V}, Eqd H n x y → Eqd H (n + 1) x y
  | 0, _, _, h => .inl h
  | n + 1, x, y, h => by
    rcases h with h | ⟨p, q, xs, ys, e1, e2, h, l, pr⟩
    · exact .inl h
    · exact .inr ⟨p, q, xs, ys, e1, e2, h, l, paired_imp (fun a b => Eqd.up) pr⟩
theorem paired_self {α : Type} {F : α → α → Prop} : ∀ {l : List α}, (∀ x ∈ l, F x x) → Paired F l l
  | [], _ => .nil
  | x :: l, h => .cons (h x List.mem_cons_self) (paired_self fun y hy => h y (List.mem_cons_of_mem _ hy))
/-- tuples of the same texts -/
theorem eqd_strs {H : Hp} {p q : Addr} {l : List Str} (hp : H p = some (.tup (l.map V.str))) (hq : H q = some (.tup (l.map V.str))) (hl : l.length ≤ 1000) : Eqd H 1 (.ref p) (.ref q) := by
  refine .inr ⟨p, q, _, _, rfl, rfl, .inl ⟨hp, hq⟩, by rw [List.length_map]; exact hl, paired_self fun x hx => ?_⟩
  obtain ⟨z, _, rfl⟩ := List.mem_map.mp hx
  exact ⟨rfl, .inl rfl⟩
theorem eqd_lots {H : Hp} {p q : Addr} {us : List (List Str)} (hp : LoT H p us) (hq : LoT H q us) (hl : us.length ≤ 1000) (he : ∀ u ∈ us, u.length ≤ 1000) : Eqd H 2 (.ref p) (.ref q) := by
  obtain ⟨vs, h1, p1⟩ := hp
  obtain ⟨ws, h2, p2⟩ := hq
  refine .inr ⟨p, q, vs, ws, rfl, rfl, .inr ⟨h1, h2⟩, by rw [p1.length]; exact hl, ?_⟩
  clear h1 h2 hl
  revert vs ws
  induction us with
  | nil =>
    intro vs p1 ws p2
    cases p1
    cases p2
    exact .nil
  | cons u us ih =>
    intro vs p1 ws p2
    cases p1 with
    | cons a t =>
      cases p2 with
      | cons b t2 =>
        obtain ⟨r, rfl, hr⟩ := a
        obtain ⟨r2, rfl, hr2⟩ := b
        exact .cons (eqd_strs hr hr2 (he u List.mem_cons_self)) (ih (fun u hu => he u (List.mem_cons_of_mem _ hu)) _ t _ t2)
def spSame (n : Nat) : Sp := fun vs H Q _ => ∃ x y, vs = [x, y] ∧ Eqd H n x y ∧ ∀ H', Same H H' → Q (.bl true) H'
theorem walk_zipT {K : PySem.W.Frag} {a b : Addr} {xs ys : List V} (hn : xs.length = ys.length) : Walk (RZ.ItzT K a b) xs.length (fun H => SqT K H a xs ∧ SqT K H b ys) (YPair (fun i => xs[i]?) (fun i => ys[i]?)) := by
  refine ⟨fun i _ hi q => ?_, fun _ q => ⟨xs, ys, q.1, q.2, .inl (Nat.le_refl _)⟩, fun i H v H' _ q y => ?_⟩
  · exact ⟨xs, ys, _, _, q.1, q.2, List.getElem?_eq_getElem hi, List.getElem?_eq_getElem (hn ▸ hi)⟩
  · obtain ⟨T, x, z, h1, h2, h3, h4, h5⟩ := y
    exact ⟨T, x, z, h1, h2, h3, h4 xs q.1, h5 ys q.2⟩
/-- == of flat values, of the empty dict with itself -/
def rEqS : R2 := fun x y H Q => rEq x y H Q ∨ ∃ a, x = .ref a ∧ y = .ref a ∧ H a = some (.dK []) ∧ Q (.bl true) H
theorem op_eqS {X : Cx} (hu : X.A.units < cLine) : OpR X (compareOp .Eq) rEqS := by
  intro pins s σ H x y v u Q I rx ry h
  rcases h with h | ⟨a, rfl, rfl, ha, q⟩
  · exact op_eq pins s σ H x y v u Q I rx ry h
  · exact op_eq_dict hu pins s σ H _ _ v u Q I rx ry ⟨a, a, [], rfl, rfl, ha, ha, List.nodup_nil, (fun p hp => nomatch hp), q⟩
/-- what a plain thing's type is: no tuple, no list; and two such are alike by it -/
theorem sc_ty {K : PySem.W.Frag} {H : Hp} {x : V} (h : flatV x = true ∨ ∃ p, x = .ref p ∧ H p = some (.dK [])) : ∃ n : String, TyX K H x (.type n) ∧ kitB n "tuple" = some false ∧ kitB n "list" = some false ∧ (∃ b, kitB n "bool" = some b) ∧ ∃ b, kitB n "int" = some b := by
  rcases h with h | ⟨p, rfl, h⟩
  · cases x with
    | non => exact ⟨"NoneType", .base .non, by decide +kernel, by decide +kernel, ⟨false, by decide +kernel⟩, ⟨false, by decide +kernel⟩⟩
    | bl b => exact ⟨"bool", .base (.bl b), by decide +kernel, by decide +kernel, ⟨true, by decide +kernel⟩, ⟨true, by decide +kernel⟩⟩
    | int i => exact ⟨"int", .base (.int i), by decide +kernel, by decide +kernel, ⟨false, by decide +kernel⟩, ⟨true, by decide +kernel⟩⟩
    | str z => exact ⟨"str", .base (.str z), by decide +kernel, by decide +kernel, ⟨false, by decide +kernel⟩, ⟨false, by decide +kernel⟩⟩
    | _ => cases h
  · exact ⟨"dict", .base (.dK h), by decide +kernel, by decide +kernel, ⟨false, by decide +kernel⟩, ⟨false, by decide +kernel⟩⟩
theorem scal_self {x : V} (h : flatV x = true) : scal x x = true := by
  cases x with
  | non => rfl
  | bl b => rfl
  | int i => rfl
  | str z => rfl
  | _ => cases h
section
variable {P : Program} {w : World} {K : PySem.W.Frag} {mg : Str → Option Value} {base : Heap} {f C : Addr} {fd : FuncData}
abbrev nSame : List Str := ["_law_one", "_law_other", "_law_a", "_law_b"]
abbrev pSame : List Str := ["_law_one", "_law_other"]
theorem scSame : FnScope nSame pSame (defScope s_law_same) := ⟨rfl, rfl, rfl, by decide +kernel, rfl, by decide +kernel, by decide +kernel⟩
theorem kit2 {n : String} (h1 : kitB n "tuple" = some false) (h2 : kitB n "list" = some false) : PySem.W.kitAny K (.type n) [.type "tuple", .type "list"] = some false :=
  kitAny_cons (kit_ty h1) (fun _ => kitAny_cons (kit_ty h2) (fun _ => kitAny_nil) (fun q => Bool.noConfusion q)) (fun q => Bool.noConfusion q)
theorem ok_same_n (F : FnP K "_law_same" s_law_same f fd) (Cn : Cns K mg) (g : mg "_law_same" = some (.ref f)) (b : Binds K fd pSame []) : ∀ n, FnOk P w K mg base CX0 (n + 1) f fd pSame (spSame n) := by
  intro n
  induction n with
  | zero =>
    refine F.ok scSame (fun vs H Q E h => ?_) (fun cdv A outer s H vs Q E hr h => ?_)
    · obtain ⟨x, y, rfl, _⟩ := h
      rfl
    · obtain ⟨x, y, rfl, ⟨rfl, hx⟩, k⟩ := h
      have hu : (A.deeper (PyProof.Rows.envOfC (Str.ofString "_law_same") (defScope s_law_same) s.heap.objs.size f cdv)).units < cLine := by have := hr.un; omega
      refine ⟨_, PSs.nox (pss_cons (ps_if (pt_val (pe_callB call_isiT (by rfl) Cn.isi (by decide +kernel) (pa_cons (pv 0) (pa_cons (pe_tup (pa_cons (pe_bltn (v := .ty "tuple") (by rfl) Cn.tuple (by decide +kernel) rfl) (pa_cons (pe_bltn (v := .ty "list") (by rfl) Cn.list (by decide +kernel) rfl) pa_nil))) pa_nil)))) (pss_cons ps_never (pss_one ps_never)) pss_nil)
        (pss_cons (ps_if (PW.pt (pw_or (pt_cmpR op_ne (pe_callB call_isi (by rfl) Cn.isi (by decide +kernel) (pa_cons (pv 0) (pa_cons (pe_bltn (v := .ty "bool") (by rfl) Cn.bool (by decide +kernel) rfl) pa_nil))) (pe_callB call_isi (by rfl) Cn.isi (by decide +kernel) (pa_cons (pv 1) (pa_cons (pe_bltn (v := .ty "bool") (by rfl) Cn.bool (by decide +kernel) rfl) pa_nil))) (nomark _))
          (pw_or1 (pt_cmpR op_ne (pe_callB call_isi (by rfl) Cn.isi (by decide +kernel) (pa_cons (pv 0) (pa_cons (pe_bltn (v := .ty "int") (by rfl) Cn.int (by decide +kernel) rfl) pa_nil))) (pe_callB call_isi (by rfl) Cn.isi (by decide +kernel) (pa_cons (pv 1) (pa_cons (pe_bltn (v := .ty "int") (by rfl) Cn.int (by decide +kernel) rfl) pa_nil))) (nomark _))))) (pss_one (ps_ret pe_bl)) pss_nil)
        (pss_one (ps_ret (pe_cmpR (op_eqS hu) (pv 0) (pv 1) (nomark _)))))), ?_⟩
      refine ⟨_, rfl, (by show 2 ≤ sizeLine; decide), fun tp htp => ?_⟩
      have s1 : Same H (L2.upd H tp (.tup [.ty "tuple", .ty "list"])) := Same.nw Same.rf htp
      have hx1 : flatV x = true ∨ ∃ p, x = .ref p ∧ (L2.upd H tp (.tup [.ty "tuple", .ty "list"])) p = some (.dK []) := by
        rcases hx with h | ⟨p, e, h⟩
        · exact .inl h
        · exact .inr ⟨p, e, s1 _ _ h⟩
      obtain ⟨nm, ty, k1, k2, ⟨b1, k3⟩, ⟨b2, k4⟩⟩ := sc_ty (K := K) hx1
      refine ⟨x, tp, _, _, [.type "tuple", .type "list"], false, rfl, upd_same, .cons (.ty "tuple") (.cons (.ty "list") .nil), ty, kit2 k1 k2, false, rfl, ?_⟩
      refine ⟨_, rfl, x, .ty "bool", _, _, b1, rfl, .ty "bool", ty, kit_ty k3, _, rfl, x, .ty "bool", _, _, b1, rfl, .ty "bool", ty, kit_ty k3, rfl, _, rfl, ?_⟩
      rw [decide_eq_true rfl]
      refine ⟨_, rfl, x, .ty "int", _, _, b2, rfl, .ty "int", ty, kit_ty k4, _, rfl, x, .ty "int", _, _, b2, rfl, .ty "int", ty, kit_ty k4, rfl, _, rfl, ?_⟩
      rw [decide_eq_true rfl]
      refine ⟨_, rfl, _, rfl, ?_⟩
      rcases hx1 with h | ⟨p, rfl, h⟩
      · refine .inl ⟨scal_self h, ?_⟩
        rw [decide_eq_true rfl]
        exact k _ s1
      · exact .inr ⟨p, rfl, rfl, h, k _ s1⟩
  | succ n ih =>
    have DS : Dk P w K mg base "_law_same" (n + 1) pSame (spSame n) := ⟨f, fd, ih, g, F.kp, b⟩
    refine F.ok scSame (fun vs H Q E h => ?_) (fun cdv A outer s H vs Q E hr h => ?_)
    · obtain ⟨x, y, rfl, _⟩ := h
      rfl
    · obtain ⟨x, y, rfl, h, k⟩ := h
      have hu : (A.deeper (PyProof.Rows.envOfC (Str.ofString "_law_same") (defScope s_law_same) s.heap.objs.size f cdv)).units < cLine := by have := hr.un; omega
      refine ⟨_, PSs.nox (pss_cons (ps_if (pt_val (pe_callB call_isiT (by rfl) Cn.isi (by decide +kernel) (pa_cons (pv 0) (pa_cons (pe_tup (pa_cons (pe_bltn (v := .ty "tuple") (by rfl) Cn.tuple (by decide +kernel) rfl) (pa_cons (pe_bltn (v := .ty "list") (by rfl) Cn.list (by decide +kernel) rfl) pa_nil))) pa_nil))))
          (pss_cons (ps_if (PW.pt (pw_or (pt_cmpR op_ne (pe_callB call_isi (by rfl) Cn.isi (by decide +kernel) (pa_cons (pv 0) (pa_cons (pe_bltn (v := .ty "tuple") (by rfl) Cn.tuple (by decide +kernel) rfl) pa_nil))) (pe_callB call_isi (by rfl) Cn.isi (by decide +kernel) (pa_cons (pv 1) (pa_cons (pe_bltn (v := .ty "tuple") (by rfl) Cn.tuple (by decide +kernel) rfl) pa_nil))) (nomark _))
              (pw_or1 (pt_not (pt_val (pe_callB call_isiT (by rfl) Cn.isi (by decide +kernel) (pa_cons (pv 1) (pa_cons (pe_tup (pa_cons (pe_bltn (v := .ty "tuple") (by rfl) Cn.tuple (by decide +kernel) rfl) (pa_cons (pe_bltn (v := .ty "list") (by rfl) Cn.list (by decide +kernel) rfl) pa_nil))) pa_nil)))))))) (pss_one (ps_ret pe_bl)) pss_nil)
          (pss_one (ps_ret (pe_and (pe_cmpR op_eq (pe_callB call_len_seq (by rfl) Cn.len PySem.boot_len (pa_cons (pv 0) pa_nil)) (pe_callB call_len_seq (by rfl) Cn.len PySem.boot_len (pa_cons (pv 1) pa_nil)) (nomark _)) (pe_one (pe_callB (cr_all rfl) (by rfl) Cn.all (by decide +kernel) (pa_cons
            (pe_lc (own := [("_law_a", 2), ("_law_b", 3)]) (g := gTup K 2 (gCons (gName 2) (gCons (gName 3) gNil))) (tt := tYes) rfl scSame.nd (RZ.pi_zipA rfl Cn.zip (pa_cons (pv 0) (pa_cons (pv 1) pa_nil))) (blkOk_by (N := nSame) (sc := defScope s_law_same) (by decide +kernel)) (fun _ _ _ _ _ => pg_tup rfl (pgs_cons (pg_name (i := 2) scSame.nd rfl (.inl rfl)) (pgs_cons (pg_name (i := 3) scSame.nd rfl (.inl rfl)) pgs_nil))) (fun _ _ _ _ _ => pts_nil)
              (fun _ _ _ _ _ => pe_cd DS hr rfl (pa_cons (pv 2) (pa_cons (pv 3) pa_nil)))) pa_nil))))))) pss_nil)
        (pss_cons (ps_if (PW.pt (pw_or (pt_cmpR op_ne (pe_callB call_isi (by rfl) Cn.isi (by decide +kernel) (pa_cons (pv 0) (pa_cons (pe_bltn (v := .ty "bool") (by rfl) Cn.bool (by decide +kernel) rfl) pa_nil))) (pe_callB call_isi (by rfl) Cn.isi (by decide +kernel) (pa_cons (pv 1) (pa_cons (pe_bltn (v := .ty "bool") (by rfl) Cn.bool (by decide +kernel) rfl) pa_nil))) (nomark _))
          (pw_or1 (pt_cmpR op_ne (pe_callB call_isi (by rfl) Cn.isi (by decide +kernel) (pa_cons (pv 0) (pa_cons (pe_bltn (v := .ty "int") (by rfl) Cn.int (by decide +kernel) rfl) pa_nil))) (pe_callB call_isi (by rfl) Cn.isi (by decide +kernel) (pa_cons (pv 1) (pa_cons (pe_bltn (v := .ty "int") (by rfl) Cn.int (by decide +kernel) rfl) pa_nil))) (nomark _))))) (pss_one (ps_ret pe_bl)) pss_nil)
        (pss_one (ps_ret (pe_cmpR (op_eqS hu) (pv 0) (pv 1) (nomark _)))))), ?_⟩
      rcases h with ⟨rfl, hx⟩ | ⟨p, q, xs, ys, rfl, rfl, h, hl, pr⟩
      · refine ⟨_, rfl, (by show 2 ≤ sizeLine; decide), fun tp htp => ?_⟩
        have s1 : Same H (L2.upd H tp (.tup [.ty "tuple", .ty "list"])) := Same.nw Same.rf htp
        have hx1 : flatV x = true ∨ ∃ p, x = .ref p ∧ (L2.upd H tp (.tup [.ty "tuple", .ty "list"])) p = some (.dK []) := by
          rcases hx with h | ⟨p, e, h⟩
          · exact .inl h
          · exact .inr ⟨p, e, s1 _ _ h⟩
        obtain ⟨nm, ty, k1, k2, ⟨b1, k3⟩, ⟨b2, k4⟩⟩ := sc_ty (K := K) hx1
        refine ⟨x, tp, _, _, [.type "tuple", .type "list"], false, rfl, upd_same, .cons (.ty "tuple") (.cons (.ty "list") .nil), ty, kit2 k1 k2, false, rfl, ?_⟩
        refine ⟨_, rfl, x, .ty "bool", _, _, b1, rfl, .ty "bool", ty, kit_ty k3, _, rfl, x, .ty "bool", _, _, b1, rfl, .ty "bool", ty, kit_ty k3, rfl, _, rfl, ?_⟩
        rw [decide_eq_true rfl]
        refine ⟨_, rfl, x, .ty "int", _, _, b2, rfl, .ty "int", ty, kit_ty k4, _, rfl, x, .ty "int", _, _, b2, rfl, .ty "int", ty, kit_ty k4, rfl, _, rfl, ?_⟩
        rw [decide_eq_true rfl]
        refine ⟨_, rfl, _, rfl, ?_⟩
        rcases hx1 with h | ⟨p, rfl, h⟩
        · refine .inl ⟨scal_self h, ?_⟩
          rw [decide_eq_true rfl]
          exact k _ s1
        · exact .inr ⟨p, rfl, rfl, h, k _ s1⟩
      · have e0 : xs.length = ys.length := pr.length
        have turn : ∀ (H2 : Hp), Same H H2 → ∀ {G : Hp → Prop} {J : It} {σ : L2.St} {D : Addr} {Qd : Hp → Prop} (wz : Walk J xs.length G (YPair (fun i => xs[i]?) (fun i => ys[i]?))), H2 D = none → (∀ H3, Same H2 H3 → G H3) → σ.length = 4 →
            (∀ H3, Same H2 H3 → H3 D = some (.lst ((xs.map fun _ => true).map V.bl)) → Qd H3) → _ := fun H2 s2 {G J σ D Qd} wz hD hG hσ hd =>
          lc_sm (σ := σ) (vs := [2, 3]) (g := gTup K 2 (gCons (gName 2) (gCons (gName 3) gNil))) (te := tCall (spSame n) [] E0 (tCons (tVar 2) (tCons (tVar 3) tNil))) wz ((xs.map fun _ => true).map V.bl) (by simp) (by omega) hD hG (by
            rintro i x y H3 H4 Kt hi hy s3 ⟨T, x1, y1, rfl, hT, rfl, ex, ey⟩ hk
            obtain rfl := trues_at hy
            obtain ⟨y2, ey2, eq⟩ := paired_ix pr ex
            have e : y2 = y1 := by
              have ey : ys[i]? = some y1 := ey
              rw [ey] at ey2
              exact (Option.some.inj ey2).symm
            subst e
            have l4 : ∃ a b c d, σ = [a, b, c, d] := by
              match σ, hσ with
              | [a, b, c, d], _ => exact ⟨a, b, c, d, rfl⟩
            obtain ⟨s0, s1, _, _, rfl⟩ := l4
            exact ⟨T, _, rfl, SqT.of upd_same, rfl, _, _, rfl, _, _, rfl, rfl, rfl, _, rfl, _, rfl, x1, y2, rfl, eq.sm (Same.tr s2 (Same.tr s3 (Same.nw Same.rf hT))), fun H5 s5 => hk _ (Same.tr (Same.nw Same.rf hT) s5)⟩) hd
        refine ⟨_, rfl, (by show 2 ≤ sizeLine; decide), fun tp htp => ?_⟩
        have s1 : Same H (L2.upd H tp (.tup [.ty "tuple", .ty "list"])) := Same.nw Same.rf htp
        rcases h with ⟨hp, hq⟩ | ⟨hp, hq⟩
        · refine ⟨.ref p, tp, _, _, [.type "tuple", .type "list"], true, rfl, upd_same, .cons (.ty "tuple") (.cons (.ty "list") .nil), .base (.tup (s1 _ _ hp)), kitAny_cons (b := true) (kit_ty (by decide +kernel)) (fun q => Bool.noConfusion q) (fun _ => rfl), true, rfl, ?_⟩
          refine ⟨_, rfl, .ref p, .ty "tuple", _, _, true, rfl, .ty "tuple", .base (.tup (s1 _ _ hp)), kit_ty (by decide +kernel), _, rfl, .ref q, .ty "tuple", _, _, true, rfl, .ty "tuple", .base (.tup (s1 _ _ hq)), kit_ty (by decide +kernel), rfl, _, rfl, ?_⟩
          rw [decide_eq_true rfl]
          refine ⟨_, rfl, (by show 2 ≤ sizeLine; decide), fun tq htq => ?_⟩
          have s2 := Same.nw (o := .tup [.ty "tuple", .ty "list"]) s1 htq
          refine ⟨.ref q, tq, _, _, [.type "tuple", .type "list"], true, rfl, upd_same, .cons (.ty "tuple") (.cons (.ty "list") .nil), .base (.tup (s2 _ _ hq)), kitAny_cons (b := true) (kit_ty (by decide +kernel)) (fun q => Bool.noConfusion q) (fun _ => rfl), true, rfl, ?_⟩
          refine ⟨_, rfl, p, _, rfl, .inr (SqT.of (s2 _ _ hp)), _, rfl, q, _, rfl, .inr (SqT.of (s2 _ _ hq)), rfl, _, rfl, ?_⟩
          rw [e0, decide_eq_true rfl]
          refine iteT ⟨_, rfl, _, rfl, p, q, xs, ys, rfl, .inr ⟨SqT.of (s2 _ _ hp), SqT.of (s2 _ _ hq), fun D hD => turn _ s2 (walk_zipT (K := K) (a := p) (b := q) e0) hD (fun H3 s3 => ⟨SqT.of (s3 _ _ (s2 _ _ hp)), SqT.of (s3 _ _ (s2 _ _ hq))⟩) rfl fun H3 s3 hD3 => ⟨D, _, rfl, SqL.of hD3, ?_⟩⟩⟩
          rw [all_true]
          exact k H3 (Same.tr s2 s3)
        · refine ⟨.ref p, tp, _, _, [.type "tuple", .type "list"], true, rfl, upd_same, .cons (.ty "tuple") (.cons (.ty "list") .nil), .base (.lst (s1 _ _ hp)), kitAny_cons (b := false) (kit_ty (by decide +kernel)) (fun _ => kitAny_cons (b := true) (kit_ty (by decide +kernel)) (fun q => Bool.noConfusion q) (fun _ => rfl)) (fun q => Bool.noConfusion q), true, rfl, ?_⟩
          refine ⟨_, rfl, .ref p, .ty "tuple", _, _, false, rfl, .ty "tuple", .base (.lst (s1 _ _ hp)), kit_ty (by decide +kernel), _, rfl, .ref q, .ty "tuple", _, _, false, rfl, .ty "tuple", .base (.lst (s1 _ _ hq)), kit_ty (by decide +kernel), rfl, _, rfl, ?_⟩
          rw [decide_eq_true rfl]
          refine ⟨_, rfl, (by show 2 ≤ sizeLine; decide), fun tq htq => ?_⟩
          have s2 := Same.nw (o := .tup [.ty "tuple", .ty "list"]) s1 htq
          refine ⟨.ref q, tq, _, _, [.type "tuple", .type "list"], true, rfl, upd_same, .cons (.ty "tuple") (.cons (.ty "list") .nil), .base (.lst (s2 _ _ hq)), kitAny_cons (b := false) (kit_ty (by decide +kernel)) (fun _ => kitAny_cons (b := true) (kit_ty (by decide +kernel)) (fun q => Bool.noConfusion q) (fun _ => rfl)) (fun q => Bool.noConfusion q), true, rfl, ?_⟩
          refine ⟨_, rfl, p, _, rfl, .inl (SqL.of (s2 _ _ hp)), _, rfl, q, _, rfl, .inl (SqL.of (s2 _ _ hq)), rfl, _, rfl, ?_⟩
          rw [e0, decide_eq_true rfl]
          refine iteT ⟨_, rfl, _, rfl, p, q, xs, ys, rfl, .inl ⟨SqL.of (s2 _ _ hp), SqL.of (s2 _ _ hq), fun D hD => turn _ s2 (walk_zip (K := K) (a := p) (b := q) (n := xs.length) (by omega)) hD (fun H3 s3 => ⟨SqL.of (s3 _ _ (s2 _ _ hp)), SqL.of (s3 _ _ (s2 _ _ hq))⟩) rfl fun H3 s3 hD3 => ⟨D, _, rfl, SqL.of hD3, ?_⟩⟩⟩
          rw [all_true]
          exact k H3 (Same.tr s2 s3)
end
end Hr

/-! text B10 -/
set_option Elab.async false
set_option linter.all false
set_option maxRecDepth 100000
set_option maxHeartbeats 4000000
namespace Hr
open PySem L2
/-- a word and the things behind it, as the law pairs them -/
def IsWT (H : Hp) (v : V) (u : Str × List TV) : Prop := u.1.length ≤ 8 ∧ (∀ t ∈ u.2, GoodT t) ∧ u.2.length ≤ 4 ∧ ∃ a p, v = .ref a ∧ H a = some (.tup [.str u.1, .ref p]) ∧ Things H p u.2
def UU (o i : List TV) : List (Str × List TV) := [("outer", o), ("inner", i)]
def rowsU (us : List (Str × List TV)) : List Str := us.flatMap fun u => u.2.map (rowOf u.1)
theorem rowsU_take {us : List (Str × List TV)} {j : Nat} {u : Str × List TV} (h : us[j]? = some u) : rowsU (us.take (j + 1)) = rowsU (us.take j) ++ u.2.map (rowOf u.1) := by
  unfold rowsU
  rw [List.take_add_one, h, List.flatMap_append]
  simp
theorem rowsU_len {us : List (Str × List TV)} (h : ∀ u ∈ us, u.2.length ≤ 4) : (rowsU us).length ≤ us.length * 4 := by
  induction us with
  | nil => simp [rowsU]
  | cons u us ih =>
    have h1 := h u List.mem_cons_self
    have h2 := ih fun v hv => h v (List.mem_cons_of_mem _ hv)
    unfold rowsU at h2 ⊢
    rw [List.flatMap_cons, List.length_append, List.length_map, List.length_cons, Nat.succ_mul]
    omega
section
variable {P : Program} {w : World} {K : PySem.W.Frag} {mg : Str → Option Value} {base : Heap} {f C : Addr} {fd : FuncData}
abbrev nLText : List Str := ["_law_house_here", "_law_rows", "_law_word", "_law_things", "_law_name", "_law_values"]
theorem scLText : FnScope nLText ["_law_house_here"] (defScope s_law_text) := ⟨rfl, rfl, rfl, by decide +kernel, rfl, by decide +kernel, by decide +kernel⟩
theorem ok_ltext (F : FnP K "_law_text" s_law_text f fd) (Cn : Cns K mg) : FnOk P w K mg base CX0 1 f fd ["_law_house_here"] spLText := by
  refine F.ok scLText (fun vs H Q E h => ?_) (fun cdv A outer s H vs Q E hr h => ?_)
  · obtain ⟨p, o, i, h, rfl, _⟩ := h
    rfl
  · obtain ⟨p, o, i, h, rfl, ⟨po, pi, hp, tO, tI⟩, G, k⟩ := h
    obtain ⟨rl1, rl2⟩ := rows_len G
    have w1 : ("outer" : Str).length ≤ 8 := by decide +kernel
    have w2 : ("inner" : Str).length ≤ 8 := by decide +kernel
    have hl := hours_len G.h1 G.h6
    refine ⟨_, PSs.nox (pss_cons (ps_set (i := 1) scLText.nd rfl (.inl rfl) (pe_lst (pa_cons (pe_op op_add_str pe_str (pe_callTy call_str_int (by rfl) Cn.str (by decide +kernel) (pa_cons (pe_ix ix_tup (pv 0) pe_int (fun _ _ => rfl)) pa_nil))) pa_nil)))
      (pss_cons (ps_for PassesOwn.never rfl (pi_list (pe_lst (pa_cons (pe_tup (pa_cons pe_str (pa_cons (pe_ix ix_tup (pv 0) pe_int (fun _ _ => rfl)) pa_nil))) (pa_cons (pe_tup (pa_cons pe_str (pa_cons (pe_ix ix_tup (pv 0) pe_int (fun _ _ => rfl)) pa_nil))) pa_nil)))) (pg_tup rfl (pgs_cons (pg_name (i := 2) scLText.nd rfl (.inr rfl)) (pgs_cons (pg_name (i := 3) scLText.nd rfl (.inl rfl)) pgs_nil)))
        (pss_one (ps_set (i := 1) scLText.nd rfl (.inl rfl) (pe_op op_cat (pv 1) (pe_lc (own := [("_law_name", 4), ("_law_values", 5)]) (g := gTup K 2 (gCons (gName 4) (gCons (gName 5) gNil))) (tt := tYes) (te := tM1 (fun x xs H Q => ∃ a p, ∃ ys : List Str, x = .str a ∧ xs = [.ref p] ∧ (SqL K H p (ys.map V.str) ∨ SqT K H p (ys.map V.str)) ∧ (ys.map (·.length)).sum + ys.length * a.length ≤ 16777216 ∧ Q (.str (Txt.join a ys)) H) (tC (.str " ")) (tOp (rCatA K) (tTup (tCons (tVar 2) (tCons (tVar 4) tNil))) (tVar 5)))
          rfl scLText.nd (pi_tup (pv 3)) (blkOk_by (N := nLText) (sc := defScope s_law_text) (by decide +kernel)) (fun _ _ _ _ _ => pg_tup rfl (pgs_cons (pg_name (i := 4) scLText.nd rfl (.inl rfl)) (pgs_cons (pg_name (i := 5) scLText.nd rfl (.inl rfl)) pgs_nil))) (fun _ _ _ _ _ => pts_nil)
          (fun _ _ _ _ _ => pe_join pe_str (pe_op op_catA (pe_tup (pa_cons (pv 2) (pa_cons (pv 4) pa_nil))) (pv 5))))))))
      (pss_one (ps_ret (pe_join pe_str (pv 1)))))), ?_⟩
    refine ⟨_, rfl, p, _, 2, _, rfl, rfl, SqT.of hp, rfl, h, rfl, log_small G.h1 G.h6, _, _, rfl, rfl, ?_, (by show 1 ≤ sizeLine; decide), fun q0 hq0 => ?_⟩
    · rw [← add_len]
      exact Nat.le_trans hl (by decide)
    rw [show (Str.ofString "hours " ++ Str.ofString (toString h)) = hoursT h from rfl]
    have s0 : Same H (L2.upd H q0 (.lst [.str (hoursT h)])) := Same.nw Same.rf hq0
    refine ⟨_, rfl, p, _, 0, _, rfl, rfl, SqT.of (s0 _ _ hp), rfl, (by show 2 ≤ sizeLine; decide), fun a1 ha1 => ?_⟩
    have s1 := Same.nw (o := .tup [.str "outer", .ref po]) s0 ha1
    refine ⟨_, rfl, p, _, 1, _, rfl, rfl, SqT.of (s1 _ _ hp), rfl, (by show 2 ≤ sizeLine; decide), fun a2 ha2 => ⟨(by show 2 ≤ sizeLine; decide), fun pl hpl => ?_⟩⟩
    have s2 := Same.nw (o := .tup [.str "inner", .ref pi]) s1 ha2
    have s3 := Same.nw (o := .lst [.ref a1, .ref a2]) s2 hpl
    have hr0 := uk (u := .lst [.ref a1, .ref a2]) (uk (u := .tup [.str "inner", .ref pi]) (uk (u := .tup [.str "outer", .ref po]) (upd_same (H := H) (a := q0) (o := .lst [.str (hoursT h)])) ha1) ha2) hpl
    have hpl3 := upd_same (H := L2.upd (L2.upd (L2.upd H q0 (.lst [.str (hoursT h)])) a1 (.tup [.str "outer", .ref po])) a2 (.tup [.str "inner", .ref pi])) (a := pl) (o := .lst [.ref a1, .ref a2])
    have pw : Paired (IsWT (L2.upd (L2.upd (L2.upd (L2.upd H q0 (.lst [.str (hoursT h)])) a1 (.tup [.str "outer", .ref po])) a2 (.tup [.str "inner", .ref pi])) pl (.lst [.ref a1, .ref a2]))) [.ref a1, .ref a2] (UU o i) := by
      refine .cons ⟨w1, G.og, Nat.le_succ_of_le G.o3, a1, po, rfl, uk (uk upd_same ha2) hpl, tO.tk (TK.sm s3)⟩ (.cons ⟨w2, G.ig, G.i4, a2, pi, rfl, uk upd_same hpl, tI.tk (TK.sm s3)⟩ .nil)
    generalize (L2.upd (L2.upd (L2.upd (L2.upd H q0 (.lst [.str (hoursT h)])) a1 (.tup [.str "outer", .ref po])) a2 (.tup [.str "inner", .ref pi])) pl (.lst [.ref a1, .ref a2])) = H3 at s3 hr0 hpl3 pw ⊢
    refine ⟨pl, rfl, ⟨_, SqL.of hpl3⟩, for_list (K := K) (a := pl) (xs := [.ref a1, .ref a2])
      (fun j σ H' => ∃ (v2 v3 : Option V) (q : Addr), σ = [some (.ref p), some (.ref q), v2, v3, none, none] ∧ Same H3 H' ∧ H' q = some (.lst ((hoursT h :: rowsU ((UU o i).take j)).map V.str)))
      ⟨none, none, q0, rfl, Same.rf, hr0⟩ (fun j σ H' _ ⟨_, _, _, _, s, _⟩ => SqL.of (s _ _ hpl3)) ?_ ?_⟩
    · rintro j y σ H' hj ⟨v2, v3, q, rfl, sj, hq⟩
      obtain ⟨u, hu, ul, ug, u4, a, pp, rfl, ha, tu⟩ := paired_ix pw hj
      have hj2 : j < 2 := by
        rcases Nat.lt_or_ge j 2 with h | h
        · exact h
        · rw [List.getElem?_eq_none h] at hj
          cases hj
      obtain ⟨us, hus, pu⟩ := tu.tk (TK.sm sj)
      have lr : (rowsU ((UU o i).take j)).length ≤ 8 := by
        refine Nat.le_trans (rowsU_len fun u hu => ?_) ?_
        · have hm := List.mem_of_mem_take hu
          rcases List.mem_cons.mp hm with rfl | hm
          · have := G.o3
            show o.length ≤ 4
            omega
          · rw [List.mem_singleton.mp hm]
            exact G.i4
        · rw [List.length_take]
          show min j 2 * 4 ≤ 8
          omega
      refine ⟨a, _, rfl, SqT.of (sj _ _ ha), rfl, _, _, rfl, _, _, rfl, rfl, ?_⟩
      refine ⟨_, rfl, _, rfl, pp, rfl, ⟨_, SqT.of hus⟩, fun D hD => lc_sm (walk_tup (K := K) (a := pp) (xs := us)) ((u.2.map (rowOf u.1)).map V.str) (by rw [List.length_map, List.length_map, pu.length]) (by rw [pu.length]; omega) hD (fun _ s => SqT.of (s _ _ hus)) ?_ ?_⟩
      · rintro m v y H4 H5 Kt hm hy s4 ⟨rfl, hv⟩ hk
        obtain ⟨t, ht, b1, b2, rfl, h1, h2⟩ := paired_ix pu hv
        have gt := ug t (List.mem_of_getElem? ht)
        have e : y = V.str (rowOf u.1 t) := by
          rw [List.map_map, List.getElem?_map, ht] at hy
          exact (Option.some.inj hy).symm
        subst e
        obtain ⟨q1, q2⟩ := parts_len ul gt
        have e1 : (" " : Str).length = 1 := by decide +kernel
        have nv : t.2.map V.str ≠ [] := fun e => by
          have := gt.2.2.2.1
          rw [List.map_eq_nil_iff.mp e] at this
          exact absurd this (by decide)
        refine ⟨b1, _, rfl, SqT.of (s4 _ _ h1), rfl, _, _, rfl, _, _, rfl, rfl, rfl, ⟨_, rfl⟩, _, rfl, _, rfl, (by show 2 ≤ sizeLine; decide), fun c1 hc1 => ⟨_, rfl, c1, b2, _, _, rfl, rfl, SqT.of upd_same, SqT.of (uk (s4 _ _ h2) hc1), ?_, (fun e => absurd e (List.cons_ne_nil _ _)), (fun _ e => absurd e nv), fun _ _ c2 hc2 => ?_⟩⟩
        · rw [List.length_map]
          exact Nat.le_trans (by have := gt.2.2.2.2; show 2 + t.2.length ≤ 6; omega) (by decide : 6 ≤ sizeLine)
        · refine ⟨" ", c2, u.1 :: t.1 :: t.2, rfl, rfl, .inr (SqT.of ?_), by rw [e1]; omega, hk _ (Same.nw (Same.nw Same.rf hc1) hc2)⟩
          rw [upd_same]
          rfl
      · intro H4 s4 hD4
        refine ⟨q, D, _, _, rfl, rfl, s4 _ _ hq, hD4, ?_, fun q5 hq5 => ?_⟩
        · rw [List.length_map, List.length_map, List.length_map, List.length_cons]
          exact Nat.le_trans (by omega : (rowsU ((UU o i).take j)).length + 1 + u.2.length ≤ 100) (by decide)
        refine ⟨_, _, q5, rfl, Same.nw (Same.tr sj s4) hq5, ?_⟩
        rw [upd_same, rowsU_take hu, List.map_cons, List.map_cons, List.map_append]
        rfl
    · rintro σ H' ⟨v2, v3, q, rfl, sj, hq⟩
      have el : hoursT h :: rowsU ((UU o i).take 2) = rowsT o i h := by
        show hoursT h :: (o.map (rowOf "outer") ++ (i.map (rowOf "inner") ++ [])) = _
        rw [List.append_nil]
        rfl
      have e1 : ("\n" : Str).length = 1 := by decide +kernel
      refine ⟨⟨_, rfl⟩, _, rfl, "\n", q, rowsT o i h, rfl, rfl, .inl (SqL.of ?_), by rw [e1]; exact rl1, k _ (Same.tr s3 sj)⟩
      rw [← el]
      exact hq
end
end Hr

/-! text Z3 -/
set_option Elab.async false
set_option linter.all false
set_option maxRecDepth 100000
set_option maxHeartbeats 4000000
namespace Hr
open PySem PySem.Spec PyProof.Rows L2
section
variable {X : Cx} {pins : List (Addr × Obj)} {σ : L2.St} {H : Hp} {s : Shared} {k : Nat} {f C : Addr} {fd : FuncData} {sp : Sp}
/-- a method without arguments, called from a built-in that stands around -/
theorem meth_at {A : Around} {Q : VK} {p : Addr} (F : FnOk X.prog X.w X.K X.mg X.base CX0 k f fd ["self"] sp) (b : Binds X.K fd ["self"] []) (hr : Room k A) (e0 : Env0 X.prog X.w X.K X.mg X.base A X.stack s H) (I : Inv X pins σ H s) (h : sp [.ref p] H Q E0) :
    wpAny (model X.prog X.w) A (call (.ref f) [.ref p]) (EP X pins σ Q) X.xe s := by
  refine wpAny_call (codeAny_mono (F.run A X.stack s H ⟨[.ref p], []⟩ [.ref p] [.ref p] Q E0 hr e0 (b s [.ref p] I.kIn rfl) (.cons rfl .nil) h) fun r s' q => ?_)
  cases r with
  | error e => exact (pass0 (X := X)) pins σ H s e s' I q
  | ok fl =>
    cases fl with
    | ret u => exact I.after q
    | next => exact q.elim
    | brk => exact q.elim
    | cont => exact q.elim
/-- str(x), x of a class of one's own with __str__ -/
theorem call_strO (F : FnOk X.prog X.w X.K X.mg X.base CX0 k f fd ["self"] sp) (b : Binds X.K fd ["self"] []) (hs : PySem.W.findIn X.K (.ref C) "__str__" = some (some (.ref f))) (hf : PySem.W.isFn X.K (.ref f) = true) (hr : Room (k + 2) X.A) :
    CallR X (.type "str") (fun xs H Q => ∃ p dx fs, xs = [.ref p] ∧ H p = some (.ins C dx fs) ∧ sp [.ref p] H (fun v H' => ∃ z, v = .str z ∧ Q v H') E0) := by
  intro pins s σ H xs us Q I r h
  obtain ⟨p, dx, fs, rfl, hp, h⟩ := h
  obtain ⟨u, rfl, ru⟩ := vals1 r
  cases (show u = Value.ref p from ru)
  obtain ⟨mA, O, _⟩ := ins_get I.hok hp
  obtain ⟨od, J, _⟩ := O.look
  have hr2 : Room k X.A.in1.in1 := (show Room (k + 1) X.A.in1 from Room.in1 hr).in1
  refine PySem.W.kso_call (by have := hr2.un; omega) I.kIn J hs hf (wpAny_mono (meth_at F b hr2 I.env0.in1.in1 I h) (fun v s' z => ?_) fun _ _ e => e)
  obtain ⟨x, H', I', rx, z, rfl, q⟩ := z
  obtain ⟨t, rfl⟩ := (show ∃ t, v = Value.str z t from rx)
  exact ⟨.str z, H', I', ⟨t, rfl⟩, q⟩
/-- len(x), x of a class of one's own with __len__ -/
theorem call_lenO (F : FnOk X.prog X.w X.K X.mg X.base CX0 k f fd ["self"] sp) (b : Binds X.K fd ["self"] []) (hs : PySem.W.findIn X.K (.ref C) "__len__" = some (some (.ref f))) (hf : PySem.W.isFn X.K (.ref f) = true) (hr : Room (k + 2) X.A) :
    CallR X (.builtin "len") (fun xs H Q => ∃ p dx fs, xs = [.ref p] ∧ H p = some (.ins C dx fs) ∧ sp [.ref p] H (fun v H' => ∃ n : Int, v = .int n ∧ 0 ≤ n ∧ n < 2 ^ 63 ∧ Q v H') E0) := by
  intro pins s σ H xs us Q I r h
  obtain ⟨p, dx, fs, rfl, hp, h⟩ := h
  obtain ⟨u, rfl, ru⟩ := vals1 r
  cases (show u = Value.ref p from ru)
  obtain ⟨mA, O, _⟩ := ins_get I.hok hp
  obtain ⟨od, J, _⟩ := O.look
  have hr2 : Room k X.A.in1 := Room.in1 (hr.mono (by omega))
  refine Calls.call_function_entry kind_len plain_len entry_len (args_len1 _) ?_
  unfold Builtin.«len»
  refine wpAny_bind (m := oneArg "len" _) (wpAny_pure (wpAny_bind (m := callSpecial? (.ref p) (Str.ofString "__len__")) (PySem.W.special_fn I.kIn J hs (beq_iff_eq.mp hf) (wpAny_mono (meth_at F b hr2 I.env0.in1 I h) (fun v s' z => ?_) fun _ _ e => e))))
  obtain ⟨x, H', I', rx, n, rfl, n0, n1, q⟩ := z
  obtain ⟨t, rfl⟩ := (show ∃ t, v = Value.int n t from rx)
  refine wpAny_bind (wpAny_holding (wpAny_pure (wpAny_bind (wpAny_letGo ?_))))
  show wpAny _ _ (ite (n < 0) _ _) _ _ _
  rw [if_neg (by omega)]
  show wpAny _ _ (ite (n ≥ 2 ^ 63) _ _) _ _ _
  rw [if_neg (by omega)]
  exact wpAny_bind (wpAny_mkInt (wpAny_pure ⟨_, rfl, .int n, H', I'.tok _, ⟨_, rfl⟩, q⟩))
end
end Hr

/-! text E1 -/
set_option Elab.async false
set_option linter.all false
set_option maxRecDepth 100000
set_option maxHeartbeats 4000000
/-! an own error class whose __init__ says super().__init__(text) and stores one field -/
namespace Hx
open PySem PySem.W PySem.Calls PyProof.Rows Builtin Builtin.ObjectAttr
def iArgs (a : Str) (p1 p2 : Pos) : Arguments := { posonlyargs := [], args := [{ arg := "self", annotation := none, pos := p1 }, { arg := a, annotation := none, pos := p2 }], vararg := none, kwonlyargs := [], kw_defaults := [], kwarg := none, defaults := [] }
def iBody (txt a : Str) (q1 q2 q3 q4 q5 q6 q7 q8 q9 q10 : Pos) : List Stmt :=
  [.Expr (.Call (.Attribute (.Call (.Name "super" q1) [] [] q2) "__init__" q3) [.Constant (.str txt) 0 q4] [] q5) q6, .Assign [.Attribute (.Name "self" q7) a q8] (.Name a q9) q10]
def iScope (a : Str) : Scope := { kind := .function, names := [(PySem.Str.ofString "self", .local), (a, .local), (PySem.Str.ofString "__class__", .free), (PySem.Str.ofString "super", .globalImplicit)], isGenerator := false, isCoroutine := false, more := [] }
/-- the facts of a built-in base -/
structure BFacts (B newId initId : String) (bmB : List Value) : Prop where
  fb : ExcBaseFacts B newId initId bmB
  kf : KxsFacts B initId
  sf : StoreFacts B bmB "object.__setattr__" "object"
theorem bLookup : BFacts "LookupError" "LookupError.__new__" "LookupError.__init__" [.type "LookupError", .type "Exception", .type "BaseException", .type "object"] := ⟨F.excBase_LookupError, kxs_LookupError, F.store_LookupError⟩
theorem bValue : BFacts "ValueError" "ValueError.__new__" "ValueError.__init__" [.type "ValueError", .type "Exception", .type "BaseException", .type "object"] := ⟨F.excBase_ValueError, kxs_ValueError, F.store_ValueError⟩
/-- a field's name: none of the three others -/
structure FldOk (a : Str) : Prop where
  kA : (iScope a).names.lookup a = some .local
  kC : (iScope a).names.lookup ("__class__" : Str) = some .free
  kS : (iScope a).names.lookup ("super" : Str) = some .globalImplicit
  nc : ∀ y ∈ (iScope a).names, y.2 ≠ .cell
  bS : ∀ x v : Value, ([(PySem.Str.ofString "self", x), (a, v)] : List (Str × Value)).reverse.lookup ("self" : Str) = some x
  bA : ∀ x v : Value, ([(PySem.Str.ofString "self", x), (a, v)] : List (Str × Value)).reverse.lookup a = some v
  db : (a == ("__debug__" : Str)) = false
/-- what the written part says of the class at C and of its __init__ at fI -/
structure XTxt (prog : Program) (K : Frag) (C fI : Addr) (B newId initId : String) (bmB : List Value) (txt a : Str) : Prop where
  ini : excInitIn K C bmB newId = true
  ovr : excOver K C bmB = true
  tak : takerIn K C a = some none
  noA : findIn K (.ref C) a = some none
  sa : findIn K (.ref C) "__setattr__" = some (some (.builtin "object.__setattr__"))
  ga : findIn K (.ref C) "__getattribute__" = some (some (.builtin "BaseException.__getattribute__"))
  gg : findIn K (.ref C) "__getattr__" = some none
  iC : findIn K (.ref C) "__init__" = some (some (.ref fI))
  tC : isFn K (.ref fI) = true
  kC : keepIn K (.ref C) = true
  exC : subIn K (.ref C) (.type "BaseException") = some true
  tyC : typeIn K (.ref C) = some (.type "type")
  hdC : hasDictIn K C = true
  sB : subIn K (.ref C) (.type B) = some true
  sC : mroIn K C (.ref C) = some true
  sup : ks_superIn K C C "__init__" = some (some (.builtin initId))
  opq : nsIn K cStatics "thirdparty.any" = some none
  top : (prog.main.scope.names.lookup ("super" : Str)).isSome = false
  fn : ∃ (oc : Value) (od : Option Addr) (kV doc pm : Value) (an : Option Addr) (cda : Addr) (ct : Value) (osl : Array (Option Value)) (cell : Addr) (qual : Str) (p1 p2 q1 q2 q3 q4 q5 q6 q7 q8 q9 q10 : Pos),
    K.lookup fI = some ⟨oc, od, .func (fnX "__init__" qual (iArgs a p1 p2) (iBody txt a q1 q2 q3 q4 q5 q6 q7 q8 q9 q10) (iScope a) [("__class__", cell)] .none kV doc pm an (.ref cda) ct), osl⟩ ∧ codeIn K (.ref cda) qual = true ∧ (∀ (s : Shared) (x v : Value), BindsTo s (fnX "__init__" qual (iArgs a p1 p2) (iBody txt a q1 q2 q3 q4 q5 q6 q7 q8 q9 q10) (iScope a) [("__class__", cell)] .none kV doc pm an (.ref cda) ct) ⟨[x, v], []⟩ [("self", x), (a, v)]) ∧
      (∀ env : Env, ∃ pl : Sem Bool, eval (.Call (.Attribute (.Call (.Name "super" q1) [] [] q2) "__init__" q3) [.Constant (.str txt) 0 q4] [] q5) env = (do
        let ov ← attributeBase (.Call (.Name "super" q1) [] [] q2) "__init__" env (eval (.Call (.Name "super" q1) [] [] q2) env)
        standAt q3.atName
        let (f, first) ← holding [ov] (getMethod ov "__init__" pl)
        callWith q5 f first (backTo q5 (starEach [.Constant (.str txt) 0 q4] env)) [])) ∧
      (∃ cl cld csl, K.lookup cell = some ⟨cl, cld, .cell (some (.ref C)), csl⟩) ∧ ∃ kc kd vs ks tf, K.lookup cda = some ⟨kc, kd, .fields vs, ks⟩ ∧ vs[2]? = some (.str prog.main.file tf)
/-- the module around, as the heap has it -/
structure ModH (mg : Str → Option Value) (h : Heap) : Prop where
  g : h.Ns mainGlobals mg
  b : ∃ mb, h.Ns builtinsNs mb ∧ ∀ x : Str, x ≠ "__name__" → mb x = bootBuiltins x
theorem ModH.keeps {mg : Str → Option Value} {h h' : Heap} (m : ModH mg h) (k : ∀ b o, h.get? b = some o → h'.get? b = some o) : ModH mg h' := by
  obtain ⟨g, mb, b1, b2⟩ := m
  exact ⟨g.keeps k, mb, b1.keeps k, b2⟩
/-- what __init__ leaves of a fresh error at x -/
structure IEnd (h h' : Heap) (x C dx t1 : Addr) (a : Str) (v : Value) : Prop where
  keep : ∀ b o, b ≠ x → h.get? b = some o → h'.get? b = some o
  obj : h'.get? x = some { cls := .ref C, dict := some dx, data := .fields #[.ref t1, .none, .none, .none, .bool false, .none] }
  dbig : h.objs.size ≤ dx
  dne : dx ≠ x
  ns : h'.Ns1 dx (fun y => if y = a then some v else none)
section
variable {prog : Program} {w : World} {A : Around} {E : Value → Shared → Prop} {R : Result → Shared → Prop} {s : Shared} {K : Frag} {mg : Str → Option Value} {C fI : Addr} {B newId initId : String} {bmB : List Value} {txt a : Str}
/-- super().__init__(..) called, over the heap -/
theorem call_mw {h : Heap} {g : Array GenState} {d : Drawn} {t : Nat} {os : OsState} {u x t0 : Addr} {rest : List Value} {Q : Value → Shared → Prop} (BF : BFacts B newId initId bmB) (X : K.In h) (q : excInitIn K C bmB newId = true)
    (hu : h.get? u = some (kxs_mw initId x)) (hx : h.get? x = some (HandSPX.excO C t0)) (hz : rest.length ≤ sizeLine)
    (k : ∀ h', (∀ b o, b ≠ x → h.get? b = some o → h'.get? b = some o) → h'.get? x = some (HandSPX.excO C h.objs.size) → Q .none ⟨h', g, d, t, os⟩) :
    wpAny (model prog w) A (call (.ref u) rest) Q E ⟨h, g, d, t, os⟩ := by
  obtain ⟨nm, N', qn, bs, bm, hdct, sn, sub, ab, col, dd, k0, k1, k2, k3, k5, hC, hT⟩ := excInit_of X q
  refine wpAny_call (codeAny_of_tree (show wpAny _ A.in1 (callAny (.ref u) ⟨rest, []⟩) _ _ _ from ?_))
  simp only [callAny]
  refine wpAny_bind (wpAny_load hu ?_)
  simp only [kxs_mw, (by decide : (Value.type "method-wrapper" == Value.type "method" || Value.type "method-wrapper" == Value.type "builtin_function_or_method" || Value.type "method-wrapper" == Value.type "method-wrapper") = true), if_true]
  refine KFB.if_so (by decide) (wpAny_bind (check_bound_init BF.fb.toExcCallFacts hC hx rfl (wpAny_bind (wpAny_pure (wpAny_pure ⟨plainId_quiet BF.fb.init.plain _, codeAny_builtin BF.fb.initEntry ?_⟩)))))
  exact exc_init_tree (cls := .ref C) (t0 := t0) (dv := none) (c2 := .none) (c3 := .none) (b4 := .bool false) hx hz fun h' kp e _ => k h' kp e
/-- self.a = v on such an error without a dict -/
theorem store_fld {hp : Heap} {g : Array GenState} {d : Drawn} {t : Nat} {os : OsState} {x : Addr} {fv : Array Value} {tk : Tok} {v : Value} (BF : BFacts B newId initId bmB) (T : XTxt prog K C fI B newId initId bmB txt a) (X : K.In hp) (hx : hp.get? x = some { cls := .ref C, data := .fields fv })
    (k : ∀ h' tk' dx, (∀ b o, b ≠ x → hp.get? b = some o → h'.get? b = some o) → hp.objs.size ≤ dx → dx ≠ x → h'.get? x = some { cls := .ref C, dict := some dx, data := .fields fv } → h'.Ns1 dx (fun y => if y = a then some v else none) → R (.ok (.ret .none)) ⟨h', g, d, tk', os⟩) :
    codeAny (model prog w) A (.call (.builtin "object.__setattr__") ⟨[.ref x, .str a tk, v], []⟩) R ⟨hp, g, d, t, os⟩ := by
  have I : InstAt hp x { cls := .ref C, data := .fields fv } C none := ⟨hx, rfl, rfl, trivial⟩
  have xs : x ≠ hp.objs.size := Nat.ne_of_lt (Heap.lt_size hx)
  refine osa_openX (s := ⟨hp, g, d, t, os⟩) BF.sf X I T.ovr T.tak fun b => ?_
  obtain ⟨cd, hcd, hh⟩ := any_some T.hdC
  have Lc : Looks (model prog w) hp (classData C) cd := looks_clsIn X hcd
  obtain ⟨nm, bs, mro, ns, qn, hd, sn, sb, ab, col, del⟩ := cd
  dsimp only at hh
  subst hh
  show wpAny _ _ (storeInOwnDict (.ref x) (.ref C) (.str a tk) a v b) _ _ _
  unfold storeInOwnDict ownDictForStores
  repeat (first | with_reducible refine HandSPX.store_in_new ?_ ?_ | with_reducible refine wpAny_loadPart_at hx ?_ | with_reducible refine Lc.at ?_ | wp_step)
  · exact ⟨_, #[], _, (Heap.get?_update_ne _ _ _ _ xs.symm).trans (Heap.get?_push_at rfl rfl), rfl, fun e he => absurd he (by simp), fun _ => rfl⟩
  · intro h' tk' hn' sb
    have hx1 : (hp.push { cls := .type "dict", data := .dict #[] }).get? x = some { cls := .ref C, data := .fields fv } := Heap.get?_push_of_some _ hx
    exact k h' tk' hp.objs.size (fun c o hc ho => (sb.2 c (Nat.ne_of_lt (Heap.lt_size ho))).trans ((Heap.get?_update_ne _ _ _ _ hc).trans (Heap.get?_push_of_some _ ho))) (Nat.le_refl _) xs.symm ((sb.2 x xs).trans (Heap.get?_update_self _ hx1 rfl)) hn'
theorem x_init (BF : BFacts B newId initId bmB) (FO : FldOk a) (T : XTxt prog K C fI B newId initId bmB txt a) {x t0 : Addr} {v : Value} (X : K.In s.heap) (M : ModH mg s.heap) (hsup : mg "super" = none) (hlim : s.heap.NoLimit) (hx : s.heap.get? x = some (HandSPX.excO C t0)) (hnx : K.lookup x = none) (hroom : A.depth < recursionLimit)
    (k : ∀ h' tk dx t1, IEnd s.heap h' x C dx t1 a v → R (.ok (.ret .none)) { s with heap := h', toks := tk }) : codeAny (model prog w) A (.call (.ref fI) ⟨[.ref x, v], []⟩) R s := by
  obtain ⟨oc, od, kV, doc, pm, an, cda, ct, osl, cell, qual, p1, p2, q1, q2, q3, q4, q5, q6, q7, q8, q9, q10, ho, hcd, hbi, hev, ⟨cl, cld, csl, hcell⟩, kc, kd, vs, ks, tf, hcode, hvs⟩ := T.fn
  obtain ⟨cdC, hclC, _⟩ := any_some T.hdC
  refine ks_codeAny_call_defAt (binds := [("self", .ref x), (a, v)]) hroom (X _ _ ho) rfl hlim (codeRec_of X hcd) rfl (hbi s _ _) FO.nc (fun y hy => ?_) (fun h1 hn1 k1 => ?_) rfl rfl rfl
  · rcases List.mem_cons.mp hy with rfl | hy
    · rfl
    · rw [List.mem_singleton.mp hy]
      exact FO.kA
  have X1 := X.keeps k1
  have M1 := M.keeps k1
  have hx1 := k1 _ _ hx
  obtain ⟨mb, b1, b2⟩ := M1.b
  obtain ⟨oD, hD1, hD2⟩ : ∃ oD, h1.get? C = some oD ∧ oD.data = .cls cdC := by
    unfold clsIn at hclC
    split at hclC
    · rename_i c d cd' sl ho'
      cases hclC
      exact ⟨_, X1 _ _ ho', rfl⟩
    · cases hclC
  obtain ⟨hp, g, d, t, os⟩ := s
  show _root_.PySem.wpAt _ _ _ (execs (iBody txt a q1 q2 q3 q4 q5 q6 q7 q8 q9 q10) _) _ _ ⟨h1, g, d, t + 2, os⟩
  refine ks_wpAt_execs_cons (ks_wpAt_Expr_any ?_)
  obtain ⟨pl, hev⟩ := hev (callEnv (fnX "__init__" qual (iArgs a p1 p2) (iBody txt a q1 q2 q3 q4 q5 q6 q7 q8 q9 q10) (iScope a) [("__class__", cell)] .none kV doc pm an (.ref cda) ct) hp.objs.size fI)
  refine ks_wpAt_MethodCall (ks_wpAt_super_base FO.kS FO.kC (by decide) rfl (X1 _ _ ho) rfl (ar := { arg := "self", annotation := none, pos := p1 }) rfl rfl (X1 _ _ hcode) rfl hvs (by simp) T.top ?_) hev
  refine ks_loadName_global rfl FO.kS (loadGlobal_builtin M1.g hsup b1 ((b2 "super" (by decide +kernel)).trans (by decide +kernel)) ⟨rfl, ?_⟩)
  refine wpAny_loadName_free rfl FO.kC rfl ⟨_, X1 _ _ hcell, rfl⟩ (wpAny_loadName_local rfl rfl hn1 (FO.bS _ _) (ks_wpAny_isType_cls hD1 hD2 ⟨rfl, ?_⟩))
  refine ks_wpAny_call_super hD1 hD2 hx1 rfl (fun c e => nomatch e) (looks_mroIn X1 T.sC) (fun h2 hso k2 => ?_)
  have X2 := X1.keeps k2
  have hx2 := k2 _ _ hx1
  have I2 : InstAt h2 x (HandSPX.excO C t0) C none := ⟨hx2, rfl, rfl, trivial⟩
  have sup := T.sup
  unfold ks_superIn at sup
  rw [hclC, Option.bind_some] at sup
  refine kxs_getMethod BF.kf hso (looks_opaque X2 T.opq) (l₀ := cdC.mro) (fun A Q E s k q => wpAny_bind ((looks_clsIn X2 hclC) A _ E s k (wpAny_pure q))) rfl X2 sup (I2.type.andThen (looks_subIn X2 T.sB)) (ks_ne X2 I2 hclC) (by decide) ?_
  have k3 : ∀ b o, h2.get? b = some o → (h2.push (kxs_mw initId x)).get? b = some o := fun b o e => Heap.get?_push_of_some _ e
  have hu : (h2.push (kxs_mw initId x)).get? h2.objs.size = some (kxs_mw initId x) := Heap.get?_push_size _ rfl
  refine kxs_callWith (i := initId) (x := x) rfl (evalArgs_plain (PyProof.Rows.args_cons (Calls.Constant_str (PyProof.Rows.args_nil ⟨hu, ?_⟩)) rfl))
  refine call_mw BF (X2.keeps k3) T.ini hu (k3 _ _ hx2) (by show 1 ≤ sizeLine; decide) fun h4 k4 hx4 => ?_
  have nL : (⟨hp, g, d, t, os⟩ : Shared).heap.objs.size ≠ x := Nat.ne_of_gt (Heap.lt_size hx)
  have k14 : ∀ b o, b ≠ x → h1.get? b = some o → h4.get? b = some o := fun b o hb e => k4 b o hb (k3 b o (k2 b o e))
  have X4 : K.In h4 := fun b o e => k14 b o (fun z => by
    rw [z, hnx] at e
    cases e) (X1 _ _ e)
  have hn4 : h4.Ns hp.objs.size (fun y => ([(PySem.Str.ofString "self", Value.ref x), (a, v)] : List (Str × Value)).reverse.lookup y) := by
    obtain ⟨oL, es, ep, hL, r⟩ := hn1
    exact ⟨oL, es, ep, k14 _ _ nL hL, r⟩
  refine ks_wpAt_execs_cons (ks_wpAt_Assign_Attr (wpAt_of_wpAny (wpAny_Name (wpAny_loadName_local rfl FO.kA hn4 (FO.bA _ _) ?_) FO.db)))
  refine wpAny_Name (wpAny_loadName_local rfl rfl hn4 (FO.bS _ _) ?_) (by decide)
  refine set_plain X4 (od := none) ⟨hx4, rfl, rfl, trivial⟩ T.sa ?_
  refine store_fld BF T X4 hx4 fun h5 tk5 dx k5 dn dne hx5 hn5 => ?_
  refine wpAt_of_wpAny (wpAny_execs_nil (k h5 tk5 dx _ ⟨fun b o hb e => k5 b o hb (k14 b o hb (k1 b o e)), hx5, ?_, dne, hn5⟩))
  obtain ⟨oL, _, _, hL, _⟩ := hn4
  exact Nat.le_trans (Nat.le_of_lt (Heap.lt_size hL)) dn
end
end Hx

/-! text E2 -/
set_option Elab.async false
set_option linter.all false
set_option maxRecDepth 100000
set_option maxHeartbeats 4000000
namespace Hx
open PySem PySem.W PySem.Calls PyProof.Rows Builtin Builtin.ObjectAttr
/-- a made error -/
structure XMade (h h' : Heap) (e C d : Addr) (a : Str) (v : Value) : Prop where
  keep : ∀ b o, h.get? b = some o → h'.get? b = some o
  new : h.objs.size ≤ e
  obj : ∃ t1, h'.get? e = some { cls := .ref C, dict := some d, data := .fields #[.ref t1, .none, .none, .none, .bool false, .none] }
  dbig : h.objs.size ≤ d
  dne : d ≠ e
  ns : h'.Ns1 d (fun y => if y = a then some v else none)
section
variable {prog : Program} {w : World} {A : Around} {E : Value → Shared → Prop} {R : Result → Shared → Prop} {s : Shared} {K : Frag} {mg : Str → Option Value} {C fI : Addr} {B newId initId : String} {bmB : List Value} {txt a : Str}
theorem x_made (BF : BFacts B newId initId bmB) (FO : FldOk a) (T : XTxt prog K C fI B newId initId bmB txt a) {v : Value} (X : K.In s.heap) (M : ModH mg s.heap) (hsup : mg "super" = none) (hlim : s.heap.NoLimit) (hroom : A.depth + 1 < recursionLimit)
    (k : ∀ h' tk e d, XMade s.heap h' e C d a v → R (.ok (.ret (.ref e))) { s with heap := h', toks := tk }) : codeAny (model prog w) A (.call (.ref C) ⟨[v], []⟩) R s := by
  obtain ⟨nm, N', qn, bs, bm, hdct, sn, sub, ab, col, dd, k0, k1, k2, k3, k5, hC, hT⟩ := excInit_of X T.ini
  obtain ⟨oI, hoI, hcI⟩ : ∃ oI, s.heap.get? fI = some oI ∧ oI.cls = .type "function" := by
    obtain ⟨o, ho, hc⟩ := Option.map_eq_some_iff.mp (show (K.lookup fI).map (·.cls) = some (.type "function") from beq_iff_eq.mp T.tC)
    exact ⟨o, X _ _ ho, hc⟩
  obtain ⟨hp, g, dr, tk, os⟩ := s
  have kp : ∀ b o, hp.get? b = some o → ((hp.push (kdv_tup [v])).push (HandSPX.excO C hp.objs.size)).get? b = some o := fun b o e => Heap.get?_push_of_some _ (Heap.get?_push_of_some _ e)
  have hget : ((hp.push (kdv_tup [v])).push (HandSPX.excO C hp.objs.size)).get? (hp.objs.size + 1) = some (HandSPX.excO C hp.objs.size) := by heap_get
  have hnx : K.lookup (hp.objs.size + 1) = none := by
    cases e : K.lookup (hp.objs.size + 1) with
    | none => rfl
    | some o => exact absurd (Nat.lt_of_succ_lt (Heap.lt_size (show hp.get? (hp.objs.size + 1) = some o from X _ _ e))) (Nat.lt_irrefl _)
  refine HandSPX.call_own BF.fb hT hC (looks_findIn X T.iC) (fun self => exc_bind hoI hcI self) (by show 1 ≤ sizeLine; decide) ?_
  refine x_init (s := ⟨(hp.push (kdv_tup [v])).push (HandSPX.excO C hp.objs.size), g, dr, tk, os⟩) BF FO T (X.keeps kp) (M.keeps kp) hsup (hlim.keeps kp) hget hnx (show A.depth + 1 < recursionLimit from hroom) fun h' tk' dx t1 D => ⟨rfl, ?_⟩
  have old : ∀ b o, hp.get? b = some o → h'.get? b = some o := fun b o e => D.keep b o (Nat.ne_of_lt (Nat.lt_succ_of_lt (Heap.lt_size e))) (kp b o e)
  have z : hp.objs.size + 1 + 1 ≤ dx := by simpa only [Heap.size_push] using D.dbig
  exact k h' tk' (hp.objs.size + 1) dx ⟨old, Nat.le_succ _, ⟨t1, D.obj⟩, Nat.le_trans (Nat.le_trans (Nat.le_succ _) (Nat.le_succ _)) z, D.dne, D.ns⟩
end
end Hx
namespace Hr
open PySem PySem.Spec PyProof.Rows L2
theorem relO_one {v : V} {v' : Value} (r : RelV v v') (a f : Str) : RelO (List.lookup f [(a, v)]) (if f = a then some v' else none) := by
  by_cases hw : f = a
  · subst hw
    rw [if_pos rfl]
    have q : List.lookup f [(f, v)] = some v := by simp [List.lookup]
    rw [q]
    exact r
  · rw [if_neg hw]
    have qw : (f == a) = false := by simpa using hw
    have q2 : List.lookup f [(a, v)] = none := by simp [List.lookup, qw]
    rw [q2]
    trivial
section
variable {X : Cx} {C fI : Addr} {B newId initId : String} {bmB : List Value} {txt a cn : Str}
/-- the error made of one argument -/
def tMkX (C : Addr) (a : Str) (ta : TA) : L2.St → Hp → XK → Prop := fun σ H Q => ta σ H fun vs H1 => ∃ v, vs = [v] ∧ ∀ d, H1 d = none → Q (.ref C) (some d) (upd H1 d (.xd [(a, v)]))
theorem pmk_x {e : Expr} {ta : TA} {p pos : Pos} {k : Nat} (BF : Hx.BFacts B newId initId bmB) (FO : Hx.FldOk a) (T : Hx.XTxt X.prog X.K C fI B newId initId bmB txt a) (gC : X.mg cn = some (.ref C)) (gS : X.mg "super" = none) (hr : Room k X.A) (ha : PA X [e] ta) (hg : Gl X cn)
    (hdb : (cn == ("__debug__" : Str)) = false := by decide) (he : starEach (e :: []) X.env = (false, eval e X.env) :: starEach [] X.env := by rfl) (hpl : (backTo pos (starEach [] X.env)).any (·.1) = false := by rfl) :
    PMk X (.Call (.Name cn p) [e] [] pos) (tMkX C a ta) := by
  intro pins s σ H Q I h
  refine wpAny_Call_Name_kw (ld_glob I hg gC ?_ hdb)
  refine PySem.W.callWith_K (h₀ := X.base) I.ok.mod.kin T.kC (thn (ha.run pos pins s σ H _ I h) fun us s1 hh => ?_) he hpl
  obtain ⟨vs, H1, I1, r1, v, rfl, q1⟩ := hh
  refine ⟨I1.kIn, ?_⟩
  obtain ⟨v', rfl, rv⟩ := vals1 r1
  show wpAny _ _ (call (.ref C) [v']) _ _ _
  have hlim := I1.nolimit
  have M1 : Hx.ModH X.mg s1.heap := by
    obtain ⟨mb, b1, b2⟩ := I1.mod.blt
    exact ⟨I1.mod.glob.keeps I1.bk, mb, b1.keeps I1.bk, b2⟩
  obtain ⟨hp, g, dr, tk, os⟩ := s1
  refine wpAny_call (Hx.x_made BF FO T I1.kIn M1 gS hlim (by have := hr.dp; omega) fun h' tk' e d M => ?_)
  show MkP X pins σ Q (.ref e) ⟨h', g, dr, tk', os⟩
  obtain ⟨t1, hoe⟩ := M.obj
  obtain ⟨G', g1, g2⟩ := restrict h' fun b => decide (b ≠ e)
  have gk : ∀ b, b ≠ e → G'.get? b = h'.get? b := fun b hb => g1 b (decide_eq_true hb)
  have ge : G'.get? e = none := g2 e (by simp)
  have old : ∀ b o, hp.get? b = some o → G'.get? b = some o := fun b o q => (gk b (Nat.ne_of_lt (Nat.lt_of_lt_of_le (Heap.lt_size q) M.new))).trans (M.keep b o q)
  have ob : ObjOk X.prog X.w (upd H1 d (.xd [(a, v)])) G' d (.xd [(a, v)]) := ⟨_, M.ns.at (fun o q => (gk d M.dne).trans q), fun f => relO_one rv a f⟩
  have J : Inv X pins σ (upd H1 d (.xd [(a, v)])) ⟨G', g, dr, tk', os⟩ := I1.laid (t' := tk') old M.dbig ob
  refine ⟨e, _, _, ⟨G', g, dr, tk', os⟩, _, .ref C, some d, rfl, J, fun b o q => ?_, ge, hoe, ⟨rfl, rfl⟩, rfl, rfl, ?_, rfl, I1.bare, raises_own T.exC T.tyC, q1 d (I1.hok.fresh M.dbig)⟩
  · by_cases hb : b = e
    · have q' : G'.get? b = some o := q
      rw [hb, ge] at q'
      cases q'
    · exact (gk b hb).symm.trans q
  · rw [upd_ne (Ne.symm M.dne)]
    exact I1.hok.fresh M.new
/-- raise X(e) -/
def tRaiseX (C : Addr) (a : Str) (W : WX) (ta : TA) : TS := fun _ σ H => tMkX C a ta σ H fun cls d H' => W cls d σ H'
theorem ps_raiseX {e : Expr} {ta : TA} {W : WX} {p pos pos2 : Pos} {k : Nat} (hc : X.calm = true) (BF : Hx.BFacts B newId initId bmB) (FO : Hx.FldOk a) (T : Hx.XTxt X.prog X.K C fI B newId initId bmB txt a) (gC : X.mg cn = some (.ref C)) (gS : X.mg "super" = none) (hr : Room k X.A) (tk : Takes X W) (ha : PA X [e] ta) (hg : Gl X cn)
    (hdb : (cn == ("__debug__" : Str)) = false := by decide) (he : starEach (e :: []) X.env = (false, eval e X.env) :: starEach [] X.env := by rfl) (hpl : (backTo pos (starEach [] X.env)).any (·.1) = false := by rfl) :
    PS X (.Raise (some (.Call (.Name cn p) [e] [] pos)) none pos2) (tRaiseX C a W ta) := ps_raise hc tk (pmk_x BF FO T gC gS hr ha hg hdb he hpl)
end
end Hr

/-! text E3 -/
set_option Elab.async false
set_option linter.all false
set_option maxRecDepth 100000
set_option maxHeartbeats 4000000
namespace Hr
open PySem PySem.Spec PyProof.Rows L2
/-- a caught error that is kept: of the class at C, its dict d -/
def ExA (C : Addr) (d : Option Addr) (a : Addr) : HO := .ext fun h => ∃ (oe : Obj) (vs : Array Value), h.get? a = some oe ∧ Zc (.ref C) d oe ∧ oe.data = .fields vs
theorem exA_ok {P : Program} {w : World} {H : Hp} {h : Heap} {C a : Addr} {d : Option Addr} {oe : Obj} {vs : Array Value} (e : h.get? a = some oe) (z : Zc (.ref C) d oe) (q : oe.data = .fields vs) : ObjOk P w H h a (ExA C d a) :=
  ⟨⟨oe, vs, e, z, q⟩, ⟨oe, e⟩, fun _ _ ⟨o, v, q, r⟩ k => ⟨o, v, k o q, r⟩⟩
theorem exA_at {P : Program} {w : World} {H : Hp} {h : Heap} {C a : Addr} {d : Option Addr} (hok : HOk P w H h) (e : H a = some (ExA C d a)) : ∃ (oe : Obj) (vs : Array Value), h.get? a = some oe ∧ Zc (.ref C) d oe ∧ oe.data = .fields vs :=
  (show ObjOk P w H h a (.ext _) from hok a _ e).1
section
variable {X : Cx} {pins : List (Addr × Obj)} {σ : L2.St} {H : Hp} {s : Shared}
/-- behind the suite the error is tracked -/
theorem unsuite_keep {a C : Addr} {d : Option Addr} {oe : Obj} {vs : Array Value} (I : Inv (X.suite a ((a, oe) :: (X.pn ++ pins))) [] σ H s) (ok : X.Ok) (hz : Zc (.ref C) d oe) (hd : oe.data = .fields vs) (n0 : ∀ o, X.s_0.heap.get? a = some o → a ∈ X.ex) (np : ∀ p ∈ X.pn ++ pins, p.1 ≠ a) :
    Inv X pins σ (upd H a (ExA C d a)) s := by
  have J := I.pin (a, oe) (List.mem_append_left _ List.mem_cons_self)
  have na : H a = none := J.2.1
  -- all that is tracked elsewhere is as it was
  have sm : ∀ {b : Addr} {r : Option HO}, H b = r → b ≠ a → upd H a (ExA C d a) b = r := fun q z => (upd_ne z).trans q
  have ne : ∀ {b : Addr} {o : HO}, H b = some o → b ≠ a := fun q z => nomatch (z ▸ na).symm.trans q
  have nc : ∀ (x : Str) (c : Addr), X.env.cells.lookup x = some c → c ≠ a := by
    rintro x c e rfl
    obtain ⟨v, o, e2, e3⟩ := I.cell x c e
    cases J.1.symm.trans e2
    exact J.2.2.2.2 v e3
  constructor
  case ok => exact ok
  case os => exact I.os
  case bare => exact I.bare
  case loc => exact I.loc
  case cell => exact I.cell
  case len => exact I.len
  case free => exact sm I.free (Ne.symm J.2.2.1)
  case freeC => exact fun x c e => sm (I.freeC x c e) (nc x c e)
  case hok => exact I.hok.laidN (fun _ _ q => q) na (exA_ok J.1 hz hd)
  case pin =>
    intro p hp
    have P := I.pin p (List.mem_append_left _ (List.mem_cons_of_mem _ hp))
    exact ⟨P.1, sm P.2.1 (np p hp), P.2.2⟩
  case base =>
    constructor
    case keep => exact I.base.keep
    case slot => exact I.base.slot
    case there => exact I.base.there
    case free => exact fun b o e n hx => sm (I.base.free b o e n hx) fun z => hx (z ▸ n0 o (z ▸ e))
    case tups => exact fun b xs e => sm (I.base.tups b xs e) (ne (I.base.tups b xs e))
    case frzs => exact fun b o u e => sm (I.base.frzs b o u e) (ne (I.base.frzs b o u e))
    case tbls => exact fun b ps e => (I.base.tbls b ps e).imp fun m q => sm q (ne q)
end
/-- except x as n: suite, where the error stays behind it: slot i is n's -/
def wKeep (K : PySem.W.Frag) (c : Value) (i : Nat) (ts : TS) (D : Ends) : WX := fun cls d σ H =>
  PySem.W.exmOne K cls c = some true ∧ ∃ C, cls = .ref C ∧ ∀ a, H a = none → ts { nx := fun σ' H' => D.nx (σ'.set i none) (upd H' a (ExA C d a)), rt := fun _ _ => False, bk := fun _ _ => False, ct := fun _ _ => False } (σ.set i (some (.ref a))) H
section
variable {X : Cx} {x n : Str} {c : Value} {i : Nat} {body suite : List Stmt} {b₀ : Stmt} {np pos pos' : Pos} {tb : WX → TS} {ts : TS}
theorem ps_try_keep (st : X.stack = X.env :: X.outer) (fr : X.env.frame = some X.env.locals) (nd : X.N.Nodup) (hi : X.N[i]? = some n) (hl : X.env.kindOf n = some .local) (hc : Names X x c)
    (hb : ∀ (W : WX) (pn : List (Addr × Obj)) (xe : Value → Shared → Prop), Takes (X.tr pn xe) W → PassesOwn (model X.prog X.w) X.A X.env xe → PSs (X.tr pn xe) body (tb W))
    (su : ∀ (a : Addr) (oe : Obj) (pn : List (Addr × Obj)), PSs (X.suite a ((a, oe) :: pn)) (b₀ :: suite) ts) :
    PS X (.Try body [.ExceptHandler (some (.Name x np)) (some n) (b₀ :: suite) pos'] [] [] pos) (fun D σ H => tb (wKeep X.K c i ts D) D σ H) := by
  refine ⟨fun pins s σ H D I h => wpAny_Try_except ?_⟩
  have ok := I.ok
  have hfr : X.A.frames = some (X.env :: X.outer) := by rw [ok.frames, st]
  let M := model X.prog X.w
  let handed : Value → Sem Flow := fun e => handleBy e X.env [.ExceptHandler (some (.Name x np)) (some n) (b₀ :: suite) pos']
  let XE2 : Value → Shared → Prop := fun e s1 => wpAny M X.A (noteFrame e X.env) (fun _ s2 => wpAny M X.A (setFlight e none) (fun _ s3 => wpAny M X.A (handed e) (SP X pins D) X.xe s3) X.xe s2) X.xe s1
  refine wpAny_mono ((hb (wKeep X.K c i ts D) (X.pn ++ pins) XE2 (fun u s' xx => ?_) PassesOwn.looking).run [] s σ H D (I.toTry _) h) (fun f s1 sp => ?_) (fun e s1 he => he)
  · obtain ⟨a, Bg, sI, pins', σ', H', cls, d, rfl, J', nb, up, sky, na, os, ag, hm, C, rfl, hy⟩ := xx
    have J := J'.ofTry ok
    rewrite [st] at sky
    show wpAny M X.A (noteFrame (.ref a) X.env) _ _ _
    refine Sky.land Zc.steady hfr fr sky ?_
    intro h3 fl3 up3
    have land : ∀ {g : Heap}, _ → _ → Inv X pins σ' H' { s' with heap := g } := fun f u => J.landed nb f (up.trans u) os ag
    have J3 := land fl3.1 up3
    obtain ⟨oe3, vs3, he3, hz3, hd3⟩ := fl3.there
    let XS : Obj → Cx := fun o => X.suite a ((a, o) :: (X.pn ++ pins))
    -- the error is no frame, and new
    have nfr : a ∉ frs (X.env :: X.outer) := by
      intro hm
      obtain ⟨_, o', e', hnf⟩ := fl3.2.2.1.mem hm
      cases he3.symm.trans e'
      exact hnf _ hd3
    have nL : a ≠ X.env.locals := by
      rintro rfl
      exact nfr (List.mem_filterMap.mpr ⟨X.env, .head _, fr⟩)
    have nF : a ∉ X.fs := by
      intro hm
      obtain ⟨e, he, q⟩ := List.mem_filterMap.mp hm
      exact nfr (List.mem_filterMap.mpr ⟨e, .tail _ he, q⟩)
    have nI : ∀ o, sI.heap.get? a = some o → False := fun o e => nomatch fl3.2.1.symm.trans (nb a o e (by rw [st]; exact nfr))
    have n0 : ∀ o, X.s_0.heap.get? a = some o → a ∈ X.ex := fun o e => Decidable.byContradiction fun hx => (J.base.there a o e hx).elim nI
    have nP : ∀ p ∈ X.pn ++ pins, p.1 ≠ a := fun p hp z => nI p.2 (z ▸ (J.pin p hp).1)
    have S3 := J3.suite he3 hd3 na nL nF
    refine wpAny_handleBy_cons (codeAny_handlers_test ?_) (by intro q; cases q)
    have LT : PySem.W.Looks (model X.prog X.w) h3 (typeOf (.ref a)) (.ref C) := fun A Q E s k q => wpAny_typeOf_ref (k _ _ he3) (by rw [hz3.1]; exact q)
    have LM := PySem.W.exm_one (M := model X.prog X.w) J3.kIn LT hm
    have tst : ∀ {Q : Value → Shared → Prop} {E : Value → Shared → Prop}, Q c { s' with heap := h3 } → wpAny (model X.prog X.w) (X.A.mark (some (.ref a))) (eval (.Name x np) X.env) Q E { s' with heap := h3 } := fun {Q E} q => by
      obtain ⟨hg, hdb, hm | ⟨hm, hv, hnn⟩⟩ := hc
      · exact ld_glob (X := XS oe3) S3 hg hm q hdb
      · exact ld_blt (X := XS oe3) S3 hg hm hv q hnn hdb
    refine tst (LM.here (codeAny_handlers_suite_as (HandSPX.lands_againZ fl3 fun h4 fl4 up4 => ?_)))
    have J4 := land fl4.1 (up3.trans up4)
    obtain ⟨oe4, vs4, he4, hz4, hd4⟩ := fl4.there
    refine store_ok (X := XS oe4) (v := .ref a) (J4.suite he4 hd4 na nL nF) nd hi (.inl hl) rfl (fun s5 S5 => ?_) (.inr hl)
    refine wpAny_mono ((su a oe4 (X.pn ++ pins)).run [] s5 _ H' _ S5 (hy a na)) (fun f s6 sp => ?_) (fun _ _ z => False.elim z)
    match f, sp with
    | .next, ⟨_, _, S6, q6⟩ => exact gone_ok (unsuite_keep S6 ok hz4 hd4 n0 nP) nd hi hl fun s7 J7 => ⟨_, _, J7, q6⟩
    | .brk, ⟨_, _, _, no⟩ => exact no.elim
    | .cont, ⟨_, _, _, no⟩ => exact no.elim
    | .ret _, ⟨_, _, _, _, _, no⟩ => exact no.elim
  · match f, sp with
    | .next, ⟨σ', H', J', q⟩ => exact wpAny_execs_nil ⟨σ', H', J'.ofTry ok, q⟩
    | .brk, ⟨σ', H', J', q⟩ => exact ⟨σ', H', J'.ofTry ok, q⟩
    | .cont, ⟨σ', H', J', q⟩ => exact ⟨σ', H', J'.ofTry ok, q⟩
    | .ret _, ⟨v, σ', H', J', r, q⟩ => exact ⟨v, σ', H', J'.ofTry ok, r, q⟩
end
section
variable {X : Cx}
/-- isinstance(e, c) of a kept error, with a dict -/
def rIsK (K : PySem.W.Frag) : List V → Hp → VK → Prop := fun xs H Q => ∃ (a C : Addr) (d : Addr) (fs : List (Str × V)) (c : V) (u : Value) (b : Bool), xs = [.ref a, c] ∧ H a = some (ExA C (some d) a) ∧ H d = some (.xd fs) ∧ ClsV c u ∧ ExcC K C ∧ PySem.W.kitOne K (.ref C) u = some b ∧ Q (.bl b) H
/-- e.f of a kept error -/
def tXk (C : Addr) (f : Str) (te : TE) : TE := fun σ H Q => te σ H fun x H1 => ∃ (a d : Addr) (fs : List (Str × V)) (v : V), x = .ref a ∧ H1 a = some (ExA C (some d) a) ∧ H1 d = some (.xd fs) ∧ fs.lookup f = some v ∧ Q v H1
theorem pe_xk {C : Addr} {e : Expr} {te : TE} {pos : Pos} {f : Str} (T : XfC X.K C) (hno : PySem.W.findIn X.K (.ref C) f = some none) (he : PE X e te) (hb : attributeBase e f X.env (eval e X.env) = eval e X.env := by rfl) : PE X (.Attribute e f pos) (tXk C f te) := by
  refine ⟨fun pins s σ H Q I h => attr_of hb (thn (he.run pins s σ H _ I h) fun u s1 hh => ?_)⟩
  obtain ⟨x, H1, I1, rx, a, d, fs, v, rfl, ha, hd, l, q⟩ := hh
  obtain rfl : u = Value.ref a := rx
  obtain ⟨oe, vs, e1, e2, e3⟩ := exA_at I1.hok ha
  obtain ⟨mA, hns, hr⟩ := (show ObjOk X.prog X.w H1 s1.heap d (.xd fs) from I1.hok d _ hd)
  obtain ⟨od, ho, hl⟩ := lookIn_ns hns
  obtain ⟨u, hu, ru⟩ := RelO.some_of (v := v) (o := mA f) (by rw [← l]; exact hr f)
  have J : PySem.W.InstAt s1.heap a oe C (some od) := ⟨e1, e2.1, by unfold PySem.W.notCls; rw [e3] <;> rfl, by rw [e2.2]; exact ho⟩
  exact HandSPX.exc_get I1.kIn J T.ga T.gg T.exC (PySem.W.findObj_own T.hdC hno rfl (by rw [hl, hu])) (handed_of ru) ⟨v, H1, I1.tok _, ru, q⟩
end
end Hr

/-! text F1 -/
set_option Elab.async false
set_option linter.all false
set_option maxRecDepth 100000
set_option maxHeartbeats 4000000
namespace Hr
open PySem PySem.Spec PyProof.Rows L2
section
variable {X : Cx}
theorem call_isK : CallR X (.builtin "isinstance") (rIsK X.K) := by
  intro pins s σ H xs us Q I r h
  obtain ⟨a, C, d, fs, c, u, b, rfl, ha, hd, k, T, e, q⟩ := h
  obtain ⟨u1, u2, rfl, r1, r2⟩ := vals2 r
  cases (show u1 = Value.ref a from r1)
  have e2 := k.eq r2
  subst e2
  obtain ⟨oe, vs, e1, e2, e3⟩ := exA_at I.hok ha
  obtain ⟨mA, hns, _⟩ := (show ObjOk X.prog X.w H s.heap d (.xd fs) from I.hok d _ hd)
  obtain ⟨od, ho, _⟩ := lookIn_ns hns
  obtain ⟨cd, hc, _⟩ := PySem.W.any_some T.hd
  have J : PySem.W.InstAt s.heap a oe C (some od) := ⟨e1, e2.1, by unfold PySem.W.notCls; rw [e3] <;> rfl, by rw [e2.2]; exact ho⟩
  exact PySem.W.kia_one (PySem.W.kitx_exc (by rw [hc]; rfl) T.hg T.hk T.hs T.ha T.hn T.ht T.hm) I.kIn J e (fun z => nomatch z) fun tk => ⟨.bl b, H, I.kept (t' := tk) fun _ _ z => z, rfl, q⟩
/-- xs.count(y), flat things -/
def rCntF (K : PySem.W.Frag) : V → List V → Hp → VK → Prop := fun x xs H Q => ∃ (p : Addr) (ys : List V) (y : V), x = .ref p ∧ xs = [y] ∧ SqL K H p ys ∧ flatV y = true ∧ ys.all flatV = true ∧ Q (.int (ys.countP fun z => eqV z y : Nat)) H
theorem count_vals {y : V} : ∀ {ys : List V} {its : List Value}, Vals ys its → ys.all flatV = true → its.countP (eqU y) = ys.countP fun z => eqV z y
  | _, _, .nil, _ => rfl
  | z :: ys, u :: its, .cons r t, f => by
    rw [List.all_cons, Bool.and_eq_true_iff] at f
    rw [List.countP_cons, List.countP_cons, count_vals t f.2, eqU_of r f.1]
theorem mt_countF : MtR X "list.count" (rCntF X.K) := by
  intro pins s σ H x xs v us Q I rx rxs h
  obtain ⟨p, ys, y, rfl, rfl, hs, fy, fys, q⟩ := h
  cases rx
  obtain ⟨uy, rfl, ry⟩ := vals1 rxs
  obtain ⟨its, rv, ⟨⟨cls, dd, data, sl⟩, n, ho, hc, hdn, hd⟩, hlen⟩ := I.list hs
  simp only at hc hd
  subst hc hd
  refine call_meets PySem.F.slot_list_count ⟨_, ho, rfl⟩ PySem.F.entry_list_count (PySem.F.args_list_count_2 _ _) (SeqAt.list_countAt p its.toArray n dd sl uy (eqU y)) ⟨ho, fun u' hu' => mem_eqAt ry fy rv fys u' (by simpa using hu'), ?_⟩
  refine ⟨.int (ys.countP fun z => eqV z y : Nat), H, I.tok _, ⟨s.toks, ?_⟩, q⟩
  rw [← count_vals rv fys]
/-- o.m(e, ..) where what is raised is wished for at the caller's slots -/
def tMethA (C : Addr) (m : Str) (sp : Sp) (E : L2.St → XK) (ta : TE) (t : TA) : TE := fun σ H Q => ta σ H fun x H1 => ∃ a dx fs, x = .ref a ∧ H1 a = some (.ins C dx fs) ∧ fs.lookup m = none ∧ t σ H1 fun vs H2 => sp (.ref a :: vs) H2 Q (E σ)
theorem pe_methA {CX : CXT} {k : Nat} {f C : Addr} {fd : FuncData} {ps : List Str} {sp : Sp} {E : L2.St → XK} {m : Str} {pos apos : Pos} {e o : Expr} {es : List Expr} {ta : TE} {t : TA} {pl : Sem Bool} (he : PE X o ta) (c : Cls X.K C) (hm : Meth X.K C m f) (F : FnOk X.prog X.w X.K X.mg X.base CX k f fd ps sp) (hr : Room k X.A) (hb : Binds X.K fd ps []) (hx : ∀ σ, PassesAt CX X σ (E σ)) (ha : PA X (e :: es) t)
    (hst : starEach (e :: es) X.env = (false, eval e X.env) :: starEach es X.env := by rfl) (hpl : (backTo pos (starEach es X.env)).any (·.1) = false := by rfl)
    (ht : eval (.Call (.Attribute o m apos) (e :: es) [] pos) X.env = (do
      let ov ← eval o X.env
      standAt apos.atName
      let (g, first) ← holding [ov] (getMethod ov m pl)
      callWith pos g first (backTo pos (starEach (e :: es) X.env)) (backToKw pos (keywordEach [] X.env))) := by rfl) :
    PE X (.Call (.Attribute o m apos) (e :: es) [] pos) (tMethA C m sp E ta t) := by
  refine ⟨fun pins s σ H Q I h => PySem.W.methodCall_KW (pl := pl) (thn (he.run pins s σ H _ I h) fun u s1 w => ?_) ht⟩
  obtain ⟨x, H1, I1, rx, a, dx, fs, rfl, ea, l, q⟩ := w
  obtain rfl : u = Value.ref a := rx
  refine getmeth_ok I1 ea c hm l (PySem.W.callWith_K (first := [.ref a]) (h₀ := X.base) I.ok.mod.kin hm.kp (thn (ha.run pos pins s1 σ H1 _ I1 q) fun us s2 w2 => ?_) hst hpl)
  obtain ⟨vs, H2, I2, r, q2⟩ := w2
  exact ⟨I2.kIn, run_fnS (us := .ref a :: us) (vs := .ref a :: vs) F hr hb (hx σ) I2 (.cons rfl r) q2⟩
end
end Hr
namespace Hr
open PySem L2
def nmH (o i : List TV) : List Str := nms (o ++ i)
theorem nmH_nodup {o i : List TV} {h : Int} (G : GoodH o i h) : (nmH o i).Nodup := by
  have key : ∀ {l : List Str}, l.Pairwise ltS → l.Nodup := fun {l} p => by
    refine List.Pairwise.imp (fun {a b} (q : ltS a b) e => ?_) p
    rw [e] at q
    exact lex_irrefl _ q
  rw [nmH, nms, List.map_append]
  refine List.nodup_append.mpr ⟨key G.orr, key G.ir, fun a ha b hb e => ?_⟩
  subst e
  exact G.dj a ha hb
theorem nodup_map_inj : ∀ {l : List TV}, (l.map (·.1)).Nodup → ∀ {a b : TV}, a ∈ l → b ∈ l → a.1 = b.1 → a = b
  | [], _, _, _, ha, _, _ => nomatch ha
  | c :: l, h, a, b, ha, hb, e => by
    rw [List.map_cons, List.nodup_cons] at h
    rcases List.mem_cons.mp ha with ea | ha2 <;> rcases List.mem_cons.mp hb with eb | hb2
    · rw [ea, eb]
    · rw [ea] at e
      exact absurd (List.mem_map.mpr ⟨b, hb2, e.symm⟩) h.1
    · rw [eb] at e
      exact absurd (List.mem_map.mpr ⟨a, ha2, e⟩) h.1
    · exact nodup_map_inj h.2 ha2 hb2 e
/-- values_of: found, or NoThing (its class at CT) with what was asked in its field -/
def spValuesOf (K : PySem.W.Frag) (C CT : Addr) : Sp := fun vs H Q E => ∃ (p : Addr) (o i : List TV) (h : Int) (x : V), vs = [.ref p, x] ∧ HouseAt H C p o i h ∧ GoodH o i h ∧
  ((∃ t, x = .str t.1 ∧ t ∈ o ++ i ∧ ∀ H' q, Same H H' → H' q = some (.tup (t.2.map V.str)) → Q (.ref q) H') ∨
    ((NoStr K H x ∨ ∃ z, x = .str z ∧ z.length ≤ 10000 ∧ z ∉ nmH o i) ∧ ∀ H' d, Same H H' → H' d = none → E (.ref CT) (some d) (L2.upd H' d (.xd [("name", x)]))))
section
variable {P : Program} {w : World} {K : PySem.W.Frag} {mg : Str → Option Value} {base : Heap} {f C : Addr} {fd : FuncData}
abbrev nVof : List Str := ["self", "name", "thing", "values"]
theorem scVof : FnScope nVof ["self", "name"] (defScope s_House_values_of) := ⟨rfl, rfl, rfl, by decide +kernel, rfl, by decide +kernel, by decide +kernel⟩
theorem good_name {o i : List TV} {h : Int} (G : GoodH o i h) {t : TV} (ht : t ∈ o ++ i) : GoodT t := by
  rcases List.mem_append.mp ht with h | h
  · exact G.og t h
  · exact G.ig t h
theorem ok_values_of {CT fI : Addr} {txt : Str} (F : FnM K "values_of" "House.values_of" s_House_values_of [] f fd) (T : HTxt K mg C) (DN : Dk P w K mg base "is_name" 1 ["thing"] (spIsName K))
    (XT : Hx.XTxt P K CT fI "LookupError" "LookupError.__new__" "LookupError.__init__" [.type "LookupError", .type "Exception", .type "BaseException", .type "object"] txt "name") (FO : Hx.FldOk "name") (gC : mg "NoThing" = some (.ref CT)) (gS : mg "super" = none) :
    FnOk P w K mg base (L2.CX P w) 3 f fd ["self", "name"] (spValuesOf K C CT) := by
  refine F.ok (CX := L2.CX P w) scVof (fun vs H Q E h => ?_) (fun cdv A outer s H vs Q E hr h => ?_)
  · obtain ⟨p, o, i, h, x, rfl, _⟩ := h
    rfl
  · obtain ⟨p, o, i, h, x, rfl, ⟨dx, po, pi, hp, ⟨os, ho, pO⟩, ⟨is, hi, pI⟩⟩, G, hx⟩ := h
    have hr1 : Room 1 _ := hr.mono (by decide)
    refine ⟨_, pss_cons (ps_if (PT.nox (pt_val (pe_cd DN hr1 rfl (pa_cons (pv 1) pa_nil)))) (PSs.nox (pss_one (ps_for PassesOwn.never rfl (pi_tup (pe_op op_catA (pe_fld (pv 0) rfl) (pe_fld (pv 0) rfl))) (pg_tup rfl (pgs_cons (pg_name (i := 2) scVof.nd rfl (.inl rfl)) (pgs_cons (pg_name (i := 3) scVof.nd rfl (.inl rfl)) pgs_nil)))
        (pss_one (ps_if (pt_cmpR op_eq (pv 2) (pv 1) (nomark _)) (pss_one (ps_ret (pv 3))) pss_nil))))) pss_nil)
      (pss_one (ps_raiseX (cn := "NoThing") rfl Hx.bLookup FO XT gC gS hr (takes_of rfl rfl rfl rfl) (pa_cons (pv 1) pa_nil) rfl)), ?_⟩
    have lo := pO.length
    have li := pI.length
    have g1 := G.o3
    have g2 := G.i4
    have ri : ∀ (z : Str) (H1 : Hp), Same H H1 → (∀ H2, Same H H2 → ∀ u ∈ o ++ i, u.1 = z → ∀ b, H2 b = some (.tup (u.2.map V.str)) → Q (.ref b) H2) →
        (∀ H2, Same H H2 → (∀ u ∈ o ++ i, u.1 ≠ z) → ∀ v2 v3, tRaiseX CT "name" (fun cls d _ H => E cls d H) (tCons (tVar 1) tNil) { nx := fun _ H' => Q .non H', rt := Q } [some (.ref p), some (.str z), v2, v3] H2) →
        tFor (iTup K (tOp (rCatA K) (tFld K (tVar 0) "outer") (tFld K (tVar 0) "inner"))) (gTup K 2 (gCons (gName 2) (gCons (gName 3) gNil))) (tIfS (tTest (tOp rEq (tVar 2) (tVar 1))) (tRet (tVar 3)) tNext) { nx := tRaiseX CT "name" (fun cls d _ H => E cls d H) (tCons (tVar 1) tNil) { nx := fun _ H' => Q .non H', rt := Q }, rt := Q } [some (.ref p), some (.str z), none, none] H1 := by
      intro z H1 s1 hit miss
      refine ⟨_, rfl, p, C, dx, _, _, rfl, s1 _ _ hp, T.cl, T.nO, hf_outer _ _ _, _, rfl, p, C, dx, _, _, rfl, s1 _ _ hp, T.cl, T.nI, hf_inner _ _ _, po, pi, _, _, rfl, rfl, SqT.of (s1 _ _ ho), SqT.of (s1 _ _ hi), Nat.le_trans (by omega : os.length + is.length ≤ 8) (by decide), fun e => ?_, fun _ e => ?_, fun _ _ q hq => ?_⟩
      · have s2 : Same H H1 := s1
        have hq2 : H1 pi = some (.tup (os ++ is)) := by rw [e]; exact s1 _ _ hi
        have pA : Paired (Thing H1) (os ++ is) (o ++ i) := things_tk (TK.sm s1) (paired_app pO pI)
        refine ⟨pi, rfl, ⟨_, SqT.of hq2⟩, for_tup (K := K) (a := pi) (xs := os ++ is) (fun j σ H' => H' = H1 ∧ ∃ v2 v3, σ = [some (.ref p), some (.str z), v2, v3] ∧ ∀ m, m < j → ∀ u, (o ++ i)[m]? = some u → u.1 ≠ z) ⟨rfl, none, none, rfl, fun m hm => absurd hm (Nat.not_lt_zero _)⟩ (fun j σ H' _ ⟨e, _⟩ => by rw [e]; exact SqT.of hq2) ?_ ?_⟩
        · rintro j y σ H' hj ⟨rfl, v2, v3, rfl, nx⟩
          obtain ⟨u, hu, b1, b2, rfl, h1, h2⟩ := paired_ix pA hj
          refine ⟨b1, _, rfl, SqT.of h1, rfl, _, _, rfl, _, _, rfl, rfl, ?_⟩
          refine ⟨_, rfl, _, rfl, rfl, _, rfl, ?_⟩
          refine ite2 (fun e => ?_) (fun e => ?_)
          · have e : u.1 = z := V.str.inj (of_decide_eq_true e)
            exact ⟨_, rfl, hit H' s2 u (List.mem_of_getElem? hu) e b2 h2⟩
          · refine ⟨rfl, _, _, rfl, fun m hm u' hu' => ?_⟩
            rcases Nat.lt_succ_iff_lt_or_eq.mp hm with hm | rfl
            · exact nx m hm u' hu'
            · rw [hu] at hu'
              cases hu'
              exact fun q => e (decide_eq_true (congrArg V.str q))
        · rintro σ H' ⟨rfl, v2, v3, rfl, nx⟩
          rw [pA.length] at nx
          exact miss H' s2 (fun u hu => by
            obtain ⟨m, hm, e⟩ := List.mem_iff_getElem.mp hu
            exact nx m hm u (by rw [List.getElem?_eq_getElem hm, e])) v2 v3
      · rw [e] at li
        have := G.i1
        simp at li
        omega
      · have s2 : Same H (L2.upd H1 q (.tup (os ++ is))) := Same.nw s1 hq
        have hq2 : (L2.upd H1 q (.tup (os ++ is))) q = some (.tup (os ++ is)) := upd_same
        have pA : Paired (Thing (L2.upd H1 q (.tup (os ++ is)))) (os ++ is) (o ++ i) := things_tk (TK.sm s2) (paired_app pO pI)
        generalize (L2.upd H1 q (.tup (os ++ is))) = H5 at s2 hq2 pA ⊢
        refine ⟨q, rfl, ⟨_, SqT.of hq2⟩, for_tup (K := K) (a := q) (xs := os ++ is) (fun j σ H' => H' = H5 ∧ ∃ v2 v3, σ = [some (.ref p), some (.str z), v2, v3] ∧ ∀ m, m < j → ∀ u, (o ++ i)[m]? = some u → u.1 ≠ z) ⟨rfl, none, none, rfl, fun m hm => absurd hm (Nat.not_lt_zero _)⟩ (fun j σ H' _ ⟨e, _⟩ => by rw [e]; exact SqT.of hq2) ?_ ?_⟩
        · rintro j y σ H' hj ⟨rfl, v2, v3, rfl, nx⟩
          obtain ⟨u, hu, b1, b2, rfl, h1, h2⟩ := paired_ix pA hj
          refine ⟨b1, _, rfl, SqT.of h1, rfl, _, _, rfl, _, _, rfl, rfl, ?_⟩
          refine ⟨_, rfl, _, rfl, rfl, _, rfl, ?_⟩
          refine ite2 (fun e => ?_) (fun e => ?_)
          · have e : u.1 = z := V.str.inj (of_decide_eq_true e)
            exact ⟨_, rfl, hit H' s2 u (List.mem_of_getElem? hu) e b2 h2⟩
          · refine ⟨rfl, _, _, rfl, fun m hm u' hu' => ?_⟩
            rcases Nat.lt_succ_iff_lt_or_eq.mp hm with hm | rfl
            · exact nx m hm u' hu'
            · rw [hu] at hu'
              cases hu'
              exact fun q => e (decide_eq_true (congrArg V.str q))
        · rintro σ H' ⟨rfl, v2, v3, rfl, nx⟩
          rw [pA.length] at nx
          exact miss H' s2 (fun u hu => by
            obtain ⟨m, hm, e⟩ := List.mem_iff_getElem.mp hu
            exact nx m hm u (by rw [List.getElem?_eq_getElem hm, e])) v2 v3
    refine ⟨_, rfl, x, rfl, ?_⟩
    rcases hx with ⟨t, rfl, ht, k⟩ | ⟨hx, k⟩
    · have gt := good_name G ht
      refine .inl ⟨t.1, rfl, Nat.le_trans gt.1.2.1 (by decide), fun H1 s1 => ⟨_, rfl, ?_⟩⟩
      rw [decide_eq_true gt.1]
      refine ri t.1 H1 s1 (fun H2 s2 u hu e b hb => ?_) (fun H2 s2 no v2 v3 => absurd rfl (no t ht))
      have e2 := nodup_map_inj (nmH_nodup G) hu ht e
      subst e2
      exact k H2 b s2 hb
    · rcases hx with hx | ⟨z, rfl, hz, hn⟩
      · exact .inr ⟨hx, fun H1 s1 => ⟨false, rfl, _, rfl, x, rfl, fun d hd => k H1 d s1 hd⟩⟩
      · refine .inl ⟨z, rfl, hz, fun H1 s1 => ⟨_, rfl, ?_⟩⟩
        by_cases hnm : isNm z
        · rw [decide_eq_true hnm]
          exact ri z H1 s1 (fun H2 s2 u hu e b hb => absurd (List.mem_map.mpr ⟨u, hu, e⟩) hn) (fun H2 s2 no v2 v3 => ⟨_, rfl, .str z, rfl, fun d hd => k H2 d s2 hd⟩)
        · rw [decide_eq_false hnm]
          exact ⟨_, rfl, .str z, rfl, fun d hd => k H1 d s1 hd⟩
end
end Hr

/-! text F2 -/
set_option Elab.async false
set_option linter.all false
set_option maxRecDepth 100000
set_option maxHeartbeats 8000000
namespace Hr
open PySem L2
/-- a class that the module names, and what isinstance says of an error of the class at CT -/
def KCl (K : PySem.W.Frag) (mg : Str → Option Value) (CT : Addr) (x : Str) (b : Bool) : Prop := ∃ c, mg x = some (.ref c) ∧ PySem.W.kitOne K (.ref CT) (.ref c) = some b
structure KTab (K : PySem.W.Frag) (mg : Str → Option Value) (CT : Addr) : Prop where
  cNoHouse : KCl K mg CT "NoHouse" false
  cNoSaying : KCl K mg CT "NoSaying" false
  cNoRule : KCl K mg CT "NoRule" false
  cNoBook : KCl K mg CT "NoBook" false
  cNoText : KCl K mg CT "NoText" false
  cNoStanding : KCl K mg CT "NoStanding" false
  cNoOuter : KCl K mg CT "NoOuter" false
  cNoCourse : KCl K mg CT "NoCourse" false
  cNoChange : KCl K mg CT "NoChange" false
  cNoPair : KCl K mg CT "NoPair" false
  cTooMany : KCl K mg CT "TooMany" false
  cNoNumber : KCl K mg CT "NoNumber" false
  cNoRow : KCl K mg CT "NoRow" false
  cNoThing : KCl K mg CT "NoThing" true
  cNoName : KCl K mg CT "NoName" false
  cHearth : KCl K mg CT "HearthError" false
  cLost : KCl K mg CT "LostError" true
  gV : mg "ValueError" = none
  kV : PySem.W.kitOne K (.ref CT) (.type "ValueError") = some false
  ec : ExcC K CT
/-- a caught NoThing that is kept: of what name it was asked -/
def Caught (H : Hp) (CT a : Addr) (x : V) : Prop := ∃ d, H a = some (ExA CT (some d) a) ∧ H d = some (.xd [("name", x)])
theorem Caught.sm {H H1 : Hp} {CT a : Addr} {x : V} (s : Same H H1) (h : Caught H CT a x) : Caught H1 CT a x := by
  obtain ⟨d, h1, h2⟩ := h
  exact ⟨d, s _ _ h1, s _ _ h2⟩
def spKind (CT : Addr) : Sp := fun vs H Q _ => ∃ (a : Addr) (x : V), vs = [.ref a] ∧ Caught H CT a x ∧ ∀ H', Same H H' → Q (.int 13) H'
section
variable {P : Program} {w : World} {K : PySem.W.Frag} {mg : Str → Option Value} {base : Heap} {f CT : Addr} {fd : FuncData}
theorem scKind : FnScope ["_law_e", "_law_kinds", "_law_lost"] ["_law_e"] (defScope s_law_kind) := ⟨rfl, rfl, rfl, by decide +kernel, rfl, by decide +kernel, by decide +kernel⟩
theorem ok_kind (F : FnP K "_law_kind" s_law_kind f fd) (Cn : Cns K mg) (KT : KTab K mg CT) : FnOk P w K mg base CX0 1 f fd ["_law_e"] (spKind CT) := by
  refine F.ok scKind (fun vs H Q E h => ?_) (fun cdv A outer s H vs Q E hr h => ?_)
  · obtain ⟨a, x, rfl, _⟩ := h
    rfl
  · obtain ⟨a, x, rfl, ⟨d, ha, hd⟩, k⟩ := h
    have EC := KT.ec
    have gV := KT.gV
    obtain ⟨cNoHouse, gNoHouse, kNoHouse⟩ := KT.cNoHouse
    obtain ⟨cNoSaying, gNoSaying, kNoSaying⟩ := KT.cNoSaying
    obtain ⟨cNoRule, gNoRule, kNoRule⟩ := KT.cNoRule
    obtain ⟨cNoBook, gNoBook, kNoBook⟩ := KT.cNoBook
    obtain ⟨cNoText, gNoText, kNoText⟩ := KT.cNoText
    obtain ⟨cNoStanding, gNoStanding, kNoStanding⟩ := KT.cNoStanding
    obtain ⟨cNoOuter, gNoOuter, kNoOuter⟩ := KT.cNoOuter
    obtain ⟨cNoCourse, gNoCourse, kNoCourse⟩ := KT.cNoCourse
    obtain ⟨cNoChange, gNoChange, kNoChange⟩ := KT.cNoChange
    obtain ⟨cNoPair, gNoPair, kNoPair⟩ := KT.cNoPair
    obtain ⟨cTooMany, gTooMany, kTooMany⟩ := KT.cTooMany
    obtain ⟨cNoNumber, gNoNumber, kNoNumber⟩ := KT.cNoNumber
    obtain ⟨cNoRow, gNoRow, kNoRow⟩ := KT.cNoRow
    obtain ⟨cNoThing, gNoThing, kNoThing⟩ := KT.cNoThing
    obtain ⟨cNoName, gNoName, kNoName⟩ := KT.cNoName
    obtain ⟨cHearthError, gHearthError, kHearthError⟩ := KT.cHearth
    obtain ⟨cLostError, gLostError, kLostError⟩ := KT.cLost
    refine ⟨_, PSs.nox (pss_cons (ps_set (i := 1) scKind.nd rfl (.inl rfl) (pe_lst (pa_cons (pe_callB call_isK (by rfl) Cn.isi (by decide +kernel) (pa_cons (pv 0) (pa_cons (pe_glob (v := .ref cNoHouse) (by rfl) gNoHouse rfl) pa_nil))) (pa_cons (pe_callB call_isK (by rfl) Cn.isi (by decide +kernel) (pa_cons (pv 0) (pa_cons (pe_glob (v := .ref cNoSaying) (by rfl) gNoSaying rfl) pa_nil))) (pa_cons (pe_callB call_isK (by rfl) Cn.isi (by decide +kernel) (pa_cons (pv 0) (pa_cons (pe_glob (v := .ref cNoRule) (by rfl) gNoRule rfl) pa_nil))) (pa_cons (pe_callB call_isK (by rfl) Cn.isi (by decide +kernel) (pa_cons (pv 0) (pa_cons (pe_glob (v := .ref cNoBook) (by rfl) gNoBook rfl) pa_nil))) pa_nil))))))
      (pss_cons (ps_set (i := 1) scKind.nd rfl (.inl rfl) (pe_op op_cat (pv 1) (pe_lst (pa_cons (pe_callB call_isK (by rfl) Cn.isi (by decide +kernel) (pa_cons (pv 0) (pa_cons (pe_glob (v := .ref cNoText) (by rfl) gNoText rfl) pa_nil))) (pa_cons (pe_callB call_isK (by rfl) Cn.isi (by decide +kernel) (pa_cons (pv 0) (pa_cons (pe_glob (v := .ref cNoStanding) (by rfl) gNoStanding rfl) pa_nil))) (pa_cons (pe_callB call_isK (by rfl) Cn.isi (by decide +kernel) (pa_cons (pv 0) (pa_cons (pe_glob (v := .ref cNoOuter) (by rfl) gNoOuter rfl) pa_nil))) (pa_cons (pe_callB call_isK (by rfl) Cn.isi (by decide +kernel) (pa_cons (pv 0) (pa_cons (pe_glob (v := .ref cNoCourse) (by rfl) gNoCourse rfl) pa_nil))) pa_nil)))))))
      (pss_cons (ps_set (i := 1) scKind.nd rfl (.inl rfl) (pe_op op_cat (pv 1) (pe_lst (pa_cons (pe_callB call_isK (by rfl) Cn.isi (by decide +kernel) (pa_cons (pv 0) (pa_cons (pe_glob (v := .ref cNoChange) (by rfl) gNoChange rfl) pa_nil))) (pa_cons (pe_callB call_isK (by rfl) Cn.isi (by decide +kernel) (pa_cons (pv 0) (pa_cons (pe_glob (v := .ref cNoPair) (by rfl) gNoPair rfl) pa_nil))) (pa_cons (pe_callB call_isK (by rfl) Cn.isi (by decide +kernel) (pa_cons (pv 0) (pa_cons (pe_glob (v := .ref cTooMany) (by rfl) gTooMany rfl) pa_nil))) (pa_cons (pe_callB call_isK (by rfl) Cn.isi (by decide +kernel) (pa_cons (pv 0) (pa_cons (pe_glob (v := .ref cNoNumber) (by rfl) gNoNumber rfl) pa_nil))) pa_nil)))))))
      (pss_cons (ps_set (i := 1) scKind.nd rfl (.inl rfl) (pe_op op_cat (pv 1) (pe_lst (pa_cons (pe_callB call_isK (by rfl) Cn.isi (by decide +kernel) (pa_cons (pv 0) (pa_cons (pe_glob (v := .ref cNoRow) (by rfl) gNoRow rfl) pa_nil))) (pa_cons (pe_callB call_isK (by rfl) Cn.isi (by decide +kernel) (pa_cons (pv 0) (pa_cons (pe_glob (v := .ref cNoThing) (by rfl) gNoThing rfl) pa_nil))) (pa_cons (pe_callB call_isK (by rfl) Cn.isi (by decide +kernel) (pa_cons (pv 0) (pa_cons (pe_glob (v := .ref cNoName) (by rfl) gNoName rfl) pa_nil))) pa_nil))))))
      (pss_cons (ps_if (pt_cmpR op_ne (pe_bm PySem.F.plainAttrs_list PySem.F.slot_list_count PySem.F.type_list_count mt_countF (pv 1) (pa_cons pe_bl pa_nil)) pe_int (nomark _)) (pss_one (ps_ret pe_non)) pss_nil)
      (pss_cons (ps_set (i := 2) scKind.nd rfl (.inl rfl) (pe_cmpR op_gt (pe_bm PySem.F.plainAttrs_list PySem.F.slot_list_index PySem.F.type_list_index mt_index (pv 1) (pa_cons pe_bl pa_nil)) pe_int (nomark _)))
      (pss_cons (ps_if (PW.pt (pw_or (pt_cmpR op_eq (pe_callB call_isK (by rfl) Cn.isi (by decide +kernel) (pa_cons (pv 0) (pa_cons (pe_glob (v := .ref cHearthError) (by rfl) gHearthError rfl) pa_nil))) (pv 2) (nomark _)) (pw_or (pt_cmpR op_ne (pe_callB call_isK (by rfl) Cn.isi (by decide +kernel) (pa_cons (pv 0) (pa_cons (pe_glob (v := .ref cLostError) (by rfl) gLostError rfl) pa_nil))) (pv 2) (nomark _)) (pw_or1 (pt_cmpR op_eq (pe_callB call_isK (by rfl) Cn.isi (by decide +kernel) (pa_cons (pv 0) (pa_cons (pe_bltn (v := .ty "ValueError") (by rfl) gV (by decide +kernel) rfl) pa_nil))) (pv 2) (nomark _)))))) (pss_one (ps_ret pe_non)) pss_nil)
      (pss_one (ps_ret (pe_bm PySem.F.plainAttrs_list PySem.F.slot_list_index PySem.F.type_list_index mt_index (pv 1) (pa_cons pe_bl pa_nil))))))))))), ?_⟩
    refine ⟨_, rfl, a, CT, d, _, .ref cNoHouse, .ref cNoHouse, false, rfl, ha, hd, .own cNoHouse, EC, kNoHouse, _, rfl, a, CT, d, _, .ref cNoSaying, .ref cNoSaying, false, rfl, ha, hd, .own cNoSaying, EC, kNoSaying, _, rfl, a, CT, d, _, .ref cNoRule, .ref cNoRule, false, rfl, ha, hd, .own cNoRule, EC, kNoRule, _, rfl, a, CT, d, _, .ref cNoBook, .ref cNoBook, false, rfl, ha, hd, .own cNoBook, EC, kNoBook, (by show 4 ≤ sizeLine; decide), fun q1 hq1 => ?_⟩
    have s1 : Same H (L2.upd H q1 (.lst [.bl false, .bl false, .bl false, .bl false])) := Same.nw Same.rf hq1
    have l1 : (L2.upd H q1 (.lst [.bl false, .bl false, .bl false, .bl false])) q1 = some (.lst [.bl false, .bl false, .bl false, .bl false]) := upd_same
    generalize (L2.upd H q1 (.lst [.bl false, .bl false, .bl false, .bl false])) = H1 at s1 l1 ⊢
    refine ⟨_, rfl, _, rfl, a, CT, d, _, .ref cNoText, .ref cNoText, false, rfl, s1 _ _ ha, s1 _ _ hd, .own cNoText, EC, kNoText, _, rfl, a, CT, d, _, .ref cNoStanding, .ref cNoStanding, false, rfl, s1 _ _ ha, s1 _ _ hd, .own cNoStanding, EC, kNoStanding, _, rfl, a, CT, d, _, .ref cNoOuter, .ref cNoOuter, false, rfl, s1 _ _ ha, s1 _ _ hd, .own cNoOuter, EC, kNoOuter, _, rfl, a, CT, d, _, .ref cNoCourse, .ref cNoCourse, false, rfl, s1 _ _ ha, s1 _ _ hd, .own cNoCourse, EC, kNoCourse, (by show 4 ≤ sizeLine; decide), fun p1 hp1 => ?_⟩
    refine ⟨q1, p1, _, _, rfl, rfl, uk l1 hp1, upd_same, (by show 8 ≤ sizeLine; decide), fun q2 hq2 => ?_⟩
    have s2 := Same.nw (o := .lst ([.bl false, .bl false, .bl false, .bl false] ++ [.bl false, .bl false, .bl false, .bl false])) (Same.nw (o := .lst [.bl false, .bl false, .bl false, .bl false]) s1 hp1) hq2
    have l2 : (L2.upd (L2.upd H1 p1 (.lst [.bl false, .bl false, .bl false, .bl false])) q2 (.lst ([.bl false, .bl false, .bl false, .bl false] ++ [.bl false, .bl false, .bl false, .bl false]))) q2 = some (.lst [.bl false, .bl false, .bl false, .bl false, .bl false, .bl false, .bl false, .bl false]) := upd_same
    generalize L2.upd (L2.upd H1 p1 (.lst [.bl false, .bl false, .bl false, .bl false])) q2 (.lst ([.bl false, .bl false, .bl false, .bl false] ++ [.bl false, .bl false, .bl false, .bl false])) = H2 at s2 l2 ⊢
    refine ⟨_, rfl, _, rfl, a, CT, d, _, .ref cNoChange, .ref cNoChange, false, rfl, s2 _ _ ha, s2 _ _ hd, .own cNoChange, EC, kNoChange, _, rfl, a, CT, d, _, .ref cNoPair, .ref cNoPair, false, rfl, s2 _ _ ha, s2 _ _ hd, .own cNoPair, EC, kNoPair, _, rfl, a, CT, d, _, .ref cTooMany, .ref cTooMany, false, rfl, s2 _ _ ha, s2 _ _ hd, .own cTooMany, EC, kTooMany, _, rfl, a, CT, d, _, .ref cNoNumber, .ref cNoNumber, false, rfl, s2 _ _ ha, s2 _ _ hd, .own cNoNumber, EC, kNoNumber, (by show 4 ≤ sizeLine; decide), fun p2 hp2 => ?_⟩
    refine ⟨q2, p2, _, _, rfl, rfl, uk l2 hp2, upd_same, (by show 12 ≤ sizeLine; decide), fun q3 hq3 => ?_⟩
    have s3 := Same.nw (o := .lst ([.bl false, .bl false, .bl false, .bl false, .bl false, .bl false, .bl false, .bl false] ++ [.bl false, .bl false, .bl false, .bl false])) (Same.nw (o := .lst [.bl false, .bl false, .bl false, .bl false]) s2 hp2) hq3
    have l3 : (L2.upd (L2.upd H2 p2 (.lst [.bl false, .bl false, .bl false, .bl false])) q3 (.lst ([.bl false, .bl false, .bl false, .bl false, .bl false, .bl false, .bl false, .bl false] ++ [.bl false, .bl false, .bl false, .bl false]))) q3 = some (.lst [.bl false, .bl false, .bl false, .bl false, .bl false, .bl false, .bl false, .bl false, .bl false, .bl false, .bl false, .bl false]) := upd_same
    generalize L2.upd (L2.upd H2 p2 (.lst [.bl false, .bl false, .bl false, .bl false])) q3 (.lst ([.bl false, .bl false, .bl false, .bl false, .bl false, .bl false, .bl false, .bl false] ++ [.bl false, .bl false, .bl false, .bl false])) = H3 at s3 l3 ⊢
    refine ⟨_, rfl, _, rfl, a, CT, d, _, .ref cNoRow, .ref cNoRow, false, rfl, s3 _ _ ha, s3 _ _ hd, .own cNoRow, EC, kNoRow, _, rfl, a, CT, d, _, .ref cNoThing, .ref cNoThing, true, rfl, s3 _ _ ha, s3 _ _ hd, .own cNoThing, EC, kNoThing, _, rfl, a, CT, d, _, .ref cNoName, .ref cNoName, false, rfl, s3 _ _ ha, s3 _ _ hd, .own cNoName, EC, kNoName, (by show 3 ≤ sizeLine; decide), fun p3 hp3 => ?_⟩
    refine ⟨q3, p3, _, _, rfl, rfl, uk l3 hp3, upd_same, (by show 15 ≤ sizeLine; decide), fun q4 hq4 => ?_⟩
    have s4 := Same.nw (o := .lst ([.bl false, .bl false, .bl false, .bl false, .bl false, .bl false, .bl false, .bl false, .bl false, .bl false, .bl false, .bl false] ++ [.bl false, .bl true, .bl false])) (Same.nw (o := .lst [.bl false, .bl true, .bl false]) s3 hp3) hq4
    have l4 : (L2.upd (L2.upd H3 p3 (.lst [.bl false, .bl true, .bl false])) q4 (.lst ([.bl false, .bl false, .bl false, .bl false, .bl false, .bl false, .bl false, .bl false, .bl false, .bl false, .bl false, .bl false] ++ [.bl false, .bl true, .bl false]))) q4 = some (.lst [.bl false, .bl false, .bl false, .bl false, .bl false, .bl false, .bl false, .bl false, .bl false, .bl false, .bl false, .bl false, .bl false, .bl true, .bl false]) := upd_same
    generalize L2.upd (L2.upd H3 p3 (.lst [.bl false, .bl true, .bl false])) q4 (.lst ([.bl false, .bl false, .bl false, .bl false, .bl false, .bl false, .bl false, .bl false, .bl false, .bl false, .bl false, .bl false] ++ [.bl false, .bl true, .bl false])) = H4 at s4 l4 ⊢
    refine ⟨_, rfl, .inl ⟨rfl, _, SqL.of l4⟩, q4, _, .bl true, rfl, rfl, SqL.of l4, rfl, rfl, rfl, _, rfl, ?_⟩
    refine ⟨_, rfl, .inl ⟨rfl, _, SqL.of l4⟩, q4, _, .bl true, 13, .bl true, rfl, rfl, SqL.of l4, rfl, rfl, rfl, rfl, ?_, _, _, rfl, rfl, ?_⟩
    · intro m z hm hz
      match m, hm, hz with
      | 0, _, hz => cases hz; rfl
      | 1, _, hz => cases hz; rfl
      | 2, _, hz => cases hz; rfl
      | 3, _, hz => cases hz; rfl
      | 4, _, hz => cases hz; rfl
      | 5, _, hz => cases hz; rfl
      | 6, _, hz => cases hz; rfl
      | 7, _, hz => cases hz; rfl
      | 8, _, hz => cases hz; rfl
      | 9, _, hz => cases hz; rfl
      | 10, _, hz => cases hz; rfl
      | 11, _, hz => cases hz; rfl
      | 12, _, hz => cases hz; rfl
    refine ⟨_, rfl, a, CT, d, _, .ref cHearthError, .ref cHearthError, false, rfl, s4 _ _ ha, s4 _ _ hd, .own cHearthError, EC, kHearthError, _, rfl, rfl, _, rfl, ?_⟩
    refine ⟨_, rfl, a, CT, d, _, .ref cLostError, .ref cLostError, true, rfl, s4 _ _ ha, s4 _ _ hd, .own cLostError, EC, kLostError, _, rfl, rfl, _, rfl, ?_⟩
    refine ⟨_, rfl, a, CT, d, _, .ty "ValueError", .type "ValueError", false, rfl, s4 _ _ ha, s4 _ _ hd, .ty "ValueError", EC, KT.kV, _, rfl, rfl, _, rfl, ?_⟩
    refine ⟨_, rfl, .inl ⟨rfl, _, SqL.of l4⟩, q4, _, .bl true, 13, .bl true, rfl, rfl, SqL.of l4, rfl, rfl, rfl, rfl, ?_, k H4 s4⟩
    intro m z hm hz
    match m, hm, hz with
    | 0, _, hz => cases hz; rfl
    | 1, _, hz => cases hz; rfl
    | 2, _, hz => cases hz; rfl
    | 3, _, hz => cases hz; rfl
    | 4, _, hz => cases hz; rfl
    | 5, _, hz => cases hz; rfl
    | 6, _, hz => cases hz; rfl
    | 7, _, hz => cases hz; rfl
    | 8, _, hz => cases hz; rfl
    | 9, _, hz => cases hz; rfl
    | 10, _, hz => cases hz; rfl
    | 11, _, hz => cases hz; rfl
    | 12, _, hz => cases hz; rfl
end
end Hr

/-! text G1 -/
set_option Elab.async false
set_option linter.all false
set_option maxRecDepth 100000
set_option maxHeartbeats 4000000
namespace Hr
open PySem L2
/-- values_of, found on the class -/
def Vof (P : Program) (w : World) (K : PySem.W.Frag) (mg : Str → Option Value) (base : Heap) (C CT : Addr) : Prop :=
  ∃ f fd, FnOk P w K mg base (L2.CX P w) 3 f fd ["self", "name"] (spValuesOf K C CT) ∧ Meth K C "values_of" f ∧ Binds K fd ["self", "name"] []
def NoNm (K : PySem.W.Frag) (H : Hp) (o i : List TV) (x : V) : Prop := NoStr K H x ∨ ∃ z, x = .str z ∧ z.length ≤ 10000 ∧ z ∉ nmH o i
/-- what is no name of the house -/
def spNoThing (K : PySem.W.Frag) (C : Addr) : Sp := fun vs H Q _ => ∃ (p : Addr) (o i : List TV) (h : Int) (x : V), vs = [.ref p, x] ∧ HouseAt H C p o i h ∧ GoodH o i h ∧
  NoNm K H o i x ∧ Eqd H 2 x x ∧ ∀ H', Same H H' → Q (.bl true) H'
section
variable {P : Program} {w : World} {K : PySem.W.Frag} {mg : Str → Option Value} {base : Heap} {f C CT CL : Addr} {fd : FuncData}
theorem scNoT : FnScope ["_law_built", "_law_name", "_law_caught", "_law_e"] ["_law_built", "_law_name"] (defScope s_law_no_thing) := ⟨rfl, rfl, rfl, by decide +kernel, rfl, by decide +kernel, by decide +kernel⟩
theorem ok_no_thing (F : FnP K "_law_no_thing" s_law_no_thing f fd) (T : HTxt K mg C) (V : Vof P w K mg base C CT) (DK : Dk P w K mg base "_law_kind" 1 ["_law_e"] (spKind CT)) (DS : Dk P w K mg base "_law_same" 3 pSame (spSame 2))
    (XF : XfC K CT) (nN : PySem.W.findIn K (.ref CT) "name" = some none) (gL : mg "LostError" = some (.ref CL)) (eL : PySem.W.exmOne K (.ref CT) (.ref CL) = some true) :
    FnOk P w K mg base CX0 4 f fd ["_law_built", "_law_name"] (spNoThing K C) := by
  refine F.ok scNoT (fun vs H Q E h => ?_) (fun cdv A outer s H vs Q E hr h => ?_)
  · obtain ⟨p, o, i, h, x, rfl, _⟩ := h
    rfl
  · obtain ⟨p, o, i, h, x, rfl, HA, G, hx, hE, k⟩ := h
    obtain ⟨fv, fdv, GV, mV, bV⟩ := V
    have hr1 : Room 1 _ := hr.mono (by decide)
    refine ⟨_, PSs.nox (pss_cons (ps_set (i := 2) scNoT.nd rfl (.inl rfl) pe_non)
      (pss_cons (ps_try_keep (i := 3) (tb := fun W => tDrop (tMethA C "values_of" (spValuesOf K C CT) (WE W) (tVar 0) (tCons (tVar 1) tNil))) (ts := tAsg (tVar 3) (gName 2)) rfl rfl scNoT.nd rfl rfl ⟨rfl, by decide, Or.inl gL⟩
          (fun W pn xe tk _ => pss_one (ps_expr (pe_methA (pv 0) T.cl mV GV hr bV (fun σ => passAt tk σ) (by exact (pa_cons (pv 1) pa_nil)))))
          (fun _ _ _ => pss_one (ps_set (i := 2) scNoT.nd rfl (Or.inl rfl) (pv 3))))
      (pss_one (ps_ret (pe_and (pe_cmpR op_notN (pv 2) pe_non (nomark _)) (pe_and (pe_cmpR op_eq (pe_cd DK hr1 rfl (pa_cons (pv 2) pa_nil)) pe_int (nomark _)) (pe_one (pe_cd DS hr rfl (pa_cons (pe_xk XF nN (pv 2)) (pa_cons (pv 1) pa_nil)))))))))), ?_⟩
    obtain ⟨dx, po, pi, hp, tO, tI⟩ := id HA
    refine ⟨_, rfl, p, dx, _, rfl, hp, rfl, _, rfl, p, o, i, h, x, rfl, HA, G, .inr ⟨hx, fun H1 d s1 hd => ?_⟩⟩
    refine ⟨eL, CT, rfl, fun a ha => ⟨_, rfl, ?_⟩⟩
    have s2 : Same H (L2.upd (L2.upd H1 d (.xd [("name", x)])) a (ExA CT (some d) a)) := Same.nw (Same.nw s1 hd) ha
    have c2 : Caught (L2.upd (L2.upd H1 d (.xd [("name", x)])) a (ExA CT (some d) a)) CT a x := ⟨d, upd_same, uk upd_same ha⟩
    refine ⟨_, rfl, rfl, true, rfl, ?_⟩
    refine ⟨_, rfl, a, x, rfl, c2, fun H3 s3 => ?_⟩
    obtain ⟨d3, a3, e3⟩ := c2.sm s3
    refine ⟨rfl, true, rfl, ?_⟩
    refine ⟨_, rfl, a, d3, _, x, rfl, a3, e3, rfl, _, rfl, x, x, rfl, hE.sm (Same.tr s2 s3), fun H4 s4 => k H4 (Same.tr (Same.tr s2 s3) s4)⟩
end
end Hr

/-! text G2 -/
set_option Elab.async false
set_option linter.all false
set_option maxRecDepth 100000
set_option maxHeartbeats 4000000
namespace Hr
open PySem L2
theorem passE {X : Cx} : Passes (L2.CX X.prog X.w) X E0 := fun _ _ _ _ _ _ _ ⟨_, _, _, _, _, _, _, _, _, _, _, _, h⟩ => h.elim
/-- a + b of two tuples of things -/
theorem catT {K : PySem.W.Frag} {H : Hp} {po pi : Addr} {o i : List TV} {Q : VK} (tO : Things H po o) (tI : Things H pi i) (l : o.length + i.length ≤ 100) (k : ∀ H' q, Same H H' → Things H' q (o ++ i) → Q (.ref q) H') : rCatA K (.ref po) (.ref pi) H Q := by
  obtain ⟨os, ho, pO⟩ := tO
  obtain ⟨is, hi, pI⟩ := tI
  have lo := pO.length
  have li := pI.length
  refine ⟨po, pi, os, is, rfl, rfl, SqT.of ho, SqT.of hi, Nat.le_trans (by omega : os.length + is.length ≤ 100) (by decide), fun e => ?_, fun _ e => ?_, fun _ _ q hq => ?_⟩
  · subst e
    cases pO
    exact k H pi Same.rf ⟨is, hi, pI⟩
  · subst e
    cases pI
    exact k H po Same.rf ⟨os, ho, by rw [List.append_nil]; exact pO⟩
  · have s := Same.nw (o := .tup (os ++ is)) (Same.rf (H := H)) hq
    exact k _ q s ⟨os ++ is, upd_same, things_tk (TK.sm s) (paired_app pO pI)⟩
theorem LoT.mu {H : Hp} {q p : Addr} {xs : List V} {o : HO} {us : List (List Str)} (hq : H q = some (.lst xs)) (ne : p ≠ q) (h : LoT H p us) : LoT (L2.upd H q o) p us := by
  obtain ⟨vs, h1, h2⟩ := h
  exact ⟨vs, by rw [upd_ne ne]; exact h1, ts_tk (TK.ls hq) h2⟩
/-- str() and len() of a house -/
def Own (P : Program) (w : World) (K : PySem.W.Frag) (mg : Str → Option Value) (base : Heap) (C : Addr) (m : Str) (k : Nat) (sp : Sp) : Prop :=
  ∃ f fd, FnOk P w K mg base CX0 k f fd ["self"] sp ∧ Binds K fd ["self"] [] ∧ PySem.W.findIn K (.ref C) m = some (some (.ref f)) ∧ PySem.W.isFn K (.ref f) = true
def spRight (C : Addr) : Sp := fun vs H Q _ => ∃ (p ht : Addr) (o i : List TV) (h : Int), vs = [.ref p, .ref ht] ∧ HouseAt H C p o i h ∧ HouseT H ht o i h ∧ GoodH o i h ∧ ∀ H', Same H H' → Q (.bl true) H'
section
variable {P : Program} {w : World} {K : PySem.W.Frag} {mg : Str → Option Value} {base : Heap} {f C CT : Addr} {fd : FuncData}
abbrev nRight : List Str := ["_law_built", "_law_house_here", "_law_told", "_law_ways_here", "_law_first", "_law_name", "_law_values"]
theorem scRight : FnScope nRight ["_law_built", "_law_house_here"] (defScope s_law_right) := ⟨rfl, rfl, rfl, by decide +kernel, rfl, by decide +kernel, by decide +kernel⟩
theorem ok_right (F : FnP K "_law_right" s_law_right f fd) (T : HTxt K mg C) (Cn : Cns K mg) (V : Vof P w K mg base C CT) (OS : Own P w K mg base C "__str__" 2 (spStr C)) (OL : Own P w K mg base C "__len__" 1 (spLen C))
    (DS : Dk P w K mg base "_law_same" 3 pSame (spSame 2)) (DA : Dk P w K mg base "all_outer" 1 ["house"] (spAllOuter C)) (DW : Dk P w K mg base "_law_ways" 1 ["_law_house_here"] spLWays)
    (DF : Dk P w K mg base "first_values" 1 ["house"] (spFirst C)) (DX : Dk P w K mg base "_law_text" 1 ["_law_house_here"] spLText) :
    FnOk P w K mg base CX0 5 f fd ["_law_built", "_law_house_here"] (spRight C) := by
  refine F.ok scRight (fun vs H Q E h => ?_) (fun cdv A outer s H vs Q E hr h => ?_)
  · obtain ⟨p, ht, o, i, h, rfl, _⟩ := h
    rfl
  · obtain ⟨p, ht, o, i, h, rfl, HA, HT, G, k⟩ := h
    obtain ⟨fv, fdv, GV, mV, bV⟩ := V
    obtain ⟨fs, fds, GS, bS, hsS, hfS⟩ := OS
    obtain ⟨fl, fdl, GL, bL, hsL, hfL⟩ := OL
    have hr1 : Room 1 _ := hr.mono (by decide)
    have hr3 : Room 3 _ := hr.mono (by decide)
    refine ⟨_, PSs.nox (pss_cons (ps_if (pt_not (pt_val (pe_callB (cr_all rfl) (by rfl) Cn.all (by decide +kernel) (pa_cons
          (pe_lc (own := [("_law_name", 5), ("_law_values", 6)]) (g := gTup K 2 (gCons (gName 5) (gCons (gName 6) gNil))) (tt := tYes) (te := tCall (spSame 2) [] E0 (tCons (tMeth C "values_of" (spValuesOf K C CT) [] E0 (tVar 0) (tCons (tVar 5) tNil)) (tCons (tVar 6) tNil))) rfl scRight.nd
            (pi_tup (pe_op op_catA (pe_ix ix_tup (pv 1) pe_int (fun _ _ => rfl)) (pe_ix ix_tup (pv 1) pe_int (fun _ _ => rfl)))) (blkOk_by (N := nRight) (sc := defScope s_law_right) (by decide +kernel))
            (fun _ _ _ _ _ => pg_tup rfl (pgs_cons (pg_name (i := 5) scRight.nd rfl (.inl rfl)) (pgs_cons (pg_name (i := 6) scRight.nd rfl (.inl rfl)) pgs_nil))) (fun _ _ _ _ _ => pts_nil)
            (fun _ _ _ _ _ => pe_cd DS hr3 rfl (pa_cons (pe_meth (pv 0) T.cl mV GV hr3 bV .nil passE (by exact pa_cons (pv 5) pa_nil)) (pa_cons (pv 6) pa_nil)))) pa_nil)))) (pss_one (ps_ret pe_bl)) pss_nil)
      (pss_cons (ps_par (i := 2) (j := 3) rfl scRight.nd rfl rfl (by decide) rfl rfl (pa_cons (pe_cd DA hr1 rfl (pa_cons (pv 0) pa_nil)) (pa_cons (pe_cd DW hr1 rfl (pa_cons (pv 1) pa_nil)) pa_nil)) (by rfl))
      (pss_cons (ps_if (pt_not (pt_val (pe_cd DS hr3 rfl (pa_cons (pv 2) (pa_cons (pv 3) pa_nil))))) (pss_one (ps_ret pe_bl)) pss_nil)
      (pss_cons (ps_expr (pe_bm PySem.F.plainAttrs_list PySem.F.slot_list_append PySem.F.type_list_append mt_append (pv 2) (pa_cons (pe_tup pa_nil) pa_nil)))
      (pss_cons (ps_asg (pe_tup (pa_cons pe_str pa_nil)) (pg_sub (pv 2) pe_int set_list))
      (pss_cons (ps_if (pt_not (pt_val (pe_cd DS hr3 rfl (pa_cons (pe_cd DA hr1 rfl (pa_cons (pv 0) pa_nil)) (pa_cons (pv 3) pa_nil))))) (pss_one (ps_ret pe_bl)) pss_nil)
      (pss_cons (ps_set (i := 4) scRight.nd rfl (.inl rfl) (pe_callTy call_tuple_of (by rfl) Cn.tuple (by decide +kernel) (pa_cons
          (pe_lc (own := [("_law_name", 5), ("_law_values", 6)]) (g := gTup K 2 (gCons (gName 5) (gCons (gName 6) gNil))) (tt := tYes) rfl scRight.nd
            (pi_tup (pe_ix ix_tup (pv 1) pe_int (fun _ _ => rfl))) (blkOk_by (N := nRight) (sc := defScope s_law_right) (by decide +kernel))
            (fun _ _ _ _ _ => pg_tup rfl (pgs_cons (pg_name (i := 5) scRight.nd rfl (.inl rfl)) (pgs_cons (pg_name (i := 6) scRight.nd rfl (.inl rfl)) pgs_nil))) (fun _ _ _ _ _ => pts_nil)
            (fun _ _ _ _ _ => pe_ix (r := rIxT K) ix_tup (pv 6) pe_int (fun _ _ => rfl))) pa_nil)))
      (pss_cons (ps_if (PW.pt (pw_or (pt_not (pt_val (pe_cd DS hr3 rfl (pa_cons (pe_cd DF hr1 rfl (pa_cons (pv 0) pa_nil)) (pa_cons (pv 4) pa_nil)))))
          (pw_or1 (pt_cmpR op_ne (pe_callB (call_lenO GL bL hsL hfL hr3) (by rfl) Cn.len PySem.boot_len (pa_cons (pv 0) pa_nil)) (pe_callB call_len_seq (by rfl) Cn.len PySem.boot_len (pa_cons (pe_op op_catA (pe_ix ix_tup (pv 1) pe_int (fun _ _ => rfl)) (pe_ix ix_tup (pv 1) pe_int (fun _ _ => rfl))) pa_nil)) (nomark _))))) (pss_one (ps_ret pe_bl)) pss_nil)
      (pss_one (ps_ret (pe_cmpR op_eq (pe_callTy (call_strO GS bS hsS hfS hr) (by rfl) Cn.str (by decide +kernel) (pa_cons (pv 0) pa_nil)) (pe_cd DX hr1 rfl (pa_cons (pv 1) pa_nil)) (nomark _)))))))))))), ?_⟩
    obtain ⟨dx, po', pi', hp, tO', tI'⟩ := id HA
    obtain ⟨po, pi, hht, tO, tI⟩ := id HT
    have l7 : o.length + i.length ≤ 100 := by have := G.o3; have := G.i4; omega
    have lw : (waysL o).length ≤ 1000 := by
      rw [waysL_len]
      have := ways12 G o.length
      rw [List.take_length] at this
      omega
    have le : ∀ u ∈ waysL o, u.length ≤ 1000 := fun u hu => by
      rw [waysL_el hu]
      have := G.o3
      omega
    refine ⟨_, rfl, ht, _, 0, _, rfl, rfl, SqT.of hht, rfl, _, rfl, ht, _, 1, _, rfl, rfl, SqT.of hht, rfl, catT tO tI l7 (fun H1 q s1 tq => ?_)⟩
    obtain ⟨vs, hq, pr⟩ := tq
    refine ⟨q, rfl, ⟨_, SqT.of hq⟩, fun D hD => lc_sm (walk_tup (K := K) (a := q) (xs := vs)) ((vs.map fun _ => true).map V.bl) (by simp) (by rw [pr.length, List.length_append]; omega) hD (fun _ s => SqT.of (s _ _ hq)) ?_ ?_⟩
    · rintro j x y H2 H3 Kt hj hy s2 ⟨rfl, hx⟩ hk
      obtain rfl := trues_at hy
      obtain ⟨t, htm, a, b, rfl, h1, h2⟩ := paired_ix pr hx
      have tm := List.mem_of_getElem? htm
      have gt := good_name G tm
      refine ⟨a, _, rfl, SqT.of (s2 _ _ h1), rfl, _, _, rfl, _, _, rfl, rfl, rfl, ?_⟩
      refine ⟨_, rfl, p, dx, _, rfl, s2 _ _ (s1 _ _ hp), rfl, _, rfl, p, o, i, h, .str t.1, rfl, HA.sm (Same.tr s1 s2), G, .inl ⟨t, rfl, tm, fun H4 q4 s4 hq4 => ?_⟩⟩
      exact ⟨_, rfl, .ref q4, .ref b, rfl, Eqd.up (eqd_strs hq4 (s4 _ _ (s2 _ _ h2)) (by have := gt.2.2.2.2; omega)), fun H5 s5 => hk H5 (Same.tr s4 s5)⟩
    · intro H2 s2 hD2
      refine ⟨D, _, rfl, SqL.of hD2, true, (by rw [all_true]), ?_⟩
      have sA : Same H H2 := Same.tr s1 s2
      refine ⟨_, rfl, p, o, i, h, rfl, HA.sm sA, G, fun H3 q1 s3 n1 L1 => ⟨_, rfl, ht, o, i, h, rfl, HT.tk (TK.sm (Same.tr sA s3)), G, fun H4 q2 s4 n2 L2 => ⟨_, _, rfl, ?_⟩⟩⟩
      refine ⟨_, rfl, _, rfl, _, _, rfl, eqd_lots (L1.sm s4) L2 lw le, fun H5 s5 => ⟨true, rfl, ?_⟩⟩
      have fq : H q1 = none := Same.fre sA n1
      have S5 : Same H H5 := Same.tr (Same.tr (Same.tr sA s3) s4) s5
      obtain ⟨ws1, hw1, pw1⟩ := (L1.sm s4).sm s5
      have M2 := L2.sm s5
      have nq : q2 ≠ q1 := fun e => by
        obtain ⟨_, z, _⟩ := L1
        rw [← e, n2] at z
        cases z
      have lw1 : ws1.length ≤ 1000 := by rw [pw1.length]; exact lw
      refine ⟨_, rfl, .inl ⟨rfl, _, SqL.of hw1⟩, (by show 0 ≤ sizeLine; decide), fun e1 he1 => ⟨q1, _, _, rfl, rfl, uk hw1 he1, Nat.lt_of_le_of_lt lw1 (by decide), ?_⟩⟩
      refine ⟨(by show 1 ≤ sizeLine; decide), fun e2 he2 => ⟨_, rfl, q1, _, 0, 0, rfl, rfl, uk upd_same he2, ?_, ?_⟩⟩
      · rw [List.length_append]
        show (if (0 : Int) ≤ 0 then (if (0 : Int) < ((ws1.length + 1 : Nat) : Int) then some (0 : Int).toNat else none) else _) = _
        rw [if_pos (by decide), if_pos (by omega)]
        rfl
      have SX := Same.mu (o := .lst ((ws1 ++ [V.ref e1]).set 0 (V.ref e2))) (Same.nw (o := .tup [.str "x"]) (Same.mu (o := .lst (ws1 ++ [.ref e1])) (Same.nw (o := .tup []) S5 he1) fq) he2) fq
      have MX := LoT.mu (o := .lst ((ws1 ++ [V.ref e1]).set 0 (V.ref e2))) (uk upd_same he2) nq (LoT.sm (Same.nw (o := .tup [.str "x"]) Same.rf he2) (LoT.mu (o := .lst (ws1 ++ [.ref e1])) (uk hw1 he1) nq (M2.sm (Same.nw (o := .tup []) Same.rf he1))))
      refine ⟨_, rfl, p, o, i, h, rfl, HA.sm SX, G, fun H6 q6 s6 n6 L6 => ⟨_, rfl, _, _, rfl, eqd_lots L6 (MX.sm s6) lw le, fun H7 s7 => ⟨true, rfl, ?_⟩⟩⟩
      have S7 : Same H H7 := Same.tr (Same.tr SX s6) s7
      obtain ⟨is, hi, pI⟩ := id tI
      refine ⟨_, rfl, ht, _, 1, _, rfl, rfl, SqT.of (S7 _ _ hht), rfl, pi, rfl, ⟨_, SqT.of (S7 _ _ hi)⟩, fun D' hD' => lc_sm (walk_tup (K := K) (a := pi) (xs := is)) ((firsts i).map V.str) (by rw [List.length_map, firsts, List.length_map, pI.length]) (by have := G.i4; rw [pI.length]; omega) hD' (fun _ s => SqT.of (s _ _ (S7 _ _ hi))) ?_ ?_⟩
      · rintro j x y H8 H9 Kt hj hy s8 ⟨rfl, hx⟩ hk
        obtain ⟨t, htm, a, b, rfl, h1, h2⟩ := paired_ix pI hx
        have g := G.ig t (List.mem_of_getElem? htm)
        have e : y = V.str (t.2.headD "") := by
          rw [firsts, List.map_map, List.getElem?_map, htm] at hy
          exact (Option.some.inj hy).symm
        subst e
        have hd : atI (t.2.map V.str) 0 = some (V.str (t.2.headD "")) := by
          have l := g.2.2.2.1
          cases q : t.2 with
          | nil =>
            rw [q] at l
            exact absurd l (by decide)
          | cons z r => exact atI_nat (j := 0) rfl
        exact ⟨a, _, rfl, SqT.of (s8 _ _ (S7 _ _ h1)), rfl, _, _, rfl, _, _, rfl, rfl, rfl, _, rfl, b, _, 0, _, rfl, rfl, SqT.of (s8 _ _ (S7 _ _ h2)), hd, hk _ Same.rf⟩
      · intro H8 s8 hD8
        refine ⟨D', _, rfl, .inl ⟨SqL.of hD8, fun q9 hq9 => ?_⟩⟩
        have S9 := Same.nw (o := .tup ((firsts i).map V.str)) (Same.tr S7 s8) hq9
        refine ⟨_, rfl, p, o, i, h, rfl, HA.sm S9, G, fun H10 q10 s10 n10 h10 => ⟨_, rfl, _, _, rfl, Eqd.up (eqd_strs h10 (s10 _ _ upd_same) (by rw [firsts, List.length_map]; have := G.i4; omega)), fun H11 s11 => ⟨true, rfl, ?_⟩⟩⟩
        have S11 : Same H H11 := Same.tr (Same.tr S9 s10) s11
        refine ⟨_, rfl, p, dx, _, rfl, S11 _ _ hp, p, o, i, h, rfl, HA.sm S11, G, fun H12 s12 => ⟨_, rfl, Int.natCast_nonneg _, by omega, ?_⟩⟩
        have S12 : Same H H12 := Same.tr S11 s12
        refine ⟨_, rfl, ht, _, 0, _, rfl, rfl, SqT.of (S12 _ _ hht), rfl, _, rfl, ht, _, 1, _, rfl, rfl, SqT.of (S12 _ _ hht), rfl, catT (tO.tk (TK.sm S12)) (tI.tk (TK.sm S12)) l7 (fun H13 q13 s13 t13 => ?_)⟩
        obtain ⟨v13, h13, p13⟩ := t13
        have e13 : v13.length = o.length + i.length := by rw [p13.length, List.length_append]
        have S13 : Same H H13 := Same.tr S12 s13
        refine ⟨q13, v13, rfl, .inr (SqT.of h13), rfl, _, rfl, ?_⟩
        rw [e13]
        refine ite2 (fun e => absurd e (by simp)) (fun _ => ?_)
        refine ⟨_, rfl, p, dx, _, rfl, S13 _ _ hp, p, o, i, h, rfl, HA.sm S13, G, fun H14 s14 => ⟨_, rfl, _, rfl, ht, o, i, h, rfl, HT.tk (TK.sm (Same.tr S13 s14)), G, fun H15 s15 => ⟨rfl, ?_⟩⟩⟩
        rw [decide_eq_true rfl]
        exact k H15 (Same.tr (Same.tr S13 s14) s15)
end
end Hr

/-! text G3 -/
set_option Elab.async false
set_option linter.all false
set_option maxRecDepth 100000
set_option maxHeartbeats 4000000
namespace Hr
open PySem L2
theorem ways_pos {o i : List TV} {h : Int} (G : GoodH o i h) : 1 ≤ waysN o := by
  have key : ∀ (l : List TV) (n : Nat), 1 ≤ n → (∀ t ∈ l, GoodT t) → 1 ≤ (l.map fun t => t.2.length).foldl (· * ·) n := by
    intro l
    induction l with
    | nil => intro n hn _; exact hn
    | cons t l ih =>
      intro n hn g
      have gt := (g t List.mem_cons_self).2.2.2.1
      exact ih (n * t.2.length) (Nat.mul_pos hn (by omega)) fun u hu => g u (List.mem_cons_of_mem _ hu)
  exact key o 1 (Nat.le_refl _) G.og
def spKept (C : Addr) : Sp := fun vs H Q _ => ∃ (p ht p' : Addr) (o i o' i' : List TV) (h h' : Int), vs = [.ref p, .ref ht, .ref p'] ∧ HouseAt H C p o i h ∧ HouseT H ht o i h ∧ GoodH o i h ∧ HouseAt H C p' o' i' h' ∧ GoodH o' i' h' ∧ ∀ H', Same H H' → Q (.bl true) H'
section
variable {P : Program} {w : World} {K : PySem.W.Frag} {mg : Str → Option Value} {base : Heap} {f C CT : Addr} {fd : FuncData}
abbrev pKept : List Str := ["_law_built", "_law_house_here", "_law_other"]
abbrev nKept : List Str := ["_law_built", "_law_house_here", "_law_other", "_law_told", "_law_second", "_law_again"]
theorem scKept : FnScope nKept pKept (defScope s_law_kept_right) := ⟨rfl, rfl, rfl, by decide +kernel, rfl, by decide +kernel, by decide +kernel⟩
theorem ok_kept (F : FnP K "_law_kept_right" s_law_kept_right f fd)
    (DS : Dk P w K mg base "_law_same" 3 pSame (spSame 2)) (DA : Dk P w K mg base "all_outer" 1 ["house"] (spAllOuter C)) (DW : Dk P w K mg base "_law_ways" 1 ["_law_house_here"] spLWays) :
    FnOk P w K mg base CX0 4 f fd pKept (spKept C) := by
  refine F.ok scKept (fun vs H Q E h => ?_) (fun cdv A outer s H vs Q E hr h => ?_)
  · obtain ⟨p, ht, p', o, i, o', i', h, h', rfl, _⟩ := h
    rfl
  · obtain ⟨p, ht, p', o, i, o', i', h, h', rfl, HA, HT, G, HA', G', k⟩ := h
    have hr1 : Room 1 _ := hr.mono (by decide)
    refine ⟨_, PSs.nox (pss_cons (ps_set (i := 3) scKept.nd rfl (.inl rfl) (pe_cd DA hr1 rfl (pa_cons (pv 0) pa_nil)))
      (pss_cons (ps_set (i := 4) scKept.nd rfl (.inl rfl) (pe_cd DA hr1 rfl (pa_cons (pv 2) pa_nil)))
      (pss_cons (ps_set (i := 5) scKept.nd rfl (.inl rfl) (pe_cd DA hr1 rfl (pa_cons (pv 0) pa_nil)))
      (pss_cons (ps_expr (pe_bm PySem.F.plainAttrs_list PySem.F.slot_list_append PySem.F.type_list_append mt_append (pv 4) (pa_cons (pe_tup (pa_cons pe_str pa_nil)) pa_nil)))
      (pss_cons (ps_asg (pe_tup (pa_cons pe_str pa_nil)) (pg_sub (pv 5) (pe_un un_neg pe_int) set_list))
      (pss_one (ps_ret (pe_cd DS hr rfl (pa_cons (pv 3) (pa_cons (pe_cd DW hr1 rfl (pa_cons (pv 1) pa_nil)) pa_nil)))))))))), ?_⟩
    have lw : ∀ {o i : List TV} {h : Int}, GoodH o i h → (waysL o).length ≤ 1000 := fun {o i h} G => by
      rw [waysL_len]
      have := ways12 G o.length
      rw [List.take_length] at this
      omega
    have le : ∀ u ∈ waysL o, u.length ≤ 1000 := fun u hu => by
      rw [waysL_el hu]
      have := G.o3
      omega
    refine ⟨_, rfl, p, o, i, h, rfl, HA, G, fun H1 q1 s1 n1 L1 => ?_⟩
    refine ⟨_, rfl, p', o', i', h', rfl, HA'.sm s1, G', fun H2 q2 s2 n2 Lb => ?_⟩
    have S2 : Same H H2 := Same.tr s1 s2
    refine ⟨_, rfl, p, o, i, h, rfl, HA.sm S2, G, fun H3 q3 s3 n3 L3 => ?_⟩
    have S3 : Same H H3 := Same.tr S2 s3
    obtain ⟨vs2, h2, p2⟩ := Lb.sm s3
    obtain ⟨vs3, h3, p3⟩ := id L3
    have M1 := L1.sm (Same.tr s2 s3)
    have n12 : q1 ≠ q2 := fun e => by
      obtain ⟨_, z, _⟩ := L1
      rw [e, n2] at z
      cases z
    have n13 : q1 ≠ q3 := fun e => by
      obtain ⟨_, z, _⟩ := L1.sm s2
      rw [e, n3] at z
      cases z
    have n32 : q3 ≠ q2 := fun e => by
      obtain ⟨_, z, _⟩ := Lb
      rw [← e, n3] at z
      cases z
    have f2 : H q2 = none := Same.fre s1 n2
    have f3 : H q3 = none := Same.fre S2 n3
    have l2 : vs2.length ≤ 1000 := by rw [p2.length]; exact lw G'
    have l3 : 1 ≤ vs3.length := by rw [p3.length, waysL_len]; exact ways_pos G
    refine ⟨_, rfl, .inl ⟨rfl, _, SqL.of h2⟩, (by show 1 ≤ sizeLine; decide), fun e1 he1 => ⟨q2, _, _, rfl, rfl, uk h2 he1, Nat.lt_of_le_of_lt l2 (by decide), ?_⟩⟩
    have h3b : (L2.upd (L2.upd H3 e1 (.tup [.str "x"])) q2 (.lst (vs2 ++ [V.ref e1]))) q3 = some (.lst vs3) := by
      rw [upd_ne n32]
      exact uk h3 he1
    refine ⟨(by show 1 ≤ sizeLine; decide), fun e2 he2 => ⟨_, rfl, _, rfl, q3, _, -1, vs3.length - 1, rfl, rfl, uk h3b he2, ?_, ?_⟩⟩
    · show (if (0 : Int) ≤ -1 then _ else (if -((vs3.length : Nat) : Int) ≤ -1 then some (-1 + ((vs3.length : Nat) : Int)).toNat else none)) = _
      rw [if_neg (by decide), if_pos (by omega)]
      congr 1
      omega
    have SX := Same.mu (o := .lst (vs3.set (vs3.length - 1) (V.ref e2))) (Same.nw (o := .tup [.str "y"]) (Same.mu (o := .lst (vs2 ++ [V.ref e1])) (Same.nw (o := .tup [.str "x"]) S3 he1) f2) he2) f3
    have MX := LoT.mu (o := .lst (vs3.set (vs3.length - 1) (V.ref e2))) (uk h3b he2) n13 (LoT.sm (Same.nw (o := .tup [.str "y"]) Same.rf he2) (LoT.mu (o := .lst (vs2 ++ [V.ref e1])) (uk h2 he1) n12 (M1.sm (Same.nw (o := .tup [.str "x"]) Same.rf he1))))
    refine ⟨_, rfl, _, rfl, ht, o, i, h, rfl, HT.tk (TK.sm SX), G, fun H5 q5 s5 n5 L5 => ⟨_, _, rfl, eqd_lots (MX.sm s5) L5 (lw G) le, fun H6 s6 => k H6 (Same.tr (Same.tr SX s5) s6)⟩⟩
end
end Hr

/-! text L1 -/
set_option Elab.async false
set_option linter.all false
set_option maxRecDepth 100000
set_option maxHeartbeats 4000000
namespace Hr
open PySem PySem.Spec PyProof.Rows L2
theorem Same.btn {H H1 H2 : Hp} {p : Addr} (s : Same H H1) (n : H p = none) (b : But p H1 H2) : Same H H2 := fun q o e => b q o (ne_of_none e n) (s q o e)
theorem SqL.sm {K : PySem.W.Frag} {H H1 : Hp} {a : Addr} {xs : List V} (s : Same H H1) (h : SqL K H a xs) : SqL K H1 a xs := by
  rcases h with (h | ⟨o, h⟩) | h
  · exact .inl (.inl (s _ _ h))
  · exact .inl (.inr ⟨o, s _ _ h⟩)
  · exact .inr h
def X8 : Str := "xxxxxxxx"
theorem op_x8 {X : Cx} : OpR X (binaryOp .Mult) (fun x y H Q => x = .str "x" ∧ y = .int 8 ∧ Q (.str X8) H) := by
  intro pins s σ H x y v u Q I rx ry h
  obtain ⟨rfl, rfl, q⟩ := h
  obtain ⟨t, rfl⟩ := rx
  obtain ⟨t', rfl⟩ := ry
  refine PySem.P.mul_str (by decide) (fun _ _ => by decide +kernel) (fun _ _ => by decide +kernel) ?_
  refine ⟨by decide +kernel, ?_⟩
  exact ⟨.str X8, H, I.tok _, ⟨_, rfl⟩, q⟩
theorem upper_no : ∀ c : Fin 26, ∃ d, Unicode.upperOf (97 + c.val) = [d] ∧ d < 97 := by
  intro c
  refine ⟨65 + c.val, ?_, by omega⟩
  revert c
  decide +kernel
theorem up_cps {z : Str} (h : ∀ c ∈ z.cps.toList, 97 ≤ c ∧ c ≤ 122) : (Txt.upper z).cps = z.cps.map fun c => c - 32 := by
  refine placed_single z _ _ fun i c hc => ?_
  obtain ⟨h1, h2⟩ := h c (List.mem_of_getElem? hc)
  obtain ⟨k, rfl⟩ : ∃ k, c = 97 + k := ⟨c - 97, by omega⟩
  have key : ∀ k : Fin 26, Unicode.upperOf (97 + k.val) = [97 + k.val - 32] := by decide +kernel
  exact key ⟨k, by omega⟩
theorem up_no {z : Str} (h : isNm z) : ¬ isNm (Txt.upper z) := by
  intro u
  have e := up_cps h.2.2.1
  have l := h.1
  rw [len_tl] at l
  cases q : z.cps.toList with
  | nil =>
    rw [q] at l
    exact absurd l (by decide)
  | cons c r =>
    have h1 := h.2.2.1 c (by rw [q]; exact List.mem_cons_self)
    have h2 := u.2.2.1 (c - 32) (by rw [e, Array.toList_map, q]; exact List.mem_cons_self)
    omega
theorem nmH_nm {o i : List TV} {h : Int} (G : GoodH o i h) {z : Str} (hz : z ∈ nmH o i) : isNm z := by
  obtain ⟨t, ht, rfl⟩ := List.mem_map.mp hz
  exact (good_name G ht).1
theorem noNm_of {K : PySem.W.Frag} {H : Hp} {o i : List TV} {h : Int} (G : GoodH o i h) {z : Str} (l : z.length ≤ 10000) (n : ¬ isNm z) : NoNm K H o i (.str z) := .inr ⟨z, rfl, l, fun hz => n (nmH_nm G hz)⟩
section
variable {K : PySem.W.Frag} {H : Hp}
theorem ns_non : NoStr K H .non := ⟨_, .base .non, by rfl⟩
theorem ns_int {n : Int} : NoStr K H (.int n) := ⟨_, .base (.int _), by rfl⟩
theorem ns_bl {b : Bool} : NoStr K H (.bl b) := ⟨_, .base (.bl _), by rfl⟩
theorem ns_lst {p : Addr} {xs : List V} (h : H p = some (.lst xs)) : NoStr K H (.ref p) := ⟨_, .base (.lst h), by rfl⟩
theorem ns_tup {p : Addr} {xs : List V} (h : H p = some (.tup xs)) : NoStr K H (.ref p) := ⟨_, .base (.tup h), by rfl⟩
theorem ns_dk {p : Addr} (h : H p = some (.dK [])) : NoStr K H (.ref p) := ⟨_, .base (.dK h), by rfl⟩
end
end Hr

/-! text LW -/
set_option Elab.async false
set_option linter.all false
set_option maxRecDepth 100000
set_option maxHeartbeats 8000000
namespace Hr
open PySem L2
/-- House(..), by place and by keyword -/
structure MkH (P : Program) (w : World) (K : PySem.W.Frag) (mg : Str → Option Value) (base : Heap) (C : Addr) : Prop where
  ex : ∃ f fd, Mk K C f ∧ FnOk P w K mg base CX0 6 f fd pInit (spHInit C) ∧ Binds K fd pInit [] ∧ ∃ g, KBn K fd pInit (2 + 1) ["hours"] g (fun vs zs => vs ++ zs)
def spLaw (K : PySem.W.Frag) : Sp := fun vs H Q _ => ∃ (a : Addr) (ns : List Int), vs = [.ref a] ∧ SqL K H a (ns.map V.int) ∧ ∀ H', Q (.bl true) H'
/-- a house is made -/
theorem made_at {H H1 : Hp} {C x dx po pi : Addr} {o i : List TV} {h : Int} (hx : H x = none) (hd : H dx = none) (tO : Things H po o) (tI : Things H pi i)
    (b : But x (L2.upd (L2.upd H dx (.own x)) x (.ins C dx [])) H1) (e : H1 x = some (.ins C dx (hf po pi h))) : Same H H1 ∧ HouseAt H1 C x o i h := by
  have s : Same H H1 := fun q u hq => by
    have n1 : q ≠ x := ne_of_none hq hx
    have n2 : q ≠ dx := ne_of_none hq hd
    exact b q u n1 (by rw [upd_ne n1, upd_ne n2]; exact hq)
  exact ⟨s, dx, po, pi, e, tO.tk (TK.sm s), tI.tk (TK.sm s)⟩
def zzz : List TV := [("zzz", ["on", "off"])]
theorem good_zzz : GoodH [] zzz 1 := by
  have g : GoodT (("zzz", ["on", "off"]) : TV) := ⟨by decide +kernel, by decide +kernel, by decide +kernel, by decide, by decide⟩
  exact ⟨by decide, by decide, by decide, (fun _ h => nomatch h), fun t h => by rw [List.mem_singleton.mp h]; exact g, .nil, List.pairwise_singleton _ _, by decide, by decide, by decide, (fun _ h => nomatch h)⟩
section
variable {P : Program} {w : World} {K : PySem.W.Frag} {mg : Str → Option Value} {base : Heap} {f C CT : Addr} {fd : FuncData}
abbrev nLaw : List Str := ["_law_script", "_law_other", "_law_k", "_law_pool_here", "_law_house_here", "_law_built", "_law_name", "_law_values", "_law_odd", "_law_names", "_law_thing", "_law_value"]
theorem scLaw : FnScope nLaw ["_law_script"] (defScope s_law) := ⟨rfl, rfl, rfl, by decide +kernel, rfl, by decide +kernel, by decide +kernel⟩
theorem ok_law (F : FnP K "law" s_law f fd) (T : HTxt K mg C) (Cn : Cns K mg) (MH : MkH P w K mg base C) (gMax : mg "max" = none) (gMin : mg "min" = none)
    (DP : Dk P w K mg base "_law_pool" 1 ["_law_cell_here"] spPool) (DC : Dk P w K mg base "_law_cell" 1 ["_law_script", "_law_k"] (spCell K))
    (DH : Dk P w K mg base "_law_house" 3 ["_law_pool_here", "_law_often"] spHouse) (DWd : Dk P w K mg base "_law_wide_house" 3 ["_law_pool_here"] spWide) (DT : Dk P w K mg base "_law_take" 1 ["_law_pool_here", "_law_many"] spTake)
    (DR : Dk P w K mg base "_law_right" 5 ["_law_built", "_law_house_here"] (spRight C)) (DK : Dk P w K mg base "_law_kept_right" 4 pKept (spKept C)) (DN : Dk P w K mg base "_law_no_thing" 4 ["_law_built", "_law_name"] (spNoThing K C)) :
    FnOk P w K mg base CX0 8 f fd ["_law_script"] (spLaw K) := by
  refine F.ok scLaw (fun vs H Q E h => ?_) (fun cdv A outer s H vs Q E hr h => ?_)
  · obtain ⟨a, ns, rfl, _⟩ := h
    rfl
  · obtain ⟨a, ns, rfl, hS, k⟩ := h
    obtain ⟨fI, fdI, M, GI, bI, gI, kI⟩ := MH.ex
    have hr1 : Room 1 _ := hr.mono (by decide)
    have hr3 : Room 3 _ := hr.mono (by decide)
    have hr4 : Room 4 _ := hr.mono (by decide)
    have hr5 : Room 5 _ := hr.mono (by decide)
    refine ⟨_, PSs.nox (pss_cons (ps_set (i := 1) scLaw.nd rfl (.inl rfl) (pe_make M GI hr rfl T.mgC bI .nil pass0 (pa_cons (pe_tup pa_nil) (pa_cons (pe_tup (pa_cons (pe_tup (pa_cons pe_str (pa_cons (pe_tup (pa_cons pe_str (pa_cons pe_str pa_nil))) pa_nil))) pa_nil)) (pa_cons pe_int pa_nil)))))
      (pss_cons (ps_for PassesOwn.never rfl (pi_range1 rfl Cn.range (pa_cons (pe_callB (call_max2 rfl) (by rfl) gMax (by decide +kernel) (pa_cons pe_int (pa_cons (pe_callB (call_min2 rfl) (by rfl) gMin (by decide +kernel) (pa_cons (pe_callB call_len_seq (by rfl) Cn.len PySem.boot_len (pa_cons (pv 0) pa_nil)) (pa_cons pe_int pa_nil))) pa_nil))) pa_nil)) (pg_name (i := 2) scLaw.nd rfl (.inl rfl))
        (pss_cons (ps_set (i := 3) scLaw.nd rfl (.inl rfl) (pe_cd DP hr1 rfl (pa_cons (pe_cd DC hr1 rfl (pa_cons (pv 0) (pa_cons (pv 2) pa_nil))) pa_nil)))
        (pss_cons (ps_set (i := 4) scLaw.nd rfl (.inl rfl) (pe_ix ix_list (pe_lst (pa_cons (pe_cd DH hr3 rfl (pa_cons (pv 3) (pa_cons pe_int pa_nil))) (pa_cons (pe_cd DWd hr3 rfl (pa_cons (pv 3) pa_nil)) pa_nil))) (pe_cd DT hr1 rfl (pa_cons (pv 3) (pa_cons pe_int pa_nil))) (fun _ _ => rfl)))
        (pss_cons (ps_set (i := 5) scLaw.nd rfl (.inr rfl) (pe_makeN (n := 2) M GI hr rfl T.mgC kI pass0 (pa_cons (pe_ix ix_tup (pv 4) pe_int (fun _ _ => rfl)) (pa_cons (pe_ix ix_tup (pv 4) pe_int (fun _ _ => rfl)) pa_nil)) (pk_cons (pe_ix ix_tup (pv 4) pe_int (fun _ _ => rfl)) pk_nil)))
        (pss_cons (ps_if (PW.pt (pw_or (pt_not (pt_val (pe_cd DR hr5 rfl (pa_cons (pv 5) (pa_cons (pv 4) pa_nil))))) (pw_or1 (pt_not (pt_val (pe_cd DK hr4 rfl (pa_cons (pv 5) (pa_cons (pv 4) (pa_cons (pv 1) pa_nil))))))))) (pss_one (ps_ret pe_bl)) pss_nil)
        (pss_cons (ps_set (i := 1) scLaw.nd rfl (.inl rfl) (pv 5))
        (pss_cons (ps_asg (pe_ix ix_tup (pe_ix ix_tup (pv 4) pe_int (fun _ _ => rfl)) pe_int (fun _ _ => rfl)) (pg_tup rfl (pgs_cons (pg_name (i := 6) scLaw.nd rfl (.inl rfl)) (pgs_cons (pg_name (i := 7) scLaw.nd rfl (.inl rfl)) pgs_nil))))
        (pss_cons (ps_set (i := 8) scLaw.nd rfl (.inl rfl) (pe_lst (pa_cons pe_non (pa_cons pe_int (pa_cons pe_bl (pa_cons pe_str (pa_cons pe_str (pa_cons (pe_upper (pv 6)) (pa_cons (pe_op op_add_str (pv 6) (pe_op op_x8 pe_str pe_int)) (pa_cons (pe_lst pa_nil) (pa_cons (pe_lst (pa_cons (pv 6) pa_nil)) (pa_cons (pe_tup (pa_cons (pv 6) pa_nil)) (pa_cons pe_dnewK (pa_cons (pe_tup (pa_cons (pe_lst pa_nil) pa_nil)) (pa_cons (pv 7) pa_nil)))))))))))))))
        (pss_cons (ps_if (pt_not (pt_val (pe_callB (cr_all rfl) (by rfl) Cn.all (by decide +kernel) (pa_cons
          (pe_lc (own := [("_law_thing", 10)]) (g := gName 10) (tt := tYes) rfl scLaw.nd (pi_list (pv 8)) (blkOk_by (N := nLaw) (sc := defScope s_law) (by decide +kernel)) (fun _ _ _ _ _ => pg_name (i := 10) scLaw.nd rfl (.inl rfl)) (fun _ _ _ _ _ => pts_nil)
            (fun _ _ _ _ _ => pe_cd DN hr4 rfl (pa_cons (pv 5) (pa_cons (pv 10) pa_nil)))) pa_nil)))) (pss_one (ps_ret pe_bl)) pss_nil)
        (pss_cons (ps_set (i := 9) scLaw.nd rfl (.inr rfl) (pe_lc (own := [("_law_thing", 10)]) (g := gName 10) (tt := tYes) rfl scLaw.nd (pi_tup (pe_op op_catA (pe_ix ix_tup (pv 4) pe_int (fun _ _ => rfl)) (pe_ix ix_tup (pv 4) pe_int (fun _ _ => rfl)))) (blkOk_by (N := nLaw) (sc := defScope s_law) (by decide +kernel)) (fun _ _ _ _ _ => pg_name (i := 10) scLaw.nd rfl (.inl rfl)) (fun _ _ _ _ _ => pts_nil)
            (fun _ _ _ _ _ => pe_ix (r := rIxT K) ix_tup (pv 10) pe_int (fun _ _ => rfl))))
        (pss_cons (ps_if (pt_not (pt_val (pe_callB (cr_all rfl) (by rfl) Cn.all (by decide +kernel) (pa_cons
          (pe_lc (own := [("_law_value", 11)]) (g := gName 11) (tt := tYes) (te := tOrV (tOp (rIn K false) (tVar 11) (tVar 9)) (tCall (spNoThing K C) [] E0 (tCons (tVar 5) (tCons (tVar 11) tNil)))) rfl scLaw.nd (pi_tup (pv 7)) (blkOk_by (N := nLaw) (sc := defScope s_law) (by decide +kernel)) (fun _ _ _ _ _ => pg_name (i := 11) scLaw.nd rfl (.inl rfl)) (fun _ _ _ _ _ => pts_nil)
            (fun _ _ _ _ _ => pe_or (pe_cmpR op_in_seq (pv 11) (pv 9) (by rfl)) (pe_one (pe_cd DN hr4 rfl (pa_cons (pv 5) (pa_cons (pv 11) pa_nil)))))) pa_nil)))) (pss_one (ps_ret pe_bl)) pss_nil)
        (pss_one (ps_if (pt_not (pt_val (pe_cd DR hr5 rfl (pa_cons (pv 5) (pa_cons (pv 4) pa_nil))))) (pss_one (ps_ret pe_bl)) pss_nil)))))))))))))
      (pss_one (ps_ret pe_bl)))), ?_⟩
    have l7 : ∀ {o i : List TV} {h : Int}, GoodH o i h → o.length + i.length ≤ 100 := fun {o i h} G => by have := G.o3; have := G.i4; omega
    refine ⟨(by show 0 ≤ sizeLine; decide), fun q0 hq0 => ⟨(by show 2 ≤ sizeLine; decide), fun q1 hq1 => ⟨(by show 2 ≤ sizeLine; decide), fun q2 hq2 => ⟨(by show 1 ≤ sizeLine; decide), fun q3 hq3 => fun x0 dx0 hx0 hd0 nx0 => ?_⟩⟩⟩⟩
    have SZ := Same.nw (o := .tup [.ref q2]) (Same.nw (o := .tup [.str "zzz", .ref q1]) (Same.nw (o := .tup [.str "on", .str "off"]) (Same.nw (o := .tup []) (Same.rf (H := H)) hq0) hq1) hq2) hq3
    have tO0 : Things (L2.upd (L2.upd (L2.upd (L2.upd H q0 (.tup [])) q1 (.tup [.str "on", .str "off"])) q2 (.tup [.str "zzz", .ref q1])) q3 (.tup [.ref q2])) q0 [] := ⟨[], uk (uk (uk upd_same hq1) hq2) hq3, .nil⟩
    have tI0 : Things (L2.upd (L2.upd (L2.upd (L2.upd H q0 (.tup [])) q1 (.tup [.str "on", .str "off"])) q2 (.tup [.str "zzz", .ref q1])) q3 (.tup [.ref q2])) q3 zzz := ⟨[.ref q2], upd_same, .cons ⟨q2, q1, rfl, uk upd_same hq3, uk (uk upd_same hq2) hq3⟩ .nil⟩
    have tk0 := (TK.nw (o := .own x0) hd0).tr (TK.nw (o := .ins C dx0 []) (by rw [upd_ne (Ne.symm nx0)]; exact hx0))
    refine ⟨x0, dx0, q0, q3, [], zzz, 1, rfl, upd_same, tO0.tk tk0, tI0.tk tk0, good_zzz, fun H1 b1 e1 => ⟨rfl, ?_⟩⟩
    obtain ⟨S1, HA1⟩ := made_at hx0 hd0 tO0 tI0 b1 e1
    have S1' : Same H H1 := Same.tr SZ S1
    have ln : ∀ n : Nat, (0 : Int) ≤ (if (if (12 : Int) < (n : Int) then (12 : Int) else (n : Int)) > 1 then (if (12 : Int) < (n : Int) then (12 : Int) else (n : Int)) else 1) ∧ (if (if (12 : Int) < (n : Int) then (12 : Int) else (n : Int)) > 1 then (if (12 : Int) < (n : Int) then (12 : Int) else (n : Int)) else 1) ≤ 12 := fun n => by split <;> split <;> omega
    refine ⟨_, rfl, a, _, rfl, .inl (SqL.sm S1' hS), _, _, rfl, _, _, rfl, _, rfl, ?_, ?_, for_range (lo := 0) (n := _) (fun j σ H' => ∃ (y : Addr) (o i : List TV) (h : Int) (v2 v3 v4 v5 v6 v7 v8 v9 : Option V), σ = [some (.ref a), some (.ref y), v2, v3, v4, v5, v6, v7, v8, v9, none, none] ∧ SqL K H' a (ns.map V.int) ∧ HouseAt H' C y o i h ∧ GoodH o i h)
      ⟨x0, [], zzz, 1, none, none, none, none, none, none, none, none, rfl, SqL.sm S1' hS, HA1, good_zzz⟩ ?_ ?_⟩
    · have := (ln (ns.map V.int).length).1
      omega
    · have := (ln (ns.map V.int).length).2
      omega
    · rintro j σ H' hj ⟨y, o0, i0, h0, v2, v3, v4, v5, v6, v7, v8, v9, rfl, hS', HA0, G0⟩
      have hj100 : j ≤ 100 := by
        have := (ln (ns.map V.int).length).2
        omega
      rw [Int.zero_add]
      refine ⟨_, rfl, _, rfl, a, ns, j, rfl, hS', hj100, fun H1 n s1 => ⟨n, rfl, fun H2 p s2 n2 P2 => ?_⟩⟩
      have S2 : Same H' H2 := Same.tr s1 s2
      have np : H' p = none := Same.fre s1 n2
      refine ⟨_, rfl, p, rfl, P2, fun H3 t1 o1 i1 h1 b3 P3 HT1 G1 => ⟨_, rfl, p, rfl, P3, fun H4 t2 o2 i2 h2 b4 P4 HT2 G2 => ⟨(by show 2 ≤ sizeLine; decide), fun q5 hq5 => ?_⟩⟩⟩
      have O5 := (Okp.rf P4).nw (o := .lst [.ref t1, .ref t2]) hq5
      have n5 : q5 ≠ p := fun e => by
        obtain ⟨_, _, _, z, _⟩ := P4
        rw [← e, hq5] at z
        cases z
      refine ⟨_, rfl, p, 2, rfl, O5.p, by decide, by decide, fun H6 d b6 P6 d0 d1 => ?_⟩
      obtain ⟨t, o, i, h, ht, HT, G⟩ : ∃ (t : Addr) (o i : List TV) (h : Int), atI [V.ref t1, V.ref t2] d = some (.ref t) ∧ HouseT H6 t o i h ∧ GoodH o i h := by
        have tk5 := (TK.nw (o := .lst [.ref t1, .ref t2]) hq5).tr (TK.bt b6 O5.p)
        rcases (by omega : d = 0 ∨ d = 1) with rfl | rfl
        · exact ⟨t1, o1, i1, h1, rfl, HT1.tk ((TK.bt b4 P3).tr tk5), G1⟩
        · exact ⟨t2, o2, i2, h2, rfl, HT2.tk tk5, G2⟩
      have S6 : Same H' H6 := Same.btn (Same.nw (Same.btn (Same.btn S2 np b3) np b4) hq5) np b6
      refine ⟨q5, _, d, _, rfl, rfl, SqL.of (b6 _ _ n5 upd_same), ht, ?_⟩
      obtain ⟨po, pi, hht, tO, tI⟩ := id HT
      refine ⟨_, rfl, t, _, 0, _, rfl, rfl, SqT.of hht, rfl, _, rfl, t, _, 1, _, rfl, rfl, SqT.of hht, rfl, _, rfl, t, _, 2, _, rfl, rfl, SqT.of hht, rfl, rfl, rfl, fun x dx hx hdx nx => ?_⟩
      have tkx := (TK.nw (o := .own x) hdx).tr (TK.nw (o := .ins C dx []) (by rw [upd_ne (Ne.symm nx)]; exact hx))
      refine ⟨x, dx, po, pi, o, i, h, rfl, upd_same, tO.tk tkx, tI.tk tkx, G, fun H7 b7 e7 => ⟨rfl, ?_⟩⟩
      obtain ⟨S67, HA⟩ := made_at hx hdx tO tI b7 e7
      have S7 : Same H' H7 := Same.tr S6 S67
      refine ⟨_, rfl, _, rfl, x, t, o, i, h, rfl, HA, HT.tk (TK.sm S67), G, fun H8 s8 => ⟨true, rfl, ?_⟩⟩
      refine ⟨_, rfl, _, rfl, _, rfl, x, t, y, o, i, o0, i0, h, h0, rfl, HA.sm s8, HT.tk (TK.sm (Same.tr S67 s8)), G, HA0.sm (Same.tr S7 s8), G0, fun H9 s9 => ⟨true, rfl, ?_⟩⟩
      have S79 : Same H7 H9 := Same.tr s8 s9
      have S69 : Same H6 H9 := Same.tr S67 S79
      obtain ⟨is, hi, pI⟩ := id tI
      obtain ⟨t0, i', rfl⟩ : ∃ t0 i', i = t0 :: i' := by
        cases i with
        | nil => exact absurd G.i1 (by decide)
        | cons a b => exact ⟨a, b, rfl⟩
      obtain ⟨u0, is', rfl, a0, b0, rfl, ha0, hb0⟩ : ∃ u0 is', is = u0 :: is' ∧ Thing H6 u0 t0 := by
        cases pI with
        | cons z _ => exact ⟨_, _, rfl, z⟩
      refine ⟨_, rfl, _, rfl, t, _, 1, _, rfl, rfl, SqT.of (S69 _ _ hht), rfl, pi, _, 0, _, rfl, rfl, SqT.of (S69 _ _ hi), atI_nat (j := 0) rfl, a0, _, rfl, SqT.of (S69 _ _ ha0), rfl, _, _, rfl, _, _, rfl, rfl, ?_⟩
      have gt0 := G.ig t0 List.mem_cons_self
      have l8 : t0.1.length ≤ 8 := gt0.1.2.1
      have lx : X8.length = 8 := by decide +kernel
      refine ⟨_, rfl, ⟨_, rfl⟩, t0.1, rfl, rfl, Nat.le_trans l8 (by decide), _, rfl, rfl, rfl, _, _, rfl, rfl, Nat.le_trans (by rw [lx]; omega : t0.1.length + X8.length ≤ 16) (by decide), ?_⟩
      refine ⟨(by show 0 ≤ sizeLine; decide), fun r1 k1 => ⟨_, rfl, (by show 1 ≤ sizeLine; decide), fun r2 k2 => ⟨_, rfl, (by show 1 ≤ sizeLine; decide), fun r3 k3 => fun r4 k4 => ⟨(by show 0 ≤ sizeLine; decide), fun r5 k5 => ⟨(by show 1 ≤ sizeLine; decide), fun r6 k6 => ⟨_, rfl, (by show 13 ≤ sizeLine; decide), fun r7 k7 => ?_⟩⟩⟩⟩⟩⟩
      obtain ⟨L, hL⟩ : ∃ L : List V, L = [.non, .int 7, .bl true, .str "", .str "is", .str (Txt.upper t0.1), .str (t0.1 ++ X8), .ref r1, .ref r2, .ref r3, .ref r4, .ref r6, .ref b0] := ⟨_, rfl⟩
      have e1 := uk (u := .lst L) (uk (u := .tup [.ref r5]) (uk (u := .lst []) (uk (u := .dK []) (uk (u := .tup [.str t0.1]) (uk (u := .lst [.str t0.1]) (upd_same (H := H9) (a := r1) (o := .lst [])) k2) k3) k4) k5) k6) k7
      have e2 := uk (u := .lst L) (uk (u := .tup [.ref r5]) (uk (u := .lst []) (uk (u := .dK []) (uk (u := .tup [.str t0.1]) (upd_same (H := L2.upd H9 r1 (.lst [])) (a := r2) (o := .lst [.str t0.1])) k3) k4) k5) k6) k7
      have e3 := uk (u := .lst L) (uk (u := .tup [.ref r5]) (uk (u := .lst []) (uk (u := .dK []) (upd_same (H := L2.upd (L2.upd H9 r1 (.lst [])) r2 (.lst [.str t0.1])) (a := r3) (o := .tup [.str t0.1])) k4) k5) k6) k7
      have e4 := uk (u := .lst L) (uk (u := .tup [.ref r5]) (uk (u := .lst []) (upd_same (H := L2.upd (L2.upd (L2.upd H9 r1 (.lst [])) r2 (.lst [.str t0.1])) r3 (.tup [.str t0.1])) (a := r4) (o := .dK [])) k5) k6) k7
      have e5 := uk (u := .lst L) (uk (u := .tup [.ref r5]) (upd_same (H := L2.upd (L2.upd (L2.upd (L2.upd H9 r1 (.lst [])) r2 (.lst [.str t0.1])) r3 (.tup [.str t0.1])) r4 (.dK [])) (a := r5) (o := .lst [])) k6) k7
      have e6 := uk (u := .lst L) (upd_same (H := L2.upd (L2.upd (L2.upd (L2.upd (L2.upd H9 r1 (.lst [])) r2 (.lst [.str t0.1])) r3 (.tup [.str t0.1])) r4 (.dK [])) r5 (.lst [])) (a := r6) (o := .tup [.ref r5])) k7
      have e7 := upd_same (H := L2.upd (L2.upd (L2.upd (L2.upd (L2.upd (L2.upd H9 r1 (.lst [])) r2 (.lst [.str t0.1])) r3 (.tup [.str t0.1])) r4 (.dK [])) r5 (.lst [])) r6 (.tup [.ref r5])) (a := r7) (o := .lst L)
      have SZ9 := Same.nw (o := .lst L) (Same.nw (o := .tup [.ref r5]) (Same.nw (o := .lst []) (Same.nw (o := .dK []) (Same.nw (o := .tup [.str t0.1]) (Same.nw (o := .lst [.str t0.1]) (Same.nw (o := .lst []) (Same.rf (H := H9)) k1) k2) k3) k4) k5) k6) k7
      rw [← hL]
      generalize L2.upd (L2.upd (L2.upd (L2.upd (L2.upd (L2.upd (L2.upd H9 r1 (.lst [])) r2 (.lst [.str t0.1])) r3 (.tup [.str t0.1])) r4 (.dK [])) r5 (.lst [])) r6 (.tup [.ref r5])) r7 (.lst L) = HZ at e1 e2 e3 e4 e5 e6 e7 SZ9 ⊢
      have S7Z : Same H7 HZ := Same.tr S79 SZ9
      have S6Z : Same H6 HZ := Same.tr S69 SZ9
      have key : ∀ H2, Same HZ H2 → ∀ v ∈ L, NoNm K H2 o (t0 :: i') v ∧ Eqd H2 2 v v := by
        intro H2 s2 v hv
        have fl : ∀ {v : V}, flatV v = true → Eqd H2 2 v v := fun h => .inl ⟨rfl, .inl h⟩
        have em : ∀ {r : Addr} {m : Nat}, H2 r = some (.lst []) → Eqd H2 (m + 1) (.ref r) (.ref r) := fun h => .inr ⟨_, _, _, _, rfl, rfl, .inr ⟨h, h⟩, by simp, .nil⟩
        rw [hL] at hv
        simp only [List.mem_cons, List.not_mem_nil, or_false] at hv
        rcases hv with rfl | rfl | rfl | rfl | rfl | rfl | rfl | rfl | rfl | rfl | rfl | rfl | rfl
        · exact ⟨.inl ns_non, fl rfl⟩
        · exact ⟨.inl ns_int, fl rfl⟩
        · exact ⟨.inl ns_bl, fl rfl⟩
        · exact ⟨noNm_of G (by decide +kernel) (by decide +kernel), fl rfl⟩
        · exact ⟨noNm_of G (by decide +kernel) (by decide +kernel), fl rfl⟩
        · exact ⟨noNm_of G (by have := PyProof.Rows.len_upper t0.1; omega) (up_no gt0.1), fl rfl⟩
        · refine ⟨noNm_of G ?_ fun z => ?_, fl rfl⟩
          · rw [add_len, lx]
            omega
          · have z2 := z.2.1
            have z1 := gt0.1.1
            rw [add_len, lx] at z2
            omega
        · exact ⟨.inl (ns_lst (s2 _ _ e1)), em (s2 _ _ e1)⟩
        · exact ⟨.inl (ns_lst (s2 _ _ e2)), .inr ⟨_, _, _, _, rfl, rfl, .inr ⟨s2 _ _ e2, s2 _ _ e2⟩, by simp, .cons (.inl ⟨rfl, .inl rfl⟩) .nil⟩⟩
        · exact ⟨.inl (ns_tup (s2 _ _ e3)), .inr ⟨_, _, _, _, rfl, rfl, .inl ⟨s2 _ _ e3, s2 _ _ e3⟩, by simp, .cons (.inl ⟨rfl, .inl rfl⟩) .nil⟩⟩
        · exact ⟨.inl (ns_dk (s2 _ _ e4)), .inl ⟨rfl, .inr ⟨_, rfl, s2 _ _ e4⟩⟩⟩
        · exact ⟨.inl (ns_tup (s2 _ _ e6)), .inr ⟨_, _, _, _, rfl, rfl, .inl ⟨s2 _ _ e6, s2 _ _ e6⟩, by simp, .cons (em (s2 _ _ e5)) .nil⟩⟩
        · have hb2 := s2 _ _ (SZ9 _ _ (S69 _ _ hb0))
          exact ⟨.inl (ns_tup hb2), Eqd.up (eqd_strs hb2 hb2 (by have := gt0.2.2.2.2; omega))⟩
      refine ⟨_, rfl, r7, rfl, ⟨_, SqL.of e7⟩, fun D hD => lc_sm (walk_list (K := K) (a := r7) (xs := L)) ((L.map fun _ => true).map V.bl) (by simp) (by rw [hL]; simp) hD (fun _ s => SqL.of (s _ _ e7)) ?_ ?_⟩
      · rintro m v yv H2 H3 Kt hm hy s2 ⟨rfl, hv⟩ hk
        obtain rfl := trues_at hy
        obtain ⟨c1, c2⟩ := key _ s2 v (List.mem_of_getElem? hv)
        exact ⟨rfl, _, rfl, _, rfl, x, o, _, h, v, rfl, HA.sm (Same.tr S7Z s2), G, c1, c2, fun H4 s4 => hk _ s4⟩
      intro HY sY hDY
      refine ⟨D, _, rfl, SqL.of hDY, true, (by rw [all_true]), ?_⟩
      have S6Y : Same H6 HY := Same.tr S6Z sY
      have S7Y : Same H7 HY := Same.tr S7Z sY
      refine ⟨_, rfl, t, _, 0, _, rfl, rfl, SqT.of (S6Y _ _ hht), rfl, _, rfl, t, _, 1, _, rfl, rfl, SqT.of (S6Y _ _ hht), rfl, catT (tO.tk (TK.sm S6Y)) (tI.tk (TK.sm S6Y)) (l7 G) (fun HC qc sC tc => ?_)⟩
      obtain ⟨vc, hc, pc⟩ := tc
      refine ⟨qc, rfl, ⟨_, SqT.of hc⟩, fun D2 hD2 => lc_sm (walk_tup (K := K) (a := qc) (xs := vc)) ((nmH o (t0 :: i')).map V.str) (by rw [List.length_map, nmH, nms, List.length_map, pc.length]) (by have := l7 G; rw [pc.length, List.length_append]; omega) hD2 (fun _ s => SqT.of (s _ _ hc)) ?_ ?_⟩
      · rintro m v yv H2 H3 Kt hm hy s2 ⟨rfl, hv⟩ hk
        obtain ⟨u, hu, a', b', rfl, g1, g2⟩ := paired_ix pc hv
        have e : yv = V.str u.1 := by
          rw [nmH, nms, List.map_map, List.getElem?_map, hu] at hy
          exact (Option.some.inj hy).symm
        subst e
        exact ⟨rfl, _, rfl, a', _, 0, _, rfl, rfl, SqT.of (s2 _ _ g1), rfl, hk _ Same.rf⟩
      intro HB sB hDB
      have S6B : Same H6 HB := Same.tr (Same.tr S6Y sC) sB
      have S7B : Same H7 HB := Same.tr (Same.tr S7Y sC) sB
      have hb := S6B _ _ hb0
      refine ⟨_, rfl, b0, rfl, ⟨_, SqT.of hb⟩, fun D3 hD3 => lc_sm (walk_tup (K := K) (a := b0) (xs := t0.2.map V.str)) (((t0.2.map V.str).map fun _ => true).map V.bl) (by simp) (by have := gt0.2.2.2.2; rw [List.length_map]; omega) hD3 (fun _ s => SqT.of (s _ _ hb)) ?_ ?_⟩
      · rintro m v yv H2 H3 Kt hm hy s2 ⟨rfl, hv⟩ hk
        obtain rfl := trues_at hy
        obtain ⟨z, hz, rfl⟩ := List.mem_map.mp (List.mem_of_getElem? hv)
        have lz : z.length ≤ 10000 := by have := (gt0.2.1 z hz).2.1; omega
        refine ⟨rfl, _, rfl, _, rfl, D2, _, rfl, .inl (SqL.of (s2 _ _ hDB)), rfl, by simp [List.all_map, flatV], _, rfl, ?_⟩
        show ite ((inV (.str z) _) = true) _ _
        rw [inV_strs]
        refine ite2 (fun _ => hk _ Same.rf) (fun e => ?_)
        exact ⟨_, rfl, _, rfl, x, o, _, h, .str z, rfl, HA.sm (Same.tr S7B s2), G, .inr ⟨z, rfl, lz, fun c => e (decide_eq_true c)⟩, .inl ⟨rfl, .inl rfl⟩, fun H4 s4 => hk _ s4⟩
      intro HE sE hDE
      refine ⟨D3, _, rfl, SqL.of hDE, true, (by rw [all_true]), ?_⟩
      have S7E : Same H7 HE := Same.tr S7B sE
      refine ⟨_, rfl, _, rfl, x, t, o, _, h, rfl, HA.sm S7E, HT.tk (TK.sm (Same.tr S6B sE)), G, fun HF sF => ⟨true, rfl, ?_⟩⟩
      exact ⟨x, o, _, h, _, _, _, _, _, _, _, _, rfl, SqL.sm (Same.tr S7 (Same.tr S7E sF)) hS', HA.sm (Same.tr S7E sF), G⟩
    · rintro σ H' ⟨y, o, i, h, v2, v3, v4, v5, v6, v7, v8, v9, rfl, _⟩
      exact k H'
end
end Hr

/-! text H0 -/
set_option Elab.async false
set_option linter.all false
set_option maxRecDepth 100000
set_option maxHeartbeats 4000000
namespace Hr
open PySem PySem.Spec PyProof.Rows L2
theorem fo_name : Hx.FldOk "name" := ⟨rfl, rfl, rfl, by decide +kernel, fun _ _ => rfl, fun _ _ => rfl, by decide +kernel⟩
theorem x_args : ∃ p1 p2, defArgs s_NoThing_init = Hx.iArgs "name" p1 p2 := ⟨_, _, rfl⟩
theorem x_scope : defScope s_NoThing_init = Hx.iScope "name" := rfl
theorem x_body : ∃ txt q1 q2 q3 q4 q5 q6 q7 q8 q9 q10, defBody s_NoThing_init = Hx.iBody txt "name" q1 q2 q3 q4 q5 q6 q7 q8 q9 q10 ∧
    ∀ env : Env, ∃ pl : Sem Bool, eval (.Call (.Attribute (.Call (.Name "super" q1) [] [] q2) "__init__" q3) [.Constant (.str txt) 0 q4] [] q5) env = (do
        let ov ← attributeBase (.Call (.Name "super" q1) [] [] q2) "__init__" env (eval (.Call (.Name "super" q1) [] [] q2) env)
        standAt q3.atName
        let (f, first) ← holding [ov] (getMethod ov "__init__" pl)
        callWith q5 f first (backTo q5 (starEach [.Constant (.str txt) 0 q4] env)) []) := ⟨_, _, _, _, _, _, _, _, _, _, _, rfl, fun env => ⟨_, rfl⟩⟩
end Hr

/-! text HX -/
set_option Elab.async false
set_option linter.all false
set_option maxRecDepth 100000
set_option maxHeartbeats 0
namespace Hr
open PySem PySem.Spec PyProof.Rows L2
def aT (K : PySem.W.Frag) : Addr := He.ga K "NoThing"
def aI (K : PySem.W.Frag) : Addr := He.ma K (aT K) "__init__"
def bmL : List Value := [.type "LookupError", .type "Exception", .type "BaseException", .type "object"]
def kitL : List (Str × Bool) := [("NoHouse", false), ("NoSaying", false), ("NoRule", false), ("NoBook", false), ("NoText", false), ("NoStanding", false), ("NoOuter", false), ("NoCourse", false), ("NoChange", false), ("NoPair", false), ("TooMany", false), ("NoNumber", false), ("NoRow", false), ("NoThing", true), ("NoName", false), ("HearthError", false), ("LostError", true)]
def cellB (K : PySem.W.Frag) (c : List (Str × Addr)) : Bool := match c with
  | [(_, a)] => (match K.lookup a with
    | some ⟨_, _, .cell (some (.ref b)), _⟩ => decide (b = aT K)
    | _ => false)
  | _ => false
def fileB (K : PySem.W.Frag) (c : Value) : Bool := match c with
  | .ref a => (match K.lookup a with
    | some ⟨_, _, .fields vs, _⟩ => (match (vs[2]? : Option Value) with
      | some (.str z _) => decide (z = RW.prog.main.file)
      | _ => false)
    | _ => false)
  | _ => false
def fnB (K : PySem.W.Frag) : Bool := match K.lookup (aI K) with
  | some ⟨_, _, .func fd, _⟩ => PySem.W.codeIn K fd.code "NoThing.__init__" && (cellB K fd.closure && fileB K fd.code)
  | _ => false
abbrev FnO : Type := Option (Str × Str × Arguments × FuncBody × Scope × Addr × List Str × Value × Addr)
def fnO (K : PySem.W.Frag) : FnO := match K.lookup (aI K) with
  | some ⟨_, _, .func fd, _⟩ => some (fd.name, fd.qualname, fd.params, fd.body, fd.scope, fd.globals, fd.closure.map (·.1), fd.defaults, fd.builtins)
  | _ => none
def fnOV : FnO := some ("__init__", "NoThing.__init__", defArgs s_NoThing_init, .stmts (defBody s_NoThing_init), defScope s_NoThing_init, mainGlobals, ["__class__"], .none, builtinsNs)
def exL (K : PySem.W.Frag) : List Bool := [PySem.W.excInitIn K (aT K) bmL "LookupError.__new__", PySem.W.excOver K (aT K) bmL, He.eqO (PySem.W.takerIn K (aT K) "name") (some none), He.eqO (PySem.W.findIn K (.ref (aT K)) "name") (some none),
  He.eqO (PySem.W.findIn K (.ref (aT K)) "__setattr__") (some (some (.builtin "object.__setattr__"))), He.eqO (PySem.W.findIn K (.ref (aT K)) "__getattribute__") (some (some (.builtin "BaseException.__getattribute__"))), He.eqO (PySem.W.findIn K (.ref (aT K)) "__getattr__") (some none),
  He.eqO (PySem.W.findIn K (.ref (aT K)) "__init__") (some (some (.ref (aI K)))), PySem.W.isFn K (.ref (aI K)), PySem.W.keepIn K (.ref (aT K)), decide (PySem.W.subIn K (.ref (aT K)) (.type "BaseException") = some true), decide (PySem.W.typeIn K (.ref (aT K)) = some (.type "type")),
  PySem.W.hasDictIn K (aT K), decide (PySem.W.subIn K (.ref (aT K)) (.type "LookupError") = some true), decide (PySem.W.mroIn K (aT K) (.ref (aT K)) = some true), He.eqO (PySem.W.ks_superIn K (aT K) (aT K) "__init__") (some (some (.builtin "LookupError.__init__"))),
  He.eqO (PySem.W.nsIn K cStatics "thirdparty.any") (some none), He.eqO (PySem.W.findIn K (.ref (aT K)) "__class__") (some (some (.builtin "object.__class__"))), He.eqO (PySem.W.specialIn K (.builtin "object.__class__") "__get__") (some (some (.builtin "getset_descriptor.__get__"))),
  decide (PySem.W.takesIn K (.builtin "object.__class__") = some true), decide (PySem.W.mroIn K (aT K) (.type "object") = some true), decide (PySem.W.kitOne K (.ref (aT K)) (.type "ValueError") = some false),
  kitL.all fun q => decide (PySem.W.kitOne K (.ref (aT K)) (.ref (He.ga K q.1)) = some q.2), He.tupB K "WORDS_OF_SAYINGS" (RES.map He.Dv.str), fnB K]
theorem exL_at {K : PySem.W.Frag} (h : (exL K).all id = true) (i : Nat) {b : Bool} (e : (exL K)[i]? = some b := by rfl) : b = true := List.all_eq_true.mp h b (List.mem_of_getElem? e)
def faX : List He.Fa := fa ++ [.int "MOST_LETTERS" 8, .str "LETTERS" ABC, .int "MOST_OUTER" 3, .int "MOST_INNER" 4, .int "LEAST_VALUES" 2, .int "MOST_VALUES" 4, .int "MOST_WAYS" 12, .int "MOST_HOURS" 6, .exm "NoThing" "LostError" true, .meth "House" "__str__", .meth "House" "__len__", .glo "WORDS_OF_SAYINGS"]
abbrev AlX : Type := He.AlD × (Bool × FnO)
def obsX (K : PySem.W.Frag) : AlX := (He.obsD faX fn K, (exL K).all id, fnO K)
def valX : AlX := (He.valD fn, true, fnOV)
def obsXG (g : Addr → Option Obj) : AlX := obsX (He.frG g (He.asD g 5 ++ [cStatics]))
def hkX : PySem.W.Hook where
  α := AlX
  obs := fun s => obsXG s.heap.get?
  val := fun _ => valX
  says := fun _ h => ∃ K : PySem.W.Frag, K.In h ∧ obsX K = valX
  of := fun _ _ e => ⟨_, He.frG_in, e⟩
  keeps := fun _ _ _ ⟨K, hK, c⟩ k => ⟨K, PySem.W.Frag.In.keeps hK k, c⟩
def obX (s : PySem.W.SharedT) : AlX := obsXG (HandSHeadRun.getT s)
theorem obX_eq (s : PySem.W.SharedT) : obX s = hkX.obs s.abs := by
  have e : HandSHeadRun.getT s = s.abs.heap.get? := funext (HandSHeadRun.getT_eq s)
  show obsXG (HandSHeadRun.getT s) = obsXG s.abs.heap.get?
  rw [e]
theorem runX (w : World) : HandSHeadRun.RunEq R (PySem.W.view R.prog [lawAt]) hkX obX 6000 loose w := by
  intro os
  kernel_rfl
end Hr

/-! text HZ -/
set_option Elab.async false
set_option linter.all false
set_option maxRecDepth 100000
set_option maxHeartbeats 0
namespace Hr
open PySem PySem.Spec PyProof.Rows L2
section
variable {K : PySem.W.Frag}
theorem xcD (c : obsX K = valX) : He.SaysD faX fn K := congrArg (fun z : AlX => z.1) c
theorem xcE (c : obsX K = valX) : (exL K).all id = true := congrArg (fun z : AlX => z.2.1) c
theorem xcO (c : obsX K = valX) : fnO K = fnOV := congrArg (fun z : AlX => z.2.2) c
theorem cell_ok {cl : List (Str × Addr)} (h : cellB K cl = true) (n : cl.map (·.1) = ([("__class__" : Str)] : List Str)) : ∃ a, cl = [(("__class__" : Str), a)] ∧ ∃ x y z, K.lookup a = some ⟨x, y, .cell (some (.ref (aT K))), z⟩ := by
  match cl, h, n with
  | [(x, a)], h, n =>
    have ex : x = ("__class__" : Str) := (List.cons.inj n).1
    subst ex
    refine ⟨a, rfl, ?_⟩
    unfold cellB at h
    dsimp only at h
    split at h
    · rename_i x1 x2 b x3 e
      rw [e, of_decide_eq_true h]
      exact ⟨_, _, _, rfl⟩
    · cases h
  | [], h, n => cases n
  | _ :: _ :: _, h, n => exact absurd (congrArg List.length n) (by simp)
theorem file_ok {v : Value} (h : fileB K v = true) : ∃ a, v = .ref a ∧ ∃ x y vs z t, K.lookup a = some ⟨x, y, .fields vs, z⟩ ∧ vs[2]? = some (.str RW.prog.main.file t) := by
  unfold fileB at h
  split at h
  · rename_i a
    split at h
    · rename_i x1 x2 vs x3 e
      split at h
      · rename_i z t e2
        refine ⟨a, rfl, x1, x2, vs, x3, t, e, ?_⟩
        rw [e2, of_decide_eq_true h]
      · cases h
    · cases h
  · cases h
theorem xt_of (c : obsX K = valX) : ∃ txt, Hx.XTxt RW.prog K (aT K) (aI K) "LookupError" "LookupError.__new__" "LookupError.__init__" [.type "LookupError", .type "Exception", .type "BaseException", .type "object"] txt "name" := by
  obtain ⟨txt, q1, q2, q3, q4, q5, q6, q7, q8, q9, q10, hb, hev⟩ := x_body
  obtain ⟨p1, p2, ha⟩ := x_args
  have h := xcE c
  refine ⟨txt, exL_at h 0, exL_at h 1, He.eqO_ok (exL_at h 2), He.eqO_ok (exL_at h 3), He.eqO_ok (exL_at h 4), He.eqO_ok (exL_at h 5), He.eqO_ok (exL_at h 6), He.eqO_ok (exL_at h 7), exL_at h 8, exL_at h 9, of_decide_eq_true (exL_at h 10), of_decide_eq_true (exL_at h 11),
    exL_at h 12, of_decide_eq_true (exL_at h 13), of_decide_eq_true (exL_at h 14), He.eqO_ok (exL_at h 15), He.eqO_ok (exL_at h 16), by decide +kernel, ?_⟩
  have f : fnB K = true := exL_at h 24
  have o := xcO c
  unfold fnB at f
  unfold fnO at o
  cases q : K.lookup (aI K) with
  | none =>
    rw [q] at f
    cases f
  | some ob =>
    obtain ⟨oc, od, dt, osl⟩ := ob
    rw [q] at f o
    cases dt with
    | func fd =>
      obtain ⟨n1, n2, n3, n4, n5, n6, n7, n8, n9, n10, n11, n12, n13, n14, n15⟩ := fd
      have e2 : (some (n1, n2, n3, n4, n5, n6, n7.map (·.1), n8, n15) : FnO) = fnOV := o
      simp only [fnOV, Option.some.injEq, Prod.mk.injEq] at e2
      obtain ⟨h1, h2, h3, h4, h5, h6, h7, h8, h9⟩ := e2
      obtain ⟨f1, f⟩ := He.ba (show (PySem.W.codeIn K n13 "NoThing.__init__" && (cellB K n7 && fileB K n13)) = true from f)
      obtain ⟨f2, f3⟩ := He.ba f
      obtain ⟨cell, e7, cl, cld, csl, hcell⟩ := cell_ok f2 h7
      obtain ⟨cda, e13, kc, kd, vs, ks, tf, hcode, hvs⟩ := file_ok f3
      subst e7 e13
      rw [ha] at h3
      rw [hb] at h4
      rw [x_scope] at h5
      subst h1 h2 h3 h4 h5 h6 h8 h9
      exact ⟨oc, od, n9, n10, n11, n12, cda, n14, osl, cell, "NoThing.__init__", p1, p2, q1, q2, q3, q4, q5, q6, q7, q8, q9, q10, rfl, f1, fun s x v => .of_eq rfl, hev, ⟨cl, cld, csl, hcell⟩, kc, kd, vs, ks, tf, hcode, hvs⟩
    | _ => cases f
variable {w : World} {h : Heap} {mg : Str → Option Value} {f : Addr}
theorem dk_of {P : Program} {base : Heap} {x : Str} {st : Stmt} {f : Addr} {fd : FuncData} {k : Nat} {ps : List Str} {sp : Sp} (F : FnP K x st f fd) (g : mg x = some (.ref f)) (b : Binds K fd ps []) (ok : FnOk P w K mg base CX0 k f fd ps sp) : Dk P w K mg base x k ps sp := ⟨f, fd, ok, g, F.kp, b⟩
theorem ktab_of (X : K.In h) (G : h.Ns mainGlobals mg) (c : obsX K = valX) : KTab K mg (aT K) := by
  have cd := xcD c
  have h := xcE c
  have k22 : (kitL.all fun q => decide (PySem.W.kitOne K (.ref (aT K)) (.ref (He.ga K q.1)) = some q.2)) = true := exL_at h 22
  have kt : ∀ (i : Nat) {x : Str} {b : Bool}, kitL[i]? = some (x, b) → PySem.W.kitOne K (.ref (aT K)) (.ref (He.ga K x)) = some b := fun i x b e => of_decide_eq_true (List.all_eq_true.mp k22 _ (List.mem_of_getElem? e))
  exact ⟨⟨_, (He.glo_ok X G (cd.fact 2 (f := .glo "NoHouse") rfl)), kt 0 rfl⟩, ⟨_, (He.glo_ok X G (cd.fact 4 (f := .glo "NoSaying") rfl)), kt 1 rfl⟩, ⟨_, (He.glo_ok X G (cd.fact 6 (f := .glo "NoRule") rfl)), kt 2 rfl⟩, ⟨_, (He.glo_ok X G (cd.fact 8 (f := .glo "NoBook") rfl)), kt 3 rfl⟩, ⟨_, (He.glo_ok X G (cd.fact 10 (f := .glo "NoText") rfl)), kt 4 rfl⟩, ⟨_, (He.glo_ok X G (cd.fact 12 (f := .glo "NoStanding") rfl)), kt 5 rfl⟩, ⟨_, (He.glo_ok X G (cd.fact 14 (f := .glo "NoOuter") rfl)), kt 6 rfl⟩, ⟨_, (He.glo_ok X G (cd.fact 16 (f := .glo "NoCourse") rfl)), kt 7 rfl⟩, ⟨_, (He.glo_ok X G (cd.fact 18 (f := .glo "NoChange") rfl)), kt 8 rfl⟩, ⟨_, (He.glo_ok X G (cd.fact 20 (f := .glo "NoPair") rfl)), kt 9 rfl⟩, ⟨_, (He.glo_ok X G (cd.fact 22 (f := .glo "TooMany") rfl)), kt 10 rfl⟩, ⟨_, (He.glo_ok X G (cd.fact 24 (f := .glo "NoNumber") rfl)), kt 11 rfl⟩, ⟨_, (He.glo_ok X G (cd.fact 26 (f := .glo "NoRow") rfl)), kt 12 rfl⟩, ⟨_, (He.glo_ok X G (cd.fact 30 (f := .glo "NoThing") rfl)), kt 13 rfl⟩, ⟨_, (He.glo_ok X G (cd.fact 32 (f := .glo "NoName") rfl)), kt 14 rfl⟩, ⟨_, (He.glo_ok X G (cd.fact 0 (f := .glo "HearthError") rfl)), kt 15 rfl⟩, ⟨_, (He.glo_ok X G (cd.fact 28 (f := .glo "LostError") rfl)), kt 16 rfl⟩, (He.free_ok X G (cd.fact 67 (f := .free "ValueError") rfl)), of_decide_eq_true (exL_at h 21), ⟨He.eqO_ok (exL_at h 5), He.eqO_ok (exL_at h 6), of_decide_eq_true (exL_at h 10), exL_at h 12, He.eqO_ok (exL_at h 17), He.eqO_ok (exL_at h 18), of_decide_eq_true (exL_at h 19), of_decide_eq_true (exL_at h 20)⟩⟩
theorem cns_of (X : K.In h) (G : h.Ns mainGlobals mg) (c : obsX K = valX) : Cns K mg := by
  have cd := xcD c
  exact ⟨(He.free_ok X G (cd.fact 74 (f := .free "isinstance") rfl)), (He.free_ok X G (cd.fact 82 (f := .free "str") rfl)), (He.free_ok X G (cd.fact 73 (f := .free "int") rfl)), (He.free_ok X G (cd.fact 71 (f := .free "bool") rfl)), (He.free_ok X G (cd.fact 84 (f := .free "tuple") rfl)), (He.free_ok X G (cd.fact 76 (f := .free "list") rfl)), (He.free_ok X G (cd.fact 75 (f := .free "len") rfl)), (He.free_ok X G (cd.fact 69 (f := .free "all") rfl)), (He.free_ok X G (cd.fact 70 (f := .free "any") rfl)), (He.free_ok X G (cd.fact 79 (f := .free "range") rfl)), (He.free_ok X G (cd.fact 80 (f := .free "set") rfl)), (He.free_ok X G (cd.fact 85 (f := .free "zip") rfl)), He.int_ok X G (cd.fact 92 (f := .int "MOST_LETTERS" 8) rfl), He.str_ok X G (cd.fact 93 (f := .str "LETTERS" ABC) rfl), _, (He.glo_ok X G (cd.fact 103 (f := .glo "WORDS_OF_SAYINGS") rfl)), fun H => He.tupB_ok (exL_at (xcE c) 23) H⟩
theorem hcns_of (X : K.In h) (G : h.Ns mainGlobals mg) (c : obsX K = valX) : HCns K mg := by
  have cd := xcD c
  exact ⟨He.int_ok X G (cd.fact 94 (f := .int "MOST_OUTER" 3) rfl), He.int_ok X G (cd.fact 95 (f := .int "MOST_INNER" 4) rfl), He.int_ok X G (cd.fact 96 (f := .int "LEAST_VALUES" 2) rfl), He.int_ok X G (cd.fact 97 (f := .int "MOST_VALUES" 4) rfl), He.int_ok X G (cd.fact 98 (f := .int "MOST_WAYS" 12) rfl), He.int_ok X G (cd.fact 99 (f := .int "MOST_HOURS" 6) rfl)⟩
theorem htxt_of (X : K.In h) (G : h.Ns mainGlobals mg) (c : obsX K = valX) : HTxt K mg (He.ga K "House") := by
  have cd := xcD c
  exact ⟨He.cls_ok (cd.fact 86 (f := .cls "House") rfl), He.noat_ok (cd.fact 88 (f := .noat "House" "outer") rfl), He.noat_ok (cd.fact 89 (f := .noat "House" "inner") rfl), He.noat_ok (cd.fact 90 (f := .noat "House" "hours") rfl), (He.glo_ok X G (cd.fact 48 (f := .glo "House") rfl))⟩
theorem facts_all (X : K.In h) (G : h.Ns mainGlobals mg) (hfa : mg ("law" : Str) = some (.ref f)) (c : obsX K = valX) :
    ∃ fd : FuncData, (∀ (s : Shared) (v : Value), BindsTo s fd ⟨[v], []⟩ [("_law_script", v)]) ∧ ∀ base : Heap, K.In base → base.Ns mainGlobals mg → FnOk RW.prog w K mg base CX0 8 f fd ["_law_script"] (spLaw K) := by
  have cd := xcD c
  have Cn := cns_of X G c
  have HC := hcns_of X G c
  have T := htxt_of X G c
  have KT := ktab_of X G c
  obtain ⟨txt, XT⟩ := xt_of c
  obtain ⟨fdL, FL⟩ : ∃ fd, FnP K "law" s_law (He.ga K "law") fd := cd.def_ 35 (d := d_law) rfl
  have e := hfa.symm.trans (He.glo_ok X G (cd.fact 65 (f := .glo "law") rfl))
  cases e
  have bL := FunD.bindsA (ps := ["_law_script"]) FL fun _ _ _ _ _ _ us hl => match us, hl with | [_], _ => rfl
  refine ⟨fdL, fun s v => bL s [v] rfl, fun base _ _ => ?_⟩
  · obtain ⟨fd_law_take, F_law_take⟩ : ∃ fd, FnP K "_law_take" s_law_take (He.ga K "_law_take") fd := cd.def_ 24 (d := d_law_take) rfl
    have D_law_take := dk_of (P := RW.prog) (w := w) (base := base) F_law_take (He.glo_ok X G (cd.fact 54 (f := .glo "_law_take") rfl)) (F_law_take.bindsN fun _ _ _ _ _ _ us hl => match us, hl with | [_, _], _ => rfl) (ok_take F_law_take (He.free_ok X G (cd.fact 72 (f := .free "divmod") rfl)))
    obtain ⟨fd_law_pool, F_law_pool⟩ : ∃ fd, FnP K "_law_pool" s_law_pool (He.ga K "_law_pool") fd := cd.def_ 23 (d := d_law_pool) rfl
    have D_law_pool := dk_of (P := RW.prog) (w := w) (base := base) F_law_pool (He.glo_ok X G (cd.fact 53 (f := .glo "_law_pool") rfl)) (F_law_pool.bindsN fun _ _ _ _ _ _ us hl => match us, hl with | [_], _ => rfl) (ok_pool F_law_pool (He.free_ok X G (cd.fact 68 (f := .free "abs") rfl)))
    obtain ⟨fd_law_cell, F_law_cell⟩ : ∃ fd, FnP K "_law_cell" s_law_cell (He.ga K "_law_cell") fd := cd.def_ 22 (d := d_law_cell) rfl
    have D_law_cell := dk_of (P := RW.prog) (w := w) (base := base) F_law_cell (He.glo_ok X G (cd.fact 52 (f := .glo "_law_cell") rfl)) (F_law_cell.bindsN fun _ _ _ _ _ _ us hl => match us, hl with | [_, _], _ => rfl) (ok_cell F_law_cell Cn.len)
    obtain ⟨fd_law_words, F_law_words⟩ : ∃ fd, FnP K "_law_words" s_law_words (He.ga K "_law_words") fd := cd.def_ 25 (d := d_law_words) rfl
    have D_law_words := dk_of (P := RW.prog) (w := w) (base := base) F_law_words (He.glo_ok X G (cd.fact 55 (f := .glo "_law_words") rfl)) (F_law_words.bindsN fun _ _ _ _ _ _ us hl => match us, hl with | [_, _], _ => rfl) (ok_words F_law_words D_law_take Cn.range Cn.len)
    obtain ⟨fd_law_house, F_law_house⟩ : ∃ fd, FnP K "_law_house" s_law_house (He.ga K "_law_house") fd := cd.def_ 26 (d := d_law_house) rfl
    have D_law_house := dk_of (P := RW.prog) (w := w) (base := base) F_law_house (He.glo_ok X G (cd.fact 56 (f := .glo "_law_house") rfl)) (F_law_house.bindsN fun _ _ _ _ _ _ us hl => match us, hl with | [_, _], _ => rfl) (ok_house F_law_house D_law_take D_law_words Cn.range (He.free_ok X G (cd.fact 81 (f := .free "sorted") rfl)) Cn.tuple)
    obtain ⟨fd_law_wide_house, F_law_wide_house⟩ : ∃ fd, FnP K "_law_wide_house" s_law_wide_house (He.ga K "_law_wide_house") fd := cd.def_ 33 (d := d_law_wide_house) rfl
    have D_law_wide_house := dk_of (P := RW.prog) (w := w) (base := base) F_law_wide_house (He.glo_ok X G (cd.fact 63 (f := .glo "_law_wide_house") rfl)) (F_law_wide_house.bindsN fun _ _ _ _ _ _ us hl => match us, hl with | [_], _ => rfl) (ok_wide F_law_wide_house D_law_take D_law_words Cn.zip (He.free_ok X G (cd.fact 81 (f := .free "sorted") rfl)) Cn.tuple)
    obtain ⟨fd_is_name, F_is_name⟩ : ∃ fd, FnP K "is_name" s_is_name (He.ga K "is_name") fd := cd.def_ 0 (d := d_is_name) rfl
    have D_is_name := dk_of (P := RW.prog) (w := w) (base := base) F_is_name (He.glo_ok X G (cd.fact 34 (f := .glo "is_name") rfl)) (F_is_name.bindsN fun _ _ _ _ _ _ us hl => match us, hl with | [_], _ => rfl) (ok_is_name F_is_name Cn)
    obtain ⟨fd_is_whole, F_is_whole⟩ : ∃ fd, FnP K "is_whole" s_is_whole (He.ga K "is_whole") fd := cd.def_ 1 (d := d_is_whole) rfl
    have D_is_whole := dk_of (P := RW.prog) (w := w) (base := base) F_is_whole (He.glo_ok X G (cd.fact 35 (f := .glo "is_whole") rfl)) (F_is_whole.bindsN fun _ _ _ _ _ _ us hl => match us, hl with | [_, _, _], _ => rfl) (ok_is_whole F_is_whole Cn)
    obtain ⟨fd_is_row, F_is_row⟩ : ∃ fd, FnP K "is_row" s_is_row (He.ga K "is_row") fd := cd.def_ 2 (d := d_is_row) rfl
    have D_is_row := dk_of (P := RW.prog) (w := w) (base := base) F_is_row (He.glo_ok X G (cd.fact 36 (f := .glo "is_row") rfl)) (F_is_row.bindsN fun _ _ _ _ _ _ us hl => match us, hl with | [_, _, _], _ => rfl) (ok_is_row F_is_row Cn)
    obtain ⟨fd_is_rising, F_is_rising⟩ : ∃ fd, FnP K "is_rising" s_is_rising (He.ga K "is_rising") fd := cd.def_ 3 (d := d_is_rising) rfl
    have D_is_rising := dk_of (P := RW.prog) (w := w) (base := base) F_is_rising (He.glo_ok X G (cd.fact 37 (f := .glo "is_rising") rfl)) (F_is_rising.bindsN fun _ _ _ _ _ _ us hl => match us, hl with | [_], _ => rfl) (ok_is_rising F_is_rising Cn)
    obtain ⟨fd_names_of, F_names_of⟩ : ∃ fd, FnP K "names_of" s_names_of (He.ga K "names_of") fd := cd.def_ 7 (d := d_names_of) rfl
    have D_names_of := dk_of (P := RW.prog) (w := w) (base := base) F_names_of (He.glo_ok X G (cd.fact 41 (f := .glo "names_of") rfl)) (F_names_of.bindsN fun _ _ _ _ _ _ us hl => match us, hl with | [_], _ => rfl) (ok_names_of F_names_of)
    obtain ⟨fd_are_values, F_are_values⟩ : ∃ fd, FnP K "are_values" s_are_values (He.ga K "are_values") fd := cd.def_ 4 (d := d_are_values) rfl
    have D_are_values := dk_of (P := RW.prog) (w := w) (base := base) F_are_values (He.glo_ok X G (cd.fact 38 (f := .glo "are_values") rfl)) (F_are_values.bindsN fun _ _ _ _ _ _ us hl => match us, hl with | [_], _ => rfl) (ok_are_values F_are_values Cn HC D_is_row D_is_name)
    obtain ⟨fd_is_thing, F_is_thing⟩ : ∃ fd, FnP K "is_thing" s_is_thing (He.ga K "is_thing") fd := cd.def_ 5 (d := d_is_thing) rfl
    have D_is_thing := dk_of (P := RW.prog) (w := w) (base := base) F_is_thing (He.glo_ok X G (cd.fact 39 (f := .glo "is_thing") rfl)) (F_is_thing.bindsN fun _ _ _ _ _ _ us hl => match us, hl with | [_], _ => rfl) (ok_is_thing F_is_thing D_is_row D_is_name D_are_values)
    obtain ⟨fd_are_things, F_are_things⟩ : ∃ fd, FnP K "are_things" s_are_things (He.ga K "are_things") fd := cd.def_ 6 (d := d_are_things) rfl
    have D_are_things := dk_of (P := RW.prog) (w := w) (base := base) F_are_things (He.glo_ok X G (cd.fact 40 (f := .glo "are_things") rfl)) (F_are_things.bindsN fun _ _ _ _ _ _ us hl => match us, hl with | [_, _, _], _ => rfl) (ok_are_things F_are_things Cn D_is_row D_is_thing D_names_of D_is_rising)
    obtain ⟨fd_count_ways, F_count_ways⟩ : ∃ fd, FnP K "count_ways" s_count_ways (He.ga K "count_ways") fd := cd.def_ 8 (d := d_count_ways) rfl
    have D_count_ways := dk_of (P := RW.prog) (w := w) (base := base) F_count_ways (He.glo_ok X G (cd.fact 42 (f := .glo "count_ways") rfl)) (F_count_ways.bindsN fun _ _ _ _ _ _ us hl => match us, hl with | [_], _ => rfl) (ok_count_ways F_count_ways Cn)
    obtain ⟨fd_share_a_name, F_share_a_name⟩ : ∃ fd, FnP K "share_a_name" s_share_a_name (He.ga K "share_a_name") fd := cd.def_ 9 (d := d_share_a_name) rfl
    have D_share_a_name := dk_of (P := RW.prog) (w := w) (base := base) F_share_a_name (He.glo_ok X G (cd.fact 43 (f := .glo "share_a_name") rfl)) (F_share_a_name.bindsN fun _ _ _ _ _ _ us hl => match us, hl with | [_, _], _ => rfl) (ok_share F_share_a_name Cn D_names_of)
    obtain ⟨fd_can_be_outer, F_can_be_outer⟩ : ∃ fd, FnP K "can_be_outer" s_can_be_outer (He.ga K "can_be_outer") fd := cd.def_ 10 (d := d_can_be_outer) rfl
    have D_can_be_outer := dk_of (P := RW.prog) (w := w) (base := base) F_can_be_outer (He.glo_ok X G (cd.fact 44 (f := .glo "can_be_outer") rfl)) (F_can_be_outer.bindsN fun _ _ _ _ _ _ us hl => match us, hl with | [_], _ => rfl) (ok_canO F_can_be_outer HC D_are_things D_count_ways)
    obtain ⟨fd_can_be_inner, F_can_be_inner⟩ : ∃ fd, FnP K "can_be_inner" s_can_be_inner (He.ga K "can_be_inner") fd := cd.def_ 11 (d := d_can_be_inner) rfl
    have D_can_be_inner := dk_of (P := RW.prog) (w := w) (base := base) F_can_be_inner (He.glo_ok X G (cd.fact 45 (f := .glo "can_be_inner") rfl)) (F_can_be_inner.bindsN fun _ _ _ _ _ _ us hl => match us, hl with | [_, _], _ => rfl) (ok_canI F_can_be_inner HC D_are_things D_share_a_name)
    obtain ⟨fd_can_be_hours, F_can_be_hours⟩ : ∃ fd, FnP K "can_be_hours" s_can_be_hours (He.ga K "can_be_hours") fd := cd.def_ 12 (d := d_can_be_hours) rfl
    have D_can_be_hours := dk_of (P := RW.prog) (w := w) (base := base) F_can_be_hours (He.glo_ok X G (cd.fact 46 (f := .glo "can_be_hours") rfl)) (F_can_be_hours.bindsN fun _ _ _ _ _ _ us hl => match us, hl with | [_], _ => rfl) (ok_canH F_can_be_hours HC D_is_whole)
    obtain ⟨fd_thing_rows, F_thing_rows⟩ : ∃ fd, FnP K "thing_rows" s_thing_rows (He.ga K "thing_rows") fd := cd.def_ 13 (d := d_thing_rows) rfl
    have D_thing_rows := dk_of (P := RW.prog) (w := w) (base := base) F_thing_rows (He.glo_ok X G (cd.fact 47 (f := .glo "thing_rows") rfl)) (F_thing_rows.bindsN fun _ _ _ _ _ _ us hl => match us, hl with | [_, _], _ => rfl) (ok_rows F_thing_rows)
    obtain ⟨fd_all_outer, F_all_outer⟩ : ∃ fd, FnP K "all_outer" s_all_outer (He.ga K "all_outer") fd := cd.def_ 20 (d := d_all_outer) rfl
    have D_all_outer := dk_of (P := RW.prog) (w := w) (base := base) F_all_outer (He.glo_ok X G (cd.fact 50 (f := .glo "all_outer") rfl)) (F_all_outer.bindsN fun _ _ _ _ _ _ us hl => match us, hl with | [_], _ => rfl) (ok_all_outer F_all_outer T)
    obtain ⟨fd_first_values, F_first_values⟩ : ∃ fd, FnP K "first_values" s_first_values (He.ga K "first_values") fd := cd.def_ 21 (d := d_first_values) rfl
    have D_first_values := dk_of (P := RW.prog) (w := w) (base := base) F_first_values (He.glo_ok X G (cd.fact 51 (f := .glo "first_values") rfl)) (F_first_values.bindsN fun _ _ _ _ _ _ us hl => match us, hl with | [_], _ => rfl) (ok_first F_first_values T Cn)
    obtain ⟨fd_law_ways, F_law_ways⟩ : ∃ fd, FnP K "_law_ways" s_law_ways (He.ga K "_law_ways") fd := cd.def_ 27 (d := d_law_ways) rfl
    have D_law_ways := dk_of (P := RW.prog) (w := w) (base := base) F_law_ways (He.glo_ok X G (cd.fact 57 (f := .glo "_law_ways") rfl)) (F_law_ways.bindsN fun _ _ _ _ _ _ us hl => match us, hl with | [_], _ => rfl) (ok_lways F_law_ways)
    obtain ⟨fd_law_text, F_law_text⟩ : ∃ fd, FnP K "_law_text" s_law_text (He.ga K "_law_text") fd := cd.def_ 31 (d := d_law_text) rfl
    have D_law_text := dk_of (P := RW.prog) (w := w) (base := base) F_law_text (He.glo_ok X G (cd.fact 61 (f := .glo "_law_text") rfl)) (F_law_text.bindsN fun _ _ _ _ _ _ us hl => match us, hl with | [_], _ => rfl) (ok_ltext F_law_text Cn)
    obtain ⟨fd_law_kind, F_law_kind⟩ : ∃ fd, FnP K "_law_kind" s_law_kind (He.ga K "_law_kind") fd := cd.def_ 28 (d := d_law_kind) rfl
    have D_law_kind := dk_of (P := RW.prog) (w := w) (base := base) F_law_kind (He.glo_ok X G (cd.fact 58 (f := .glo "_law_kind") rfl)) (F_law_kind.bindsN fun _ _ _ _ _ _ us hl => match us, hl with | [_], _ => rfl) (ok_kind F_law_kind Cn KT)
    obtain ⟨fd_law_same, F_law_same⟩ : ∃ fd, FnP K "_law_same" s_law_same (He.ga K "_law_same") fd := cd.def_ 29 (d := d_law_same) rfl
    have b_same := F_law_same.bindsN (ps := pSame) fun _ _ _ _ _ _ us hl => match us, hl with | [_, _], _ => rfl
    have D_law_same := dk_of (P := RW.prog) (w := w) (base := base) F_law_same (He.glo_ok X G (cd.fact 59 (f := .glo "_law_same") rfl)) b_same (ok_same_n F_law_same Cn (He.glo_ok X G (cd.fact 59 (f := .glo "_law_same") rfl)) b_same 2)
    obtain ⟨fd_House_str, F_House_str⟩ : ∃ fd, FnM K "__str__" "House.__str__" s_House_str [] (He.ma K (He.ga K "House") "__str__") fd := cd.def_ 18 (d := d_House_str) rfl
    have m_House_str := He.meth_ok (cd.fact 101 (f := .meth "House" "__str__") rfl)
    have O_House_str : Own RW.prog w K mg base (He.ga K "House") "__str__" 2 _ := ⟨_, fd_House_str, ok_str F_House_str T D_thing_rows, F_House_str.bindsN fun _ _ _ _ _ _ us hl => match us, hl with | [_], _ => rfl, m_House_str.at_, m_House_str.fn⟩
    obtain ⟨fd_House_len, F_House_len⟩ : ∃ fd, FnM K "__len__" "House.__len__" s_House_len [] (He.ma K (He.ga K "House") "__len__") fd := cd.def_ 16 (d := d_House_len) rfl
    have m_House_len := He.meth_ok (cd.fact 102 (f := .meth "House" "__len__") rfl)
    have O_House_len : Own RW.prog w K mg base (He.ga K "House") "__len__" 1 _ := ⟨_, fd_House_len, ok_len F_House_len T Cn, F_House_len.bindsN fun _ _ _ _ _ _ us hl => match us, hl with | [_], _ => rfl, m_House_len.at_, m_House_len.fn⟩
    obtain ⟨fd_vof, F_vof⟩ : ∃ fd, FnM K "values_of" "House.values_of" s_House_values_of [] (He.ma K (He.ga K "House") "values_of") fd := cd.def_ 19 (d := d_House_values_of) rfl
    have VO : Vof RW.prog w K mg base (He.ga K "House") (aT K) := ⟨_, fd_vof, ok_values_of F_vof T D_is_name XT fo_name (He.glo_ok X G (cd.fact 30 (f := .glo "NoThing") rfl)) (He.free_ok X G (cd.fact 83 (f := .free "super") rfl)), He.meth_ok (cd.fact 91 (f := .meth "House" "values_of") rfl), F_vof.bindsN fun _ _ _ _ _ _ us hl => match us, hl with | [_, _], _ => rfl⟩
    obtain ⟨fd_init, F_init⟩ : ∃ fd, FnM K "__init__" "House.__init__" s_House_init [.int 4] (He.ma K (He.ga K "House") "__init__") fd := cd.def_ 14 (d := d_House_init) rfl
    have MH : MkH RW.prog w K mg base (He.ga K "House") := by
      obtain ⟨ds, v1, b1⟩ := FunD.binds1 (ps := pInit) F_init 4 1 (by intro z; cases z) rfl fun _ _ _ _ _ _ _ us its hu hi => match us, its, hu, hi with | [_, _, _, _], [_], _, _ => ⟨_, rfl, rfl⟩
      cases v1
      obtain ⟨its, kb⟩ := FunD.kbindsD (ps := pInit) F_init 3 ["hours"] (fun us _ ws => us ++ ws) (by intro z; cases z) (fun r1 _ r3 => r1.append r3) fun _ _ _ _ _ _ _ us its ws hu hi hw => match us, its, ws, hu, hi, hw with | [_, _, _], [_], [_], _, _, _ => ⟨_, rfl, rfl⟩
      exact ⟨_, fd_init, He.mkr_ok (cd.fact 87 (f := .mkr "House") rfl), ok_init F_init T D_can_be_outer D_can_be_inner D_can_be_hours, b1, _, kb⟩
    have XF : XfC K (aT K) := ⟨He.eqO_ok (exL_at (xcE c) 5), He.eqO_ok (exL_at (xcE c) 6), of_decide_eq_true (exL_at (xcE c) 10), exL_at (xcE c) 12⟩
    obtain ⟨fd_law_no_thing, F_law_no_thing⟩ : ∃ fd, FnP K "_law_no_thing" s_law_no_thing (He.ga K "_law_no_thing") fd := cd.def_ 30 (d := d_law_no_thing) rfl
    have D_law_no_thing := dk_of (P := RW.prog) (w := w) (base := base) F_law_no_thing (He.glo_ok X G (cd.fact 60 (f := .glo "_law_no_thing") rfl)) (F_law_no_thing.bindsN fun _ _ _ _ _ _ us hl => match us, hl with | [_, _], _ => rfl) (ok_no_thing F_law_no_thing T VO D_law_kind D_law_same XF (He.eqO_ok (exL_at (xcE c) 3)) (He.glo_ok X G (cd.fact 28 (f := .glo "LostError") rfl)) (He.exm_ok (cd.fact 100 (f := .exm "NoThing" "LostError" true) rfl)))
    obtain ⟨fd_law_right, F_law_right⟩ : ∃ fd, FnP K "_law_right" s_law_right (He.ga K "_law_right") fd := cd.def_ 32 (d := d_law_right) rfl
    have D_law_right := dk_of (P := RW.prog) (w := w) (base := base) F_law_right (He.glo_ok X G (cd.fact 62 (f := .glo "_law_right") rfl)) (F_law_right.bindsN fun _ _ _ _ _ _ us hl => match us, hl with | [_, _], _ => rfl) (ok_right F_law_right T Cn VO O_House_str O_House_len D_law_same D_all_outer D_law_ways D_first_values D_law_text)
    obtain ⟨fd_law_kept_right, F_law_kept_right⟩ : ∃ fd, FnP K "_law_kept_right" s_law_kept_right (He.ga K "_law_kept_right") fd := cd.def_ 34 (d := d_law_kept_right) rfl
    have D_law_kept_right := dk_of (P := RW.prog) (w := w) (base := base) F_law_kept_right (He.glo_ok X G (cd.fact 64 (f := .glo "_law_kept_right") rfl)) (F_law_kept_right.bindsN fun _ _ _ _ _ _ us hl => match us, hl with | [_, _, _], _ => rfl) (ok_kept F_law_kept_right D_law_same D_all_outer D_law_ways)
    exact ok_law FL T Cn MH (He.free_ok X G (cd.fact 77 (f := .free "max") rfl)) (He.free_ok X G (cd.fact 78 (f := .free "min") rfl)) D_law_pool D_law_cell D_law_house D_law_wide_house D_law_take D_law_right D_law_kept_right D_law_no_thing
end
end Hr

open PySem PySem.W PySem.Calls PyProof.Rows
theorem PySem.Challenge.cw_hearthrules_k02_what_houses_tell_holds : PySem.Challenge.rw_hearthrules_k02_what_houses_tell.Holds := by
  w_on; o_law
  refine HandSHeadRun.head_any (r := Hr.R) (q := view Hr.R.prog [Hr.lawAt]) (H := Hr.hkX) (ob := Hr.obX) (M := 6000) (loose := Hr.loose) (d := HandSHeadRun.topDef Hr.R.prog Hr.lawAt) (kwd := []) Hr.obX_eq
    (by kernel_rfl) (fun s => by kernel_rfl) Hr.runX (by kernel_rfl) (by kernel_rfl) (by kernel_rfl) (by rfl) (by first | assumption | decide +kernel) (by decide +kernel) ⟨rfl, rfl, rfl, rfl, rfl, by decide +kernel⟩ ?hw ?hc
  case hw => w_witness2
  case hc =>
    refine L2.walk_ofE (l := Hr.RW) (n := 63) (k := 8) (x := "_law_script") (CX := L2.CX0) rfl (by decide) (by kernel_rfl) ⟨rfl, by decide, by decide⟩ ?F (fun _ _ _ _ z => z)
    intro w mg fa h Y G hmg0
    obtain ⟨K, KX, c⟩ := Y
    have hmg : mg ("law" : PySem.Str) = some (.ref fa) := by
      have e : (HandSHeadRun.topDef Hr.R.prog Hr.lawAt).name = ("law" : PySem.Str) := by kernel_rfl
      rw [← e]
      exact hmg0
    obtain ⟨fd, hb, hF⟩ := Hr.facts_all (w := w) KX G hmg c
    exact ⟨K, fd, Hr.spLaw K, KX, hb, fun H a ns hl _ hS => ⟨a, ns, rfl, hS, fun _ => rfl⟩, hF⟩
