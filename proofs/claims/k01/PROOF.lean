import PyProof.Rows.All
import Wide.All
import OpenK.AllK
import Wide.FinOn
import HandS.HeadHook4
import HandS.Head2
import HandS.ForMost
import HandS.ForExc
import HandS.Defaults
import HandS.Wide
import HandS.WideBits
import HandS.IsInst
import HandS.Evl
import HandS.Flow
import HandS.Lambda
import HandS.EndTab
import HandS.HeadWalk
import HandS.ExcIs
import HandS.Iter
import HandS.Conv
import HandS.Star
import HandS.Small
import HandS.Style
import PySem.Challenge.RW_widthrules_k01_whole_counterexamples
set_option Elab.async false
set_option linter.all false
set_option maxRecDepth 100000
set_option maxHeartbeats 0
/-! The look behind the top, in three parts: each part runs the top anew, so that none of them wants all the memory. -/
namespace WH
open PySem PySem.W HandSHeadRun
theorem map3 {α β γ δ : Type} {o : Option α} {f : α → β} {g : α → γ} {h : α → δ} {b : β} {c : γ} {d : δ} (hf : o.map f = some b) (hg : o.map g = some c) (hh : o.map h = some d) : o.map (fun s => (f s, g s, h s)) = some (b, c, d) := by
  cases o with
  | none => cases hf
  | some a =>
    cases hf
    cases hg
    cases hh
    rfl
/-- behind the top of r in the world w -/
noncomputable def Aft (r : OpenRow) (M : Nat) (w : World) (os : OsState) : Option SharedT := endF (stepQ (denQ tabQ) r.prog w) M r.prog w os
def PartA (r : OpenRow) (M : Nat) (w : World) : Prop := ∀ os, (Aft r M w os).map (fun s => looksF r.prog (boot_heap w.params) s.abs) = some true
def PartB (r : OpenRow) (q : Program) (M : Nat) (loose : List PySem.Str) (w : World) : Prop :=
  ∀ os, (Aft r M w os).map (fun s => seenQ q loose (importedModules r.prog.main.body) (fun s => xlAt q [] s && recOk r.toRowW.records s) s.abs) = some (openGood q loose)
def PartC (r : OpenRow) (H : Hook) (ob : SharedT → H.α) (M : Nat) (w : World) : Prop := ∀ os, (Aft r M w os).map ob = some (H.val w)
theorem run_of {r : OpenRow} {q : Program} {H : Hook} {ob : SharedT → H.α} {M : Nat} {loose : List PySem.Str} {w : World} (a : PartA r M w) (b : PartB r q M loose w) (c : PartC r H ob M w) : RunEq r q H ob M loose w := fun os => map3 (a os) (b os) (c os)
/-- A and B in one run -/
def PartD (r : OpenRow) (q : Program) (M : Nat) (loose : List PySem.Str) (w : World) : Prop := ∀ os,
  (Aft r M w os).map (fun s => (looksF r.prog (boot_heap w.params) s.abs, seenQ q loose (importedModules r.prog.main.body) (fun s => xlAt q [] s && recOk r.toRowW.records s) s.abs)) = some (true, openGood q loose)
theorem map2 {α β γ : Type} {o : Option α} {f : α → β} {g : α → γ} {b : β} {c : γ} (h : o.map (fun s => (f s, g s)) = some (b, c)) : o.map f = some b ∧ o.map g = some c := by
  cases o with
  | none => cases h
  | some a =>
    have h1 : (f a, g a) = (b, c) := Option.some.inj h
    injection h1 with h2 h3
    exact ⟨congrArg some h2, congrArg some h3⟩
theorem run_of2 {r : OpenRow} {q : Program} {H : Hook} {ob : SharedT → H.α} {M : Nat} {loose : List PySem.Str} {w : World} (d : PartD r q M loose w) (c : PartC r H ob M w) : RunEq r q H ob M loose w := fun os =>
  map3 (map2 (d os)).1 (map2 (d os)).2 (c os)
/-- C in two runs: the facts and defs, then the Bool -/
def PartC1 (r : OpenRow) {α β : Type} (ob : SharedT → α × β) (M : Nat) (v : World → α) (w : World) : Prop := ∀ os, (Aft r M w os).map (fun s => (ob s).1) = some (v w)
def PartC2 (r : OpenRow) {α β : Type} (ob : SharedT → α × β) (M : Nat) (v : World → β) (w : World) : Prop := ∀ os, (Aft r M w os).map (fun s => (ob s).2) = some (v w)
theorem both {γ α β : Type} {o : Option γ} {ob : γ → α × β} {a : α} {b : β} (h1 : o.map (fun s => (ob s).1) = some a) (h2 : o.map (fun s => (ob s).2) = some b) : o.map ob = some (a, b) := by
  cases o with
  | none => cases h1
  | some z =>
    have e1 : (ob z).1 = a := Option.some.inj h1
    have e2 : (ob z).2 = b := Option.some.inj h2
    rw [← e1, ← e2]
    rfl
end WH

set_option maxHeartbeats 0
namespace K1
open PySem PySem.Spec PyProof.Rows L2
def top (i : Nat) : Stmt := PySem.Challenge.pw_widthrules_k01_whole_counterexamples.main.body.getD i (.Pass ⟨0, 0, 0, 0⟩)
def tk_ARITIES : List Str := ["sum grouping", "product grouping", "distribution", "double negation", "difference", "add back", "division", "remainder range", "negated quotient", "shift", "absolute value", "order by difference", "monotone sum", "average", "square", "zero product", "cancellation"]
def tv_ARITIES : List (Str × He.Dv) := [("sum grouping", .int 3), ("product grouping", .int 3), ("distribution", .int 3), ("double negation", .int 1), ("difference", .int 2), ("add back", .int 2), ("division", .int 2), ("remainder range", .int 2), ("negated quotient", .int 2), ("shift", .int 1), ("absolute value", .int 1), ("order by difference", .int 2), ("monotone sum", .int 3), ("average", .int 2), ("square", .int 1), ("zero product", .int 2), ("cancellation", .int 3)]
def tk_CHECKS : List Str := ["sum grouping", "product grouping", "distribution", "double negation", "difference", "add back", "division", "remainder range", "negated quotient", "shift", "absolute value", "order by difference", "monotone sum", "average", "square", "zero product", "cancellation"]
def tv_CHECKS : List (Str × He.Dv) := [("sum grouping", .glo "sum_grouping_rules"), ("product grouping", .glo "product_grouping_rules"), ("distribution", .glo "distribution_rules"), ("double negation", .glo "double_negation_rules"), ("difference", .glo "difference_rules"), ("add back", .glo "add_back_rules"), ("division", .glo "division_rules"), ("remainder range", .glo "remainder_range_rules"), ("negated quotient", .glo "negated_quotient_rules"), ("shift", .glo "shift_rules"), ("absolute value", .glo "absolute_value_rules"), ("order by difference", .glo "order_by_difference_rules"), ("monotone sum", .glo "monotone_sum_rules"), ("average", .glo "average_rules"), ("square", .glo "square_rules"), ("zero product", .glo "zero_product_rules"), ("cancellation", .glo "cancellation_rules")]
def tk_CONDITIONS : List Str := ["sum grouping", "product grouping", "distribution", "double negation", "difference", "add back", "division", "remainder range", "negated quotient", "shift", "absolute value", "order by difference", "monotone sum", "average", "square", "zero product", "cancellation"]
def tv_CONDITIONS : List (Str × He.Dv) := [("sum grouping", .glo "sum_grouping_conditions"), ("product grouping", .glo "product_grouping_conditions"), ("distribution", .glo "distribution_conditions"), ("double negation", .glo "_negatives"), ("difference", .glo "_negatives"), ("add back", .glo "add_back_conditions"), ("division", .glo "division_conditions"), ("remainder range", .glo "remainder_range_conditions"), ("negated quotient", .glo "negated_quotient_conditions"), ("shift", .glo "shift_conditions"), ("absolute value", .glo "absolute_value_conditions"), ("order by difference", .glo "order_by_difference_conditions"), ("monotone sum", .glo "monotone_sum_conditions"), ("average", .glo "average_conditions"), ("square", .glo "square_conditions"), ("zero product", .glo "zero_product_conditions"), ("cancellation", .glo "cancellation_conditions")]
def tk_BREACHES : List Str := ["sum grouping", "product grouping", "distribution", "double negation", "difference", "add back", "division", "remainder range", "negated quotient", "shift", "absolute value", "order by difference", "monotone sum", "average", "square", "zero product", "cancellation"]
def tv_BREACHES : List (Str × He.Dv) := [("sum grouping", .glo "sum_grouping_breaches"), ("product grouping", .glo "product_grouping_breaches"), ("distribution", .glo "distribution_breaches"), ("double negation", .glo "double_negation_breaches"), ("difference", .glo "difference_breaches"), ("add back", .glo "_lowest_and_one"), ("division", .glo "division_breaches"), ("remainder range", .glo "remainder_range_breaches"), ("negated quotient", .glo "negated_quotient_breaches"), ("shift", .glo "shift_breaches"), ("absolute value", .glo "absolute_value_breaches"), ("order by difference", .glo "_lowest_and_one"), ("monotone sum", .glo "monotone_sum_breaches"), ("average", .glo "_lowest_and_one"), ("square", .glo "square_breaches"), ("zero product", .glo "zero_product_breaches"), ("cancellation", .glo "cancellation_breaches")]
def dd_is_whole : He.DefD := ⟨("is_whole", none), "is_whole", "is_whole", defArgs (top 7), defBody (top 7), defScope (top 7), [], []⟩
def dd_is_format : He.DefD := ⟨("is_format", none), "is_format", "is_format", defArgs (top 14), defBody (top 14), defScope (top 14), [], []⟩
def dd_are_choices : He.DefD := ⟨("are_choices", none), "are_choices", "are_choices", defArgs (top 15), defBody (top 15), defScope (top 15), [], []⟩
def dd_check_format : He.DefD := ⟨("check_format", none), "check_format", "check_format", defArgs (top 16), defBody (top 16), defScope (top 16), [], []⟩
def dd_ends : He.DefD := ⟨("ends", none), "ends", "ends", defArgs (top 17), defBody (top 17), defScope (top 17), [], []⟩
def dd_lowest : He.DefD := ⟨("lowest", none), "lowest", "lowest", defArgs (top 18), defBody (top 18), defScope (top 18), [], []⟩
def dd_highest : He.DefD := ⟨("highest", none), "highest", "highest", defArgs (top 19), defBody (top 19), defScope (top 19), [], []⟩
def dd_is_mersenne : He.DefD := ⟨("is_mersenne", none), "is_mersenne", "is_mersenne", defArgs (top 23), defBody (top 23), defScope (top 23), [], []⟩
def dd_least_factor : He.DefD := ⟨("least_factor", none), "least_factor", "least_factor", defArgs (top 24), defBody (top 24), defScope (top 24), [], []⟩
def dd__check_exponent : He.DefD := ⟨("_check_exponent", none), "_check_exponent", "_check_exponent", defArgs (top 25), defBody (top 25), defScope (top 25), [], []⟩
def dd__passes_lucas_lehmer : He.DefD := ⟨("_passes_lucas_lehmer", none), "_passes_lucas_lehmer", "_passes_lucas_lehmer", defArgs (top 26), defBody (top 26), defScope (top 26), [], []⟩
def dd_breach : He.DefD := ⟨("breach", none), "breach", "breach", defArgs (top 28), defBody (top 28), defScope (top 28), [], []⟩
def dd__half : He.DefD := ⟨("_half", none), "_half", "_half", defArgs (top 29), defBody (top 29), defScope (top 29), [], []⟩
def dd__whole : He.DefD := ⟨("_whole", none), "_whole", "_whole", defArgs (top 30), defBody (top 30), defScope (top 30), [], []⟩
def dd__factors : He.DefD := ⟨("_factors", none), "_factors", "_factors", defArgs (top 31), defBody (top 31), defScope (top 31), [], []⟩
def dd_sum_grouping_breaches : He.DefD := ⟨("sum_grouping_breaches", none), "_sum_grouping", "_sum_grouping", defArgs (top 32), defBody (top 32), defScope (top 32), [], []⟩
def dd_product_grouping_breaches : He.DefD := ⟨("product_grouping_breaches", none), "_product_grouping", "_product_grouping", defArgs (top 34), defBody (top 34), defScope (top 34), [], []⟩
def dd_distribution_breaches : He.DefD := ⟨("distribution_breaches", none), "_distribution", "_distribution", defArgs (top 36), defBody (top 36), defScope (top 36), [], []⟩
def dd_double_negation_breaches : He.DefD := ⟨("double_negation_breaches", none), "_double_negation", "_double_negation", defArgs (top 38), defBody (top 38), defScope (top 38), [], []⟩
def dd_difference_breaches : He.DefD := ⟨("difference_breaches", none), "_difference", "_difference", defArgs (top 40), defBody (top 40), defScope (top 40), [], []⟩
def dd__lowest_and_one : He.DefD := ⟨("_lowest_and_one", none), "_lowest_and_one", "_lowest_and_one", defArgs (top 42), defBody (top 42), defScope (top 42), [], []⟩
def dd_division_breaches : He.DefD := ⟨("division_breaches", none), "_division", "_division", defArgs (top 43), defBody (top 43), defScope (top 43), [], []⟩
def dd_remainder_range_breaches : He.DefD := ⟨("remainder_range_breaches", none), "_remainder_range", "_remainder_range", defArgs (top 45), defBody (top 45), defScope (top 45), [], []⟩
def dd_negated_quotient_breaches : He.DefD := ⟨("negated_quotient_breaches", none), "_negated_quotient", "_negated_quotient", defArgs (top 47), defBody (top 47), defScope (top 47), [], []⟩
def dd_shift_breaches : He.DefD := ⟨("shift_breaches", none), "_shift", "_shift", defArgs (top 49), defBody (top 49), defScope (top 49), [], []⟩
def dd_absolute_value_breaches : He.DefD := ⟨("absolute_value_breaches", none), "_absolute_value", "_absolute_value", defArgs (top 51), defBody (top 51), defScope (top 51), [], []⟩
def dd_monotone_sum_breaches : He.DefD := ⟨("monotone_sum_breaches", none), "_monotone_sum", "_monotone_sum", defArgs (top 53), defBody (top 53), defScope (top 53), [], []⟩
def dd_square_breaches : He.DefD := ⟨("square_breaches", none), "_square", "_square", defArgs (top 55), defBody (top 55), defScope (top 55), [], []⟩
def dd_zero_product_breaches : He.DefD := ⟨("zero_product_breaches", none), "_zero_product", "_zero_product", defArgs (top 57), defBody (top 57), defScope (top 57), [], []⟩
def dd_cancellation_breaches : He.DefD := ⟨("cancellation_breaches", none), "_cancellation", "_cancellation", defArgs (top 59), defBody (top 59), defScope (top 59), [], []⟩
def dd_meets_condition : He.DefD := ⟨("meets_condition", none), "meets_condition", "meets_condition", defArgs (top 63), defBody (top 63), defScope (top 63), [], []⟩
def dd_sum_grouping_conditions : He.DefD := ⟨("sum_grouping_conditions", none), "_sum_grouping", "_sum_grouping", defArgs (top 64), defBody (top 64), defScope (top 64), [], []⟩
def dd_product_grouping_conditions : He.DefD := ⟨("product_grouping_conditions", none), "_product_grouping", "_product_grouping", defArgs (top 66), defBody (top 66), defScope (top 66), [], []⟩
def dd_distribution_conditions : He.DefD := ⟨("distribution_conditions", none), "_distribution", "_distribution", defArgs (top 68), defBody (top 68), defScope (top 68), [], []⟩
def dd__negatives : He.DefD := ⟨("_negatives", none), "_negatives", "_negatives", defArgs (top 70), defBody (top 70), defScope (top 70), [], []⟩
def dd_add_back_conditions : He.DefD := ⟨("add_back_conditions", none), "_add_back", "_add_back", defArgs (top 71), defBody (top 71), defScope (top 71), [], []⟩
def dd_division_conditions : He.DefD := ⟨("division_conditions", none), "_division", "_division", defArgs (top 73), defBody (top 73), defScope (top 73), [], []⟩
def dd_remainder_range_conditions : He.DefD := ⟨("remainder_range_conditions", none), "_remainder_range", "_remainder_range", defArgs (top 75), defBody (top 75), defScope (top 75), [], []⟩
def dd_negated_quotient_conditions : He.DefD := ⟨("negated_quotient_conditions", none), "_negated_quotient", "_negated_quotient", defArgs (top 77), defBody (top 77), defScope (top 77), [], []⟩
def dd_shift_conditions : He.DefD := ⟨("shift_conditions", none), "_shift", "_shift", defArgs (top 79), defBody (top 79), defScope (top 79), [], []⟩
def dd_absolute_value_conditions : He.DefD := ⟨("absolute_value_conditions", none), "_absolute_value", "_absolute_value", defArgs (top 81), defBody (top 81), defScope (top 81), [], []⟩
def dd_order_by_difference_conditions : He.DefD := ⟨("order_by_difference_conditions", none), "_order_by_difference", "_order_by_difference", defArgs (top 83), defBody (top 83), defScope (top 83), [], []⟩
def dd_monotone_sum_conditions : He.DefD := ⟨("monotone_sum_conditions", none), "_monotone_sum", "_monotone_sum", defArgs (top 85), defBody (top 85), defScope (top 85), [], []⟩
def dd_average_conditions : He.DefD := ⟨("average_conditions", none), "_average", "_average", defArgs (top 87), defBody (top 87), defScope (top 87), [], []⟩
def dd_square_conditions : He.DefD := ⟨("square_conditions", none), "_square", "_square", defArgs (top 89), defBody (top 89), defScope (top 89), [], []⟩
def dd_zero_product_conditions : He.DefD := ⟨("zero_product_conditions", none), "_zero_product", "_zero_product", defArgs (top 91), defBody (top 91), defScope (top 91), [], []⟩
def dd_cancellation_conditions : He.DefD := ⟨("cancellation_conditions", none), "_cancellation", "_cancellation", defArgs (top 93), defBody (top 93), defScope (top 93), [], []⟩
def dd_terms_of : He.DefD := ⟨("terms_of", none), "terms_of", "terms_of", defArgs (top 98), defBody (top 98), defScope (top 98), [], []⟩
def dd_fitted : He.DefD := ⟨("fitted", none), "fitted", "fitted", defArgs (top 99), defBody (top 99), defScope (top 99), [], []⟩
def dd_plus : He.DefD := ⟨("plus", none), "plus", "plus", defArgs (top 100), defBody (top 100), defScope (top 100), [], []⟩
def dd_minus : He.DefD := ⟨("minus", none), "minus", "minus", defArgs (top 101), defBody (top 101), defScope (top 101), [], []⟩
def dd_times : He.DefD := ⟨("times", none), "times", "times", defArgs (top 102), defBody (top 102), defScope (top 102), [], []⟩
def dd_opposite : He.DefD := ⟨("opposite", none), "opposite", "opposite", defArgs (top 103), defBody (top 103), defScope (top 103), [], []⟩
def dd_quotient : He.DefD := ⟨("quotient", none), "quotient", "quotient", defArgs (top 104), defBody (top 104), defScope (top 104), [], []⟩
def dd_rest : He.DefD := ⟨("rest", none), "rest", "rest", defArgs (top 105), defBody (top 105), defScope (top 105), [], []⟩
def dd__exact_quotient : He.DefD := ⟨("_exact_quotient", none), "_exact_quotient", "_exact_quotient", defArgs (top 106), defBody (top 106), defScope (top 106), [], []⟩
def dd__quotient_to_zero : He.DefD := ⟨("_quotient_to_zero", none), "_quotient_to_zero", "_quotient_to_zero", defArgs (top 107), defBody (top 107), defScope (top 107), [], []⟩
def dd__quotient_to_even : He.DefD := ⟨("_quotient_to_even", none), "_quotient_to_even", "_quotient_to_even", defArgs (top 108), defBody (top 108), defScope (top 108), [], []⟩
def dd__quotient_of_euclid : He.DefD := ⟨("_quotient_of_euclid", none), "_quotient_of_euclid", "_quotient_of_euclid", defArgs (top 109), defBody (top 109), defScope (top 109), [], []⟩
def dd_holds_for : He.DefD := ⟨("holds_for", none), "holds_for", "holds_for", defArgs (top 112), defBody (top 112), defScope (top 112), [], []⟩
def dd_is_rule : He.DefD := ⟨("is_rule", none), "is_rule", "is_rule", defArgs (top 113), defBody (top 113), defScope (top 113), [], []⟩
def dd_check_rule : He.DefD := ⟨("check_rule", none), "check_rule", "check_rule", defArgs (top 114), defBody (top 114), defScope (top 114), [], []⟩
def dd__check_numbers : He.DefD := ⟨("_check_numbers", none), "_check_numbers", "_check_numbers", defArgs (top 115), defBody (top 115), defScope (top 115), [], []⟩
def dd__at_most : He.DefD := ⟨("_at_most", none), "_at_most", "_at_most", defArgs (top 116), defBody (top 116), defScope (top 116), [], []⟩
def dd__below : He.DefD := ⟨("_below", none), "_below", "_below", defArgs (top 117), defBody (top 117), defScope (top 117), [], []⟩
def dd_sum_grouping_rules : He.DefD := ⟨("sum_grouping_rules", none), "_sum_grouping", "_sum_grouping", defArgs (top 118), defBody (top 118), defScope (top 118), [], []⟩
def dd_product_grouping_rules : He.DefD := ⟨("product_grouping_rules", none), "_product_grouping", "_product_grouping", defArgs (top 120), defBody (top 120), defScope (top 120), [], []⟩
def dd_distribution_rules : He.DefD := ⟨("distribution_rules", none), "_distribution", "_distribution", defArgs (top 122), defBody (top 122), defScope (top 122), [], []⟩
def dd_double_negation_rules : He.DefD := ⟨("double_negation_rules", none), "_double_negation", "_double_negation", defArgs (top 124), defBody (top 124), defScope (top 124), [], []⟩
def dd_difference_rules : He.DefD := ⟨("difference_rules", none), "_difference", "_difference", defArgs (top 126), defBody (top 126), defScope (top 126), [], []⟩
def dd_add_back_rules : He.DefD := ⟨("add_back_rules", none), "_add_back", "_add_back", defArgs (top 128), defBody (top 128), defScope (top 128), [], []⟩
def dd_division_rules : He.DefD := ⟨("division_rules", none), "_division", "_division", defArgs (top 130), defBody (top 130), defScope (top 130), [], []⟩
def dd_remainder_range_rules : He.DefD := ⟨("remainder_range_rules", none), "_remainder_range", "_remainder_range", defArgs (top 132), defBody (top 132), defScope (top 132), [], []⟩
def dd_negated_quotient_rules : He.DefD := ⟨("negated_quotient_rules", none), "_negated_quotient", "_negated_quotient", defArgs (top 134), defBody (top 134), defScope (top 134), [], []⟩
def dd_shift_rules : He.DefD := ⟨("shift_rules", none), "_shift", "_shift", defArgs (top 136), defBody (top 136), defScope (top 136), [], []⟩
def dd_absolute_value_rules : He.DefD := ⟨("absolute_value_rules", none), "_absolute_value", "_absolute_value", defArgs (top 138), defBody (top 138), defScope (top 138), [], []⟩
def dd_order_by_difference_rules : He.DefD := ⟨("order_by_difference_rules", none), "_order_by_difference", "_order_by_difference", defArgs (top 140), defBody (top 140), defScope (top 140), [], []⟩
def dd_monotone_sum_rules : He.DefD := ⟨("monotone_sum_rules", none), "_monotone_sum", "_monotone_sum", defArgs (top 142), defBody (top 142), defScope (top 142), [], []⟩
def dd_average_rules : He.DefD := ⟨("average_rules", none), "_average", "_average", defArgs (top 144), defBody (top 144), defScope (top 144), [], []⟩
def dd_square_rules : He.DefD := ⟨("square_rules", none), "_square", "_square", defArgs (top 146), defBody (top 146), defScope (top 146), [], []⟩
def dd_zero_product_rules : He.DefD := ⟨("zero_product_rules", none), "_zero_product", "_zero_product", defArgs (top 148), defBody (top 148), defScope (top 148), [], []⟩
def dd_cancellation_rules : He.DefD := ⟨("cancellation_rules", none), "_cancellation", "_cancellation", defArgs (top 150), defBody (top 150), defScope (top 150), [], []⟩
def dd_holds : He.DefD := ⟨("holds", none), "holds", "holds", defArgs (top 154), defBody (top 154), defScope (top 154), [], []⟩
def dd_counterexample : He.DefD := ⟨("counterexample", none), "counterexample", "counterexample", defArgs (top 155), defBody (top 155), defScope (top 155), [], []⟩
def dd__law_taken : He.DefD := ⟨("_law_taken", none), "_law_taken", "_law_taken", defArgs (top 157), defBody (top 157), defScope (top 157), [], []⟩
def dd__law_pick : He.DefD := ⟨("_law_pick", none), "_law_pick", "_law_pick", defArgs (top 158), defBody (top 158), defScope (top 158), [], []⟩
def dd__law_alike : He.DefD := ⟨("_law_alike", none), "_law_alike", "_law_alike", defArgs (top 159), defBody (top 159), defScope (top 159), [], []⟩
def dd__law_format : He.DefD := ⟨("_law_format", none), "_law_format", "_law_format", defArgs (top 160), defBody (top 160), defScope (top 160), [], []⟩
def dd__law_low : He.DefD := ⟨("_law_low", none), "_law_low", "_law_low", defArgs (top 161), defBody (top 161), defScope (top 161), [], []⟩
def dd__law_high : He.DefD := ⟨("_law_high", none), "_law_high", "_law_high", defArgs (top 162), defBody (top 162), defScope (top 162), [], []⟩
def dd__law_fit : He.DefD := ⟨("_law_fit", none), "_law_fit", "_law_fit", defArgs (top 163), defBody (top 163), defScope (top 163), [], []⟩
def dd__law_do : He.DefD := ⟨("_law_do", none), "_law_do", "_law_do", defArgs (top 164), defBody (top 164), defScope (top 164), [], []⟩
def dd__law_size : He.DefD := ⟨("_law_size", none), "_law_size", "_law_size", defArgs (top 165), defBody (top 165), defScope (top 165), [], []⟩
def dd__law_quotient : He.DefD := ⟨("_law_quotient", none), "_law_quotient", "_law_quotient", defArgs (top 166), defBody (top 166), defScope (top 166), [], []⟩
def dd__law_divide : He.DefD := ⟨("_law_divide", none), "_law_divide", "_law_divide", defArgs (top 167), defBody (top 167), defScope (top 167), [], []⟩
def dd__law_rest : He.DefD := ⟨("_law_rest", none), "_law_rest", "_law_rest", defArgs (top 168), defBody (top 168), defScope (top 168), [], []⟩
def dd__law_minus : He.DefD := ⟨("_law_minus", none), "_law_minus", "_law_minus", defArgs (top 169), defBody (top 169), defScope (top 169), [], []⟩
def dd__law_rises : He.DefD := ⟨("_law_rises", none), "_law_rises", "_law_rises", defArgs (top 170), defBody (top 170), defScope (top 170), [], []⟩
def dd__law_rules : He.DefD := ⟨("_law_rules", none), "_law_rules", "_law_rules", defArgs (top 171), defBody (top 171), defScope (top 171), [], []⟩
def dd__law_three : He.DefD := ⟨("_law_three", none), "_law_three", "_law_three", defArgs (top 172), defBody (top 172), defScope (top 172), [], []⟩
def dd__law_two : He.DefD := ⟨("_law_two", none), "_law_two", "_law_two", defArgs (top 173), defBody (top 173), defScope (top 173), [], []⟩
def dd__law_fits : He.DefD := ⟨("_law_fits", none), "_law_fits", "_law_fits", defArgs (top 174), defBody (top 174), defScope (top 174), [], []⟩
def dd__law_prime : He.DefD := ⟨("_law_prime", none), "_law_prime", "_law_prime", defArgs (top 175), defBody (top 175), defScope (top 175), [], []⟩
def dd__law_holds : He.DefD := ⟨("_law_holds", none), "_law_holds", "_law_holds", defArgs (top 176), defBody (top 176), defScope (top 176), [], []⟩
def dd__law_turned : He.DefD := ⟨("_law_turned", none), "_law_turned", "_law_turned", defArgs (top 177), defBody (top 177), defScope (top 177), [], []⟩
def dd__law_broken : He.DefD := ⟨("_law_broken", none), "_law_broken", "_law_broken", defArgs (top 178), defBody (top 178), defScope (top 178), [], []⟩
def dd_law : He.DefD := ⟨("law", none), "law", "law", defArgs (top 179), defBody (top 179), defScope (top 179), [], []⟩
def fn0 : List He.DefD := [dd_is_whole, dd_is_format, dd_are_choices, dd_check_format, dd_ends, dd_lowest, dd_highest, dd_is_mersenne, dd_least_factor, dd__check_exponent, dd__passes_lucas_lehmer, dd_breach, dd__half, dd__whole, dd__factors, dd_sum_grouping_breaches, dd_product_grouping_breaches, dd_distribution_breaches, dd_double_negation_breaches, dd_difference_breaches]
def fn1 : List He.DefD := [dd__lowest_and_one, dd_division_breaches, dd_remainder_range_breaches, dd_negated_quotient_breaches, dd_shift_breaches, dd_absolute_value_breaches, dd_monotone_sum_breaches, dd_square_breaches, dd_zero_product_breaches, dd_cancellation_breaches, dd_meets_condition, dd_sum_grouping_conditions, dd_product_grouping_conditions, dd_distribution_conditions, dd__negatives, dd_add_back_conditions, dd_division_conditions, dd_remainder_range_conditions, dd_negated_quotient_conditions, dd_shift_conditions]
def fn2 : List He.DefD := [dd_absolute_value_conditions, dd_order_by_difference_conditions, dd_monotone_sum_conditions, dd_average_conditions, dd_square_conditions, dd_zero_product_conditions, dd_cancellation_conditions, dd_terms_of, dd_fitted, dd_plus, dd_minus, dd_times, dd_opposite, dd_quotient, dd_rest, dd__exact_quotient, dd__quotient_to_zero, dd__quotient_to_even, dd__quotient_of_euclid, dd_holds_for]
def fn3 : List He.DefD := [dd_is_rule, dd_check_rule, dd__check_numbers, dd__at_most, dd__below, dd_sum_grouping_rules, dd_product_grouping_rules, dd_distribution_rules, dd_double_negation_rules, dd_difference_rules, dd_add_back_rules, dd_division_rules, dd_remainder_range_rules, dd_negated_quotient_rules, dd_shift_rules, dd_absolute_value_rules, dd_order_by_difference_rules, dd_monotone_sum_rules, dd_average_rules, dd_square_rules]
def fn4 : List He.DefD := [dd_zero_product_rules, dd_cancellation_rules, dd_holds, dd_counterexample, dd__law_taken, dd__law_pick, dd__law_alike, dd__law_format, dd__law_low, dd__law_high, dd__law_fit, dd__law_do, dd__law_size, dd__law_quotient, dd__law_divide, dd__law_rest, dd__law_minus, dd__law_rises, dd__law_rules, dd__law_three]
def fn5 : List He.DefD := [dd__law_two, dd__law_fits, dd__law_prime, dd__law_holds, dd__law_turned, dd__law_broken, dd_law]
def fn : List He.DefD := fn0 ++ fn1 ++ fn2 ++ fn3 ++ fn4 ++ fn5
def fa0 : List He.Fa := [.glo "is_whole", .glo "is_format", .glo "are_choices", .glo "check_format", .glo "ends", .glo "lowest", .glo "highest", .glo "is_mersenne", .glo "least_factor", .glo "_check_exponent", .glo "_passes_lucas_lehmer", .glo "breach", .glo "_half", .glo "_whole", .glo "_factors", .glo "sum_grouping_breaches", .glo "product_grouping_breaches", .glo "distribution_breaches", .glo "double_negation_breaches", .glo "difference_breaches", .glo "_lowest_and_one", .glo "division_breaches", .glo "remainder_range_breaches", .glo "negated_quotient_breaches", .glo "shift_breaches"]
def fa1 : List He.Fa := [.glo "absolute_value_breaches", .glo "monotone_sum_breaches", .glo "square_breaches", .glo "zero_product_breaches", .glo "cancellation_breaches", .glo "meets_condition", .glo "sum_grouping_conditions", .glo "product_grouping_conditions", .glo "distribution_conditions", .glo "_negatives", .glo "add_back_conditions", .glo "division_conditions", .glo "remainder_range_conditions", .glo "negated_quotient_conditions", .glo "shift_conditions", .glo "absolute_value_conditions", .glo "order_by_difference_conditions", .glo "monotone_sum_conditions", .glo "average_conditions", .glo "square_conditions", .glo "zero_product_conditions", .glo "cancellation_conditions", .glo "terms_of", .glo "fitted", .glo "plus"]
def fa2 : List He.Fa := [.glo "minus", .glo "times", .glo "opposite", .glo "quotient", .glo "rest", .glo "_exact_quotient", .glo "_quotient_to_zero", .glo "_quotient_to_even", .glo "_quotient_of_euclid", .glo "holds_for", .glo "is_rule", .glo "check_rule", .glo "_check_numbers", .glo "_at_most", .glo "_below", .glo "sum_grouping_rules", .glo "product_grouping_rules", .glo "distribution_rules", .glo "double_negation_rules", .glo "difference_rules", .glo "add_back_rules", .glo "division_rules", .glo "remainder_range_rules", .glo "negated_quotient_rules", .glo "shift_rules"]
def fa3 : List He.Fa := [.glo "absolute_value_rules", .glo "order_by_difference_rules", .glo "monotone_sum_rules", .glo "average_rules", .glo "square_rules", .glo "zero_product_rules", .glo "cancellation_rules", .glo "holds", .glo "counterexample", .glo "_law_taken", .glo "_law_pick", .glo "_law_alike", .glo "_law_format", .glo "_law_low", .glo "_law_high", .glo "_law_fit", .glo "_law_do", .glo "_law_size", .glo "_law_quotient", .glo "_law_divide", .glo "_law_rest", .glo "_law_minus", .glo "_law_rises", .glo "_law_rules", .glo "_law_three"]
def fa4 : List He.Fa := [.glo "_law_two", .glo "_law_fits", .glo "_law_prime", .glo "_law_holds", .glo "_law_turned", .glo "_law_broken", .glo "law", .free "isinstance", .free "int", .free "bool", .free "tuple", .free "str", .free "list", .free "len", .free "abs", .free "min", .free "max", .free "range", .free "sorted", .int "LEAST_WIDTH" 4, .int "GREATEST_WIDTH" 64, .int "LEAST_EXPONENT" 2, .int "GREATEST_EXPONENT" 64, .str "TRAP" "trap", .glo "SIGNS"]
def fa5 : List He.Fa := [.glo "OVERFLOWS", .glo "DIVISIONS", .glo "ARITIES", .glo "CHECKS", .glo "CONDITIONS", .glo "BREACHES"]
def fa : List He.Fa := fa0 ++ fa1 ++ fa2 ++ fa3 ++ fa4 ++ fa5
def ex (K : PySem.W.Frag) : Bool := He.tupB K "SIGNS" [.str "symmetric", .str "twos", .str "unsigned"] && (He.tupB K "OVERFLOWS" [.str "saturate", .str "trap", .str "wrap"] && (He.tupB K "DIVISIONS" [.str "ceiling", .str "euclid", .str "even", .str "floor", .str "zero"] && (He.valsB K (He.ga K "ARITIES") tv_ARITIES && (He.valsB K (He.ga K "CHECKS") tv_CHECKS && (He.valsB K (He.ga K "CONDITIONS") tv_CONDITIONS && (He.valsB K (He.ga K "BREACHES") tv_BREACHES && (true)))))))
def ts : List He.Tab := [(fun K => He.ga K "ARITIES", tk_ARITIES), (fun K => He.ga K "CHECKS", tk_CHECKS), (fun K => He.ga K "CONDITIONS", tk_CONDITIONS), (fun K => He.ga K "BREACHES", tk_BREACHES)]
abbrev RR : PySem.W.OpenRow := PySem.W.OpenLaw.row PySem.Challenge.rw_widthrules_k01_whole_counterexamples
abbrev hk : PySem.W.Hook := He.hookX 2 fa fn ts [("law", none)] ex
def ob (s : PySem.W.SharedT) : He.AlX := He.obsX 2 fa fn ts [("law", none)] ex (HandSHeadRun.getT s)
theorem ob_eq (s : PySem.W.SharedT) : ob s = hk.obs s.abs := He.obsX_eq (HandSHeadRun.getT_eq s)
def loose0 : List Str := ["WidthError", "BadFormat", "BadRule", "BadNumbers", "BadWidth", "is_whole", "LEAST_WIDTH", "GREATEST_WIDTH", "SIGNS", "OVERFLOWS", "DIVISIONS", "is_format", "are_choices", "check_format", "ends", "lowest", "highest", "LEAST_EXPONENT", "GREATEST_EXPONENT", "is_mersenne", "least_factor", "_check_exponent", "_passes_lucas_lehmer", "breach", "_half", "_whole", "_factors", "_sum_grouping", "sum_grouping_breaches", "_product_grouping"]
def loose1 : List Str := ["product_grouping_breaches", "_distribution", "distribution_breaches", "_double_negation", "double_negation_breaches", "_difference", "difference_breaches", "_lowest_and_one", "_division", "division_breaches", "_remainder_range", "remainder_range_breaches", "_negated_quotient", "negated_quotient_breaches", "_shift", "shift_breaches", "_absolute_value", "absolute_value_breaches", "_monotone_sum", "monotone_sum_breaches", "_square", "square_breaches", "_zero_product", "zero_product_breaches", "_cancellation", "cancellation_breaches", "BREACHES", "meets_condition", "sum_grouping_conditions", "product_grouping_conditions"]
def loose2 : List Str := ["distribution_conditions", "_negatives", "_add_back", "add_back_conditions", "division_conditions", "remainder_range_conditions", "negated_quotient_conditions", "shift_conditions", "absolute_value_conditions", "_order_by_difference", "order_by_difference_conditions", "monotone_sum_conditions", "_average", "average_conditions", "square_conditions", "zero_product_conditions", "cancellation_conditions", "CONDITIONS", "TRAP", "terms_of", "fitted", "plus", "minus", "times", "opposite", "quotient", "rest", "_exact_quotient", "_quotient_to_zero", "_quotient_to_even"]
def loose3 : List Str := ["_quotient_of_euclid", "ARITIES", "holds_for", "is_rule", "check_rule", "_check_numbers", "_at_most", "_below", "sum_grouping_rules", "product_grouping_rules", "distribution_rules", "double_negation_rules", "difference_rules", "add_back_rules", "division_rules", "remainder_range_rules", "negated_quotient_rules", "shift_rules", "absolute_value_rules", "order_by_difference_rules", "monotone_sum_rules", "average_rules", "square_rules", "zero_product_rules", "cancellation_rules", "CHECKS", "holds", "counterexample", "_law_taken", "_law_pick"]
def loose4 : List Str := ["_law_alike", "_law_format", "_law_low", "_law_high", "_law_fit", "_law_do", "_law_size", "_law_quotient", "_law_divide", "_law_rest", "_law_minus", "_law_rises", "_law_rules", "_law_three", "_law_two", "_law_fits", "_law_prime", "_law_holds", "_law_turned", "_law_broken"]
def loose : List Str := loose0 ++ loose1 ++ loose2 ++ loose3 ++ loose4
theorem runD_false (w : World) : WH.PartD RR (PySem.W.view RR.prog [179]) 60000 loose (w.withFollow "special-get-raises" false) := by
  intro os
  kernel_rfl
theorem runC1_false (w : World) : WH.PartC1 RR ob 60000 (He.valT fn ts) (w.withFollow "special-get-raises" false) := by
  intro os
  kernel_rfl
theorem runC2_false (w : World) : WH.PartC2 RR ob 60000 (fun _ => true) (w.withFollow "special-get-raises" false) := by
  intro os
  kernel_rfl
theorem runC_false (w : World) : WH.PartC RR hk ob 60000 (w.withFollow "special-get-raises" false) := fun os => WH.both (runC1_false w os) (runC2_false w os)
theorem runD_true (w : World) : WH.PartD RR (PySem.W.view RR.prog [179]) 60000 loose (w.withFollow "special-get-raises" true) := by
  intro os
  kernel_rfl
theorem runC1_true (w : World) : WH.PartC1 RR ob 60000 (He.valT fn ts) (w.withFollow "special-get-raises" true) := by
  intro os
  kernel_rfl
theorem runC2_true (w : World) : WH.PartC2 RR ob 60000 (fun _ => true) (w.withFollow "special-get-raises" true) := by
  intro os
  kernel_rfl
theorem runC_true (w : World) : WH.PartC RR hk ob 60000 (w.withFollow "special-get-raises" true) := fun os => WH.both (runC1_true w os) (runC2_true w os)
theorem run (w : World) : HandSHeadRun.RunEq RR (PySem.W.view RR.prog [179]) hk ob 60000 loose w := PySem.W.byRow2 "special-get-raises" (P := fun w => HandSHeadRun.RunEq RR (PySem.W.view RR.prog [179]) hk ob 60000 loose w) (fun w => WH.run_of2 (runD_false w) (runC_false w)) (fun w => WH.run_of2 (runD_true w) (runC_true w)) w
theorem bare_ok : RR.prog.bare := ⟨rfl, rfl, rfl, rfl, rfl, by decide +kernel⟩
theorem k1_ok : RR.wellSaid = true := by decide +kernel
theorem ok_ok : (PySem.W.chainsOk (PySem.W.view RR.prog [179]) && (PySem.W.opensWell RR.prog && (PySem.W.frees RR.toRowW && RR.within.isEmpty))) = true := by decide +kernel
end K1

/-! Mathematics of machine integer formats: bounds, fitting, quotients. -/
set_option maxHeartbeats 4000000
namespace WM
inductive Sg where | sym | twos | uns
  deriving DecidableEq
inductive Ov where | sat | trap | wrap
  deriving DecidableEq
inductive Dv where | ceil | euc | even | floor | zero
  deriving DecidableEq
structure Fmt where
  w : Nat
  sg : Sg
  ov : Ov
  dv : Dv
  lo4 : 4 ≤ w
  hi64 : w ≤ 64
def p2 (n : Nat) : Int := 2 ^ n
theorem p2_succ (n : Nat) : p2 (n + 1) = 2 * p2 n := by
  unfold p2; rw [Int.pow_succ]; omega
theorem p2_mono {m n : Nat} (h : m ≤ n) : p2 m ≤ p2 n := by
  induction n with
  | zero => have e : m = 0 := by omega
            rw [e]; exact Int.le_refl _
  | succ k ih =>
    by_cases e : m = k + 1
    · rw [e]; exact Int.le_refl _
    · have h1 := ih (by omega)
      have h2 : (0 : Int) ≤ p2 k := by
        unfold p2; exact Int.pow_nonneg (by decide)
      rw [p2_succ]; omega
def bnd (sg : Sg) (w : Nat) : Int := match sg with
  | .uns => p2 w
  | _ => p2 (w - 1)
def hi (f : Fmt) : Int := bnd f.sg f.w - 1
def lo (f : Fmt) : Int := match f.sg with
  | .uns => 0
  | .twos => - p2 (f.w - 1)
  | .sym => 1 - p2 (f.w - 1)
def many (f : Fmt) : Int := hi f - lo f + 1
theorem p2_lo {n : Nat} (h : 3 ≤ n) : 8 ≤ p2 n := p2_mono h
theorem p2_hi {n : Nat} (h : n ≤ 64) : p2 n ≤ 18446744073709551616 := p2_mono h
theorem p2_w {w : Nat} (h : 4 ≤ w) : p2 w = 2 * p2 (w - 1) := by
  obtain ⟨k, rfl⟩ : ∃ k, w = k + 1 := ⟨w - 1, by omega⟩
  exact p2_succ k
/-- all that omega wants to know of a format's numbers -/
theorem facts (f : Fmt) : 8 ≤ p2 (f.w - 1) ∧ p2 (f.w - 1) ≤ 9223372036854775808 ∧ p2 f.w = 2 * p2 (f.w - 1) ∧
    lo f ≤ 0 ∧ 7 ≤ hi f ∧ -9223372036854775808 ≤ lo f ∧ hi f ≤ 18446744073709551615 ∧ many f = hi f - lo f + 1 ∧ lo f ≤ hi f ∧ 15 ≤ many f ∧ many f ≤ 18446744073709551616 := by
  have h1 : 8 ≤ p2 (f.w - 1) := p2_lo (by have := f.lo4; omega)
  have h2 : p2 (f.w - 1) ≤ p2 63 := p2_mono (by have := f.hi64; omega)
  have h3 : p2 f.w = 2 * p2 (f.w - 1) := p2_w f.lo4
  have h4 : p2 63 = 9223372036854775808 := by decide
  rw [h4] at h2
  obtain ⟨w, sg, ov, dv, l1, l2⟩ := f
  cases sg <;> (simp only [many, hi, lo, bnd]; simp only [] at h1 h2 h3; refine ⟨by omega, by omega, by omega, by omega, by omega, by omega, by omega, ?_, by omega, by omega, by omega⟩; trivial)
def fits (f : Fmt) (e : Int) : Prop := lo f ≤ e ∧ e ≤ hi f
instance (f : Fmt) (e : Int) : Decidable (fits f e) := inferInstanceAs (Decidable (_ ∧ _))
/-- the fitted result; none is the trap -/
def fitR (f : Fmt) (e : Int) : Option Int :=
  if fits f e then some e else match f.ov with
    | .wrap => some (lo f + (e - lo f).fmod (many f))
    | .sat => some (if e < lo f then lo f else hi f)
    | .trap => none
theorem fitR_in {f : Fmt} {e : Int} (h : fits f e) : fitR f e = some e := if_pos h
theorem fitR_fits {f : Fmt} {e z : Int} (h : fitR f e = some z) : fits f z := by
  unfold fitR at h
  split at h
  · cases h; assumption
  · have F := facts f
    cases hov : f.ov <;> rw [hov] at h <;> simp only [] at h
    · cases h
      unfold fits
      split <;> omega
    · cases h
    · cases h
      have h1 := Int.fmod_nonneg_of_pos (e - lo f) (show 0 < many f by omega)
      have h2 := Int.fmod_lt_of_pos (e - lo f) (show 0 < many f by omega)
      unfold fits
      omega

/-! ### quotients -/
theorem fdiv_pos {a b q : Int} (hb : 0 < b) (h1 : b * q ≤ a) (h2 : a < b * q + b) : a.fdiv b = q := by
  have u := (Int.fdiv_fmod_unique (a := a) (b := b) (r := a - b * q) (q := q) hb).mpr ⟨by omega, by omega, by omega⟩
  exact u.1
theorem fdiv_neg' {a b q : Int} (hb : b < 0) (h1 : a ≤ b * q) (h2 : b * q + b < a) : a.fdiv b = q := by
  have e : a.fdiv b = (-a).fdiv (-b) := (Int.neg_fdiv_neg a b).symm
  rw [e]
  refine fdiv_pos (by omega) ?_ ?_
  · rw [Int.neg_mul]; omega
  · rw [Int.neg_mul]; omega
def quo (d : Dv) (a b : Int) : Int := match d with
  | .floor => a.fdiv b
  | .ceil => - (-a).fdiv b
  | .zero => if (decide (a < 0) = decide (b < 0)) then (a.natAbs : Int).fdiv b.natAbs else - (a.natAbs : Int).fdiv b.natAbs
  | .even =>
    let q := a.fdiv b
    if 2 * ((a - b * q).natAbs : Int) > b.natAbs ∨ (2 * ((a - b * q).natAbs : Int) = b.natAbs ∧ q.fmod 2 = 1) then q + 1 else q
  | .euc => if 0 < b then a.fdiv b else - a.fdiv (-b)
/-- by the exact sizes -/
def qup (d : Dv) (a b left size : Int) : Bool := match d with
  | .zero => false
  | .floor => decide (a < 0) != decide (b < 0)
  | .ceil => !(decide (a < 0) != decide (b < 0))
  | .euc => decide (a < 0)
  | .even => decide (2 * left > (b.natAbs : Int)) || (decide (2 * left = (b.natAbs : Int)) && decide (size.fmod 2 = 1))
def quoS (d : Dv) (a b : Int) : Int :=
  let size := (a.natAbs : Int).fdiv b.natAbs
  let left := (a.natAbs : Int) - size * b.natAbs
  let neg := decide (a < 0) != decide (b < 0)
  if left = 0 then (if neg then 0 - size else size) else
    let size2 := if qup d a b left size then size + 1 else size
    if neg then 0 - size2 else size2
theorem fmod2 (q : Int) : q.fmod 2 = q % 2 := Int.fmod_eq_emod_of_nonneg q (by decide)
theorem quo_even_of {a b q x : Int} {X B : Int} (hq : a.fdiv b = q) (hx : a - b * q = x) (hX : (x.natAbs : Int) = X) (hB : (b.natAbs : Int) = B) :
    quo .even a b = if 2 * X > B ∨ (2 * X = B ∧ q % 2 = 1) then q + 1 else q := by
  show (if 2 * ((a - b * a.fdiv b).natAbs : Int) > b.natAbs ∨ (2 * ((a - b * a.fdiv b).natAbs : Int) = b.natAbs ∧ (a.fdiv b).fmod 2 = 1) then a.fdiv b + 1 else a.fdiv b) = _
  rw [hq, hx, fmod2, hX, hB]
theorem core_nn (d : Dv) (m n : Int) (m0 : 0 ≤ m) (m1 : 0 < m) (n0 : 0 < n) : quoS d (-m) (-n) = quo d (-m) (-n) := by
  obtain ⟨s, hs⟩ : ∃ s : Int, s = m.fdiv n := ⟨_, rfl⟩
  obtain ⟨r, hr⟩ : ∃ r : Int, r = m - s * n := ⟨_, rfl⟩
  have r1 : 0 ≤ r ∧ r < n := by
    have h1 := Int.mul_fdiv_self_le (x := m) n0
    have h2 := Int.lt_mul_fdiv_self_add (x := m) n0
    rw [← hs] at h1 h2
    rw [hr, Int.mul_comm s n]
    omega
  obtain ⟨t, ht⟩ : ∃ t : Int, t = n * s := ⟨_, rfl⟩
  have hrt : m = t + r := by rw [hr, ht, Int.mul_comm s n]; omega
  have hs0 : 0 ≤ s := by rw [hs]; exact Int.fdiv_nonneg m0 (by omega)
  have e1 : n * (s + 1) = t + n := by rw [Int.mul_add, ← ht]; omega
  have e2 : n * (-s) = -t := by rw [Int.mul_neg, ← ht]
  have e3 : n * (-s - 1) = -t - n := by rw [Int.mul_sub, e2]; omega
  have e4 : (-n) * s = -t := by rw [Int.neg_mul, ← ht]
  have e5 : (-n) * (s + 1) = -t - n := by rw [Int.neg_mul, e1]; omega
  have e6 : (-n) * (-s) = t := by rw [Int.neg_mul, e2]; omega
  have e7 : (-n) * (-s - 1) = t + n := by rw [Int.neg_mul, e3]; omega
  have fpp : m.fdiv n = s := hs.symm
  have fnp : (-m).fdiv n = if r = 0 then -s else -s - 1 := by
    split
    · exact fdiv_pos n0 (by omega) (by omega)
    · exact fdiv_pos n0 (by omega) (by omega)
  have fpn : m.fdiv (-n) = if r = 0 then -s else -s - 1 := by
    split
    · exact fdiv_neg' (by omega) (by omega) (by omega)
    · exact fdiv_neg' (by omega) (by omega) (by omega)
  have fnn : (-m).fdiv (-n) = s := by rw [Int.neg_fdiv_neg]; exact fpp
  have hmn : s * n = t := by rw [ht, Int.mul_comm]
  have A1 : ((-m).natAbs : Int) = m := by omega
  have A2 : ((-n).natAbs : Int) = n := by omega
  have A3 : (m.natAbs : Int) = m := by omega
  have A4 : (n.natAbs : Int) = n := by omega
  have tt : (true != true) = false := rfl
  have tf : (true != false) = true := rfl
  have ft : (false != true) = true := rfl
  have ff : (false != false) = false := rfl
  have T1 : (true = false) = False := by simp
  have T2 : (false = true) = False := by simp
  have mt : m - t = r := by omega
  clear hs hr
  have da : decide ((-m) < 0) = true := by simp; omega
  have db : decide ((-n) < 0) = true := by simp; omega
  unfold quoS
  simp only [A1, A2, da, db, fpp, hmn, mt, tt, tf, ft, ff, T2, if_true, if_false]
  by_cases r0 : r = 0
  · rw [if_pos r0] at fnp fpn
    have EV := quo_even_of (a := (-m)) (b := (-n)) (q := s) (x := (-r)) (X := r) (B := n) fnn (by rw [e4]; omega) (by omega) A2
    cases d
    case even =>
      rw [EV]; clear EV
      simp only [qup, A1, A2, da, db, tt, tf, ft, ff, T1, T2, if_false, if_true, Bool.or_eq_true, Bool.and_eq_true, decide_eq_true_eq, fmod2, r0]
      first | done | ((repeat' split) <;> omega)
    all_goals (clear EV; simp only [quo, qup, fpp, fnn, fpn, fnp, Int.neg_neg, A1, A2, da, db, tt, tf, ft, ff, T1, T2, Bool.not_false, Bool.not_true, if_false, if_true, Bool.or_eq_true, Bool.and_eq_true, decide_eq_true_eq, r0])
    all_goals first | done | ((repeat' split) <;> omega)
  · rw [if_neg r0] at fnp fpn
    have EV := quo_even_of (a := (-m)) (b := (-n)) (q := s) (x := (-r)) (X := r) (B := n) fnn (by rw [e4]; omega) (by omega) A2
    cases d
    case even =>
      rw [EV]; clear EV
      simp only [qup, A1, A2, da, db, tt, tf, ft, ff, T1, T2, if_false, if_true, Bool.or_eq_true, Bool.and_eq_true, decide_eq_true_eq, fmod2, r0]
      first | done | ((repeat' split) <;> omega)
    all_goals (clear EV; simp only [quo, qup, fpp, fnn, fpn, fnp, Int.neg_neg, A1, A2, da, db, tt, tf, ft, ff, T1, T2, Bool.not_false, Bool.not_true, if_false, if_true, Bool.or_eq_true, Bool.and_eq_true, decide_eq_true_eq, r0])
    all_goals first | done | ((repeat' split) <;> omega)
theorem core_np (d : Dv) (m n : Int) (m0 : 0 ≤ m) (m1 : 0 < m) (n0 : 0 < n) : quoS d (-m) n = quo d (-m) n := by
  obtain ⟨s, hs⟩ : ∃ s : Int, s = m.fdiv n := ⟨_, rfl⟩
  obtain ⟨r, hr⟩ : ∃ r : Int, r = m - s * n := ⟨_, rfl⟩
  have r1 : 0 ≤ r ∧ r < n := by
    have h1 := Int.mul_fdiv_self_le (x := m) n0
    have h2 := Int.lt_mul_fdiv_self_add (x := m) n0
    rw [← hs] at h1 h2
    rw [hr, Int.mul_comm s n]
    omega
  obtain ⟨t, ht⟩ : ∃ t : Int, t = n * s := ⟨_, rfl⟩
  have hrt : m = t + r := by rw [hr, ht, Int.mul_comm s n]; omega
  have hs0 : 0 ≤ s := by rw [hs]; exact Int.fdiv_nonneg m0 (by omega)
  have e1 : n * (s + 1) = t + n := by rw [Int.mul_add, ← ht]; omega
  have e2 : n * (-s) = -t := by rw [Int.mul_neg, ← ht]
  have e3 : n * (-s - 1) = -t - n := by rw [Int.mul_sub, e2]; omega
  have e4 : (-n) * s = -t := by rw [Int.neg_mul, ← ht]
  have e5 : (-n) * (s + 1) = -t - n := by rw [Int.neg_mul, e1]; omega
  have e6 : (-n) * (-s) = t := by rw [Int.neg_mul, e2]; omega
  have e7 : (-n) * (-s - 1) = t + n := by rw [Int.neg_mul, e3]; omega
  have fpp : m.fdiv n = s := hs.symm
  have fnp : (-m).fdiv n = if r = 0 then -s else -s - 1 := by
    split
    · exact fdiv_pos n0 (by omega) (by omega)
    · exact fdiv_pos n0 (by omega) (by omega)
  have fpn : m.fdiv (-n) = if r = 0 then -s else -s - 1 := by
    split
    · exact fdiv_neg' (by omega) (by omega) (by omega)
    · exact fdiv_neg' (by omega) (by omega) (by omega)
  have fnn : (-m).fdiv (-n) = s := by rw [Int.neg_fdiv_neg]; exact fpp
  have hmn : s * n = t := by rw [ht, Int.mul_comm]
  have A1 : ((-m).natAbs : Int) = m := by omega
  have A2 : ((-n).natAbs : Int) = n := by omega
  have A3 : (m.natAbs : Int) = m := by omega
  have A4 : (n.natAbs : Int) = n := by omega
  have tt : (true != true) = false := rfl
  have tf : (true != false) = true := rfl
  have ft : (false != true) = true := rfl
  have ff : (false != false) = false := rfl
  have T1 : (true = false) = False := by simp
  have T2 : (false = true) = False := by simp
  have mt : m - t = r := by omega
  clear hs hr
  have da : decide ((-m) < 0) = true := by simp; omega
  have db : decide (n < 0) = false := by simp; omega
  unfold quoS
  simp only [A1, A4, da, db, fpp, hmn, mt, tt, tf, ft, ff, T2, if_true, if_false]
  by_cases r0 : r = 0
  · rw [if_pos r0] at fnp fpn
    have EV := quo_even_of (a := (-m)) (b := n) (q := (-s)) (x := 0) (X := 0) (B := n) fnp (by rw [e2]; omega) (by omega) A4
    cases d
    case even =>
      rw [EV]; clear EV
      simp only [qup, A1, A4, da, db, tt, tf, ft, ff, T1, T2, if_false, if_true, Bool.or_eq_true, Bool.and_eq_true, decide_eq_true_eq, fmod2, r0]
      first | done | ((repeat' split) <;> omega)
    all_goals (clear EV; simp only [quo, qup, fpp, fnn, fpn, fnp, Int.neg_neg, A1, A4, da, db, tt, tf, ft, ff, T1, T2, Bool.not_false, Bool.not_true, if_false, if_true, Bool.or_eq_true, Bool.and_eq_true, decide_eq_true_eq, r0])
    all_goals first | done | ((repeat' split) <;> omega)
  · rw [if_neg r0] at fnp fpn
    have EV := quo_even_of (a := (-m)) (b := n) (q := (-s-1)) (x := (n - r)) (X := (n - r)) (B := n) fnp (by rw [e3]; omega) (by omega) A4
    cases d
    case even =>
      rw [EV]; clear EV
      simp only [qup, A1, A4, da, db, tt, tf, ft, ff, T1, T2, if_false, if_true, Bool.or_eq_true, Bool.and_eq_true, decide_eq_true_eq, fmod2, r0]
      first | done | ((repeat' split) <;> omega)
    all_goals (clear EV; simp only [quo, qup, fpp, fnn, fpn, fnp, Int.neg_neg, A1, A4, da, db, tt, tf, ft, ff, T1, T2, Bool.not_false, Bool.not_true, if_false, if_true, Bool.or_eq_true, Bool.and_eq_true, decide_eq_true_eq, r0])
    all_goals first | done | ((repeat' split) <;> omega)
theorem core_pn (d : Dv) (m n : Int) (m0 : 0 ≤ m) (n0 : 0 < n) : quoS d m (-n) = quo d m (-n) := by
  obtain ⟨s, hs⟩ : ∃ s : Int, s = m.fdiv n := ⟨_, rfl⟩
  obtain ⟨r, hr⟩ : ∃ r : Int, r = m - s * n := ⟨_, rfl⟩
  have r1 : 0 ≤ r ∧ r < n := by
    have h1 := Int.mul_fdiv_self_le (x := m) n0
    have h2 := Int.lt_mul_fdiv_self_add (x := m) n0
    rw [← hs] at h1 h2
    rw [hr, Int.mul_comm s n]
    omega
  obtain ⟨t, ht⟩ : ∃ t : Int, t = n * s := ⟨_, rfl⟩
  have hrt : m = t + r := by rw [hr, ht, Int.mul_comm s n]; omega
  have hs0 : 0 ≤ s := by rw [hs]; exact Int.fdiv_nonneg m0 (by omega)
  have e1 : n * (s + 1) = t + n := by rw [Int.mul_add, ← ht]; omega
  have e2 : n * (-s) = -t := by rw [Int.mul_neg, ← ht]
  have e3 : n * (-s - 1) = -t - n := by rw [Int.mul_sub, e2]; omega
  have e4 : (-n) * s = -t := by rw [Int.neg_mul, ← ht]
  have e5 : (-n) * (s + 1) = -t - n := by rw [Int.neg_mul, e1]; omega
  have e6 : (-n) * (-s) = t := by rw [Int.neg_mul, e2]; omega
  have e7 : (-n) * (-s - 1) = t + n := by rw [Int.neg_mul, e3]; omega
  have fpp : m.fdiv n = s := hs.symm
  have fnp : (-m).fdiv n = if r = 0 then -s else -s - 1 := by
    split
    · exact fdiv_pos n0 (by omega) (by omega)
    · exact fdiv_pos n0 (by omega) (by omega)
  have fpn : m.fdiv (-n) = if r = 0 then -s else -s - 1 := by
    split
    · exact fdiv_neg' (by omega) (by omega) (by omega)
    · exact fdiv_neg' (by omega) (by omega) (by omega)
  have fnn : (-m).fdiv (-n) = s := by rw [Int.neg_fdiv_neg]; exact fpp
  have hmn : s * n = t := by rw [ht, Int.mul_comm]
  have A1 : ((-m).natAbs : Int) = m := by omega
  have A2 : ((-n).natAbs : Int) = n := by omega
  have A3 : (m.natAbs : Int) = m := by omega
  have A4 : (n.natAbs : Int) = n := by omega
  have tt : (true != true) = false := rfl
  have tf : (true != false) = true := rfl
  have ft : (false != true) = true := rfl
  have ff : (false != false) = false := rfl
  have T1 : (true = false) = False := by simp
  have T2 : (false = true) = False := by simp
  have mt : m - t = r := by omega
  clear hs hr
  have da : decide (m < 0) = false := by simp; omega
  have db : decide ((-n) < 0) = true := by simp; omega
  unfold quoS
  simp only [A3, A2, da, db, fpp, hmn, mt, tt, tf, ft, ff, T2, if_true, if_false]
  by_cases r0 : r = 0
  · rw [if_pos r0] at fnp fpn
    have EV := quo_even_of (a := m) (b := (-n)) (q := (-s)) (x := 0) (X := 0) (B := n) fpn (by rw [e6]; omega) (by omega) A2
    cases d
    case even =>
      rw [EV]; clear EV
      simp only [qup, A3, A2, da, db, tt, tf, ft, ff, T1, T2, if_false, if_true, Bool.or_eq_true, Bool.and_eq_true, decide_eq_true_eq, fmod2, r0]
      first | done | ((repeat' split) <;> omega)
    all_goals (clear EV; simp only [quo, qup, fpp, fnn, fpn, fnp, Int.neg_neg, A3, A2, da, db, tt, tf, ft, ff, T1, T2, Bool.not_false, Bool.not_true, if_false, if_true, Bool.or_eq_true, Bool.and_eq_true, decide_eq_true_eq, r0])
    all_goals first | done | ((repeat' split) <;> omega)
  · rw [if_neg r0] at fnp fpn
    have EV := quo_even_of (a := m) (b := (-n)) (q := (-s-1)) (x := (r - n)) (X := (n - r)) (B := n) fpn (by rw [e7]; omega) (by omega) A2
    cases d
    case even =>
      rw [EV]; clear EV
      simp only [qup, A3, A2, da, db, tt, tf, ft, ff, T1, T2, if_false, if_true, Bool.or_eq_true, Bool.and_eq_true, decide_eq_true_eq, fmod2, r0]
      first | done | ((repeat' split) <;> omega)
    all_goals (clear EV; simp only [quo, qup, fpp, fnn, fpn, fnp, Int.neg_neg, A3, A2, da, db, tt, tf, ft, ff, T1, T2, Bool.not_false, Bool.not_true, if_false, if_true, Bool.or_eq_true, Bool.and_eq_true, decide_eq_true_eq, r0])
    all_goals first | done | ((repeat' split) <;> omega)
theorem core_pp (d : Dv) (m n : Int) (m0 : 0 ≤ m) (n0 : 0 < n) : quoS d m n = quo d m n := by
  obtain ⟨s, hs⟩ : ∃ s : Int, s = m.fdiv n := ⟨_, rfl⟩
  obtain ⟨r, hr⟩ : ∃ r : Int, r = m - s * n := ⟨_, rfl⟩
  have r1 : 0 ≤ r ∧ r < n := by
    have h1 := Int.mul_fdiv_self_le (x := m) n0
    have h2 := Int.lt_mul_fdiv_self_add (x := m) n0
    rw [← hs] at h1 h2
    rw [hr, Int.mul_comm s n]
    omega
  obtain ⟨t, ht⟩ : ∃ t : Int, t = n * s := ⟨_, rfl⟩
  have hrt : m = t + r := by rw [hr, ht, Int.mul_comm s n]; omega
  have hs0 : 0 ≤ s := by rw [hs]; exact Int.fdiv_nonneg m0 (by omega)
  have e1 : n * (s + 1) = t + n := by rw [Int.mul_add, ← ht]; omega
  have e2 : n * (-s) = -t := by rw [Int.mul_neg, ← ht]
  have e3 : n * (-s - 1) = -t - n := by rw [Int.mul_sub, e2]; omega
  have e4 : (-n) * s = -t := by rw [Int.neg_mul, ← ht]
  have e5 : (-n) * (s + 1) = -t - n := by rw [Int.neg_mul, e1]; omega
  have e6 : (-n) * (-s) = t := by rw [Int.neg_mul, e2]; omega
  have e7 : (-n) * (-s - 1) = t + n := by rw [Int.neg_mul, e3]; omega
  have fpp : m.fdiv n = s := hs.symm
  have fnp : (-m).fdiv n = if r = 0 then -s else -s - 1 := by
    split
    · exact fdiv_pos n0 (by omega) (by omega)
    · exact fdiv_pos n0 (by omega) (by omega)
  have fpn : m.fdiv (-n) = if r = 0 then -s else -s - 1 := by
    split
    · exact fdiv_neg' (by omega) (by omega) (by omega)
    · exact fdiv_neg' (by omega) (by omega) (by omega)
  have fnn : (-m).fdiv (-n) = s := by rw [Int.neg_fdiv_neg]; exact fpp
  have hmn : s * n = t := by rw [ht, Int.mul_comm]
  have A1 : ((-m).natAbs : Int) = m := by omega
  have A2 : ((-n).natAbs : Int) = n := by omega
  have A3 : (m.natAbs : Int) = m := by omega
  have A4 : (n.natAbs : Int) = n := by omega
  have tt : (true != true) = false := rfl
  have tf : (true != false) = true := rfl
  have ft : (false != true) = true := rfl
  have ff : (false != false) = false := rfl
  have T1 : (true = false) = False := by simp
  have T2 : (false = true) = False := by simp
  have mt : m - t = r := by omega
  clear hs hr
  have da : decide (m < 0) = false := by simp; omega
  have db : decide (n < 0) = false := by simp; omega
  unfold quoS
  simp only [A3, A4, da, db, fpp, hmn, mt, tt, tf, ft, ff, T2, if_true, if_false]
  by_cases r0 : r = 0
  · rw [if_pos r0] at fnp fpn
    have EV := quo_even_of (a := m) (b := n) (q := s) (x := r) (X := r) (B := n) fpp (by rw [← ht]; omega) (by omega) A4
    cases d
    case even =>
      rw [EV]; clear EV
      simp only [qup, A3, A4, da, db, tt, tf, ft, ff, T1, T2, if_false, if_true, Bool.or_eq_true, Bool.and_eq_true, decide_eq_true_eq, fmod2, r0]
      first | done | ((repeat' split) <;> omega)
    all_goals (clear EV; simp only [quo, qup, fpp, fnn, fpn, fnp, Int.neg_neg, A3, A4, da, db, tt, tf, ft, ff, T1, T2, Bool.not_false, Bool.not_true, if_false, if_true, Bool.or_eq_true, Bool.and_eq_true, decide_eq_true_eq, r0])
    all_goals first | done | ((repeat' split) <;> omega)
  · rw [if_neg r0] at fnp fpn
    have EV := quo_even_of (a := m) (b := n) (q := s) (x := r) (X := r) (B := n) fpp (by rw [← ht]; omega) (by omega) A4
    cases d
    case even =>
      rw [EV]; clear EV
      simp only [qup, A3, A4, da, db, tt, tf, ft, ff, T1, T2, if_false, if_true, Bool.or_eq_true, Bool.and_eq_true, decide_eq_true_eq, fmod2, r0]
      first | done | ((repeat' split) <;> omega)
    all_goals (clear EV; simp only [quo, qup, fpp, fnn, fpn, fnp, Int.neg_neg, A3, A4, da, db, tt, tf, ft, ff, T1, T2, Bool.not_false, Bool.not_true, if_false, if_true, Bool.or_eq_true, Bool.and_eq_true, decide_eq_true_eq, r0])
    all_goals first | done | ((repeat' split) <;> omega)
theorem quoS_eq (d : Dv) (a b : Int) (hb : b ≠ 0) : quoS d a b = quo d a b := by
  by_cases ha : a < 0 <;> by_cases hb2 : b < 0
  · have h := core_nn d (-a) (-b) (by omega) (by omega) (by omega)
    rw [Int.neg_neg, Int.neg_neg] at h; exact h
  · have h := core_np d (-a) b (by omega) (by omega) (by omega)
    rw [Int.neg_neg] at h; exact h
  · have h := core_pn d a (-b) (by omega) (by omega)
    rw [Int.neg_neg] at h; exact h
  · exact core_pp d a b (by omega) (by omega)
end WM

set_option maxHeartbeats 4000000
/-! A layer of short words for pure defs over the hand layer. -/
namespace WL
open PySem PySem.Spec PyProof.Rows L2 Evl WM

/-! ### statements told at the entry's heap -/
def Bl (t : TS) (D : Ends) (s : L2.St) (H : Hp) : Prop := ∀ H1, Ex H H1 → t D s H1
section
variable {K : PySem.W.Frag} {s : L2.St} {H H' : Hp} {ta tb te tx : TE} {t u : TT} {x y z v : V} {r : R2} {D : Ends} {tu tw tz : TS}
theorem bl_go (h : Bl tz D s H) : tz D s H := h H (Ex.refl H)
theorem bl_mono (e : Ex H H') (h : Bl tz D s H) : Bl tz D s H' := fun H1 e1 => h H1 (e.trans e1)
theorem bl_seq (h : Bl tu { D with nx := fun s' H' => tw D s' H' } s H) : Bl (tSeq tu tw) D s H := h
theorem bl_set {i : Nat} (h : Ev te s H v) (k : Bl tz D (s.set i (some v)) H) : Bl (tSeq (tAsg te (gName i)) tz) D s H :=
  fun H1 e => q_asg (h.mono e) fun H2 e2 => k H2 (e.trans e2)
theorem bl_setU {i : Nat} {xs : List V} (h : EvU te s H xs) (k : ∀ p H1, H p = none → Ex H H1 → H1 p = some (.tup xs) → Bl tz D (s.set i (some (.ref p))) H1) : Bl (tSeq (tAsg te (gName i)) tz) D s H :=
  fun H1 e => q_asgU (fun H2 e2 => h H2 (e.trans e2)) fun p H2 hp e2 hx => k p H2 (fresh_back e hp) (e.trans e2) hx H2 (Ex.refl H2)
theorem bl_setL {i : Nat} {xs : List V} (h : EvL te s H xs) (k : ∀ p H1, H p = none → Ex H H1 → H1 p = some (.lst xs) → Bl tz D (s.set i (some (.ref p))) H1) : Bl (tSeq (tAsg te (gName i)) tz) D s H :=
  fun H1 e => q_asgL (fun H2 e2 => h H2 (e.trans e2)) fun p H2 hp e2 hx => k p H2 (fresh_back e hp) (e.trans e2) hx H2 (Ex.refl H2)
theorem bl_drop (h : Ev te s H v) (k : Bl tz D s H) : Bl (tSeq (tDrop te) tz) D s H :=
  fun H1 e => q_drop (h.mono e) fun H2 e2 => k H2 (e.trans e2)
theorem bl_par {i j : Nat} {ta : TA} {a b : V} (h : EvA ta s H [a, b]) (k : Bl tz D ((s.set i (some a)).set j (some b)) H) : Bl (tSeq (tPar i j ta) tz) D s H :=
  fun H1 e => h H1 e _ fun H2 e2 => ⟨a, b, rfl, k H2 (e.trans e2)⟩
theorem bl_if {b : Bool} (h : EvT t s H b) (h1 : b = true → Bl tu { D with nx := fun s' H' => tz D s' H' } s H) (h2 : b = false → Bl tw { D with nx := fun s' H' => tz D s' H' } s H) : Bl (tSeq (tIfS t tu tw) tz) D s H :=
  fun H1 e => q_if (h := fun H2 e2 => h H2 (e.trans e2)) (fun hb H2 e2 => h1 hb H2 (e.trans e2)) (fun hb H2 e2 => h2 hb H2 (e.trans e2))
/-- an if without else -/
theorem bl_when {b : Bool} (h : EvT t s H b) (h1 : b = true → Bl tu { D with nx := fun s' H' => tz D s' H' } s H) (h2 : b = false → Bl tz D s H) : Bl (tSeq (tIfS t tu tNext) tz) D s H :=
  bl_if h h1 fun hb => h2 hb
theorem bl_ifLast {b : Bool} (h : EvT t s H b) (h1 : b = true → Bl tu D s H) (h2 : b = false → Bl tw D s H) : Bl (tIfS t tu tw) D s H :=
  fun H1 e => s_if (h := fun H2 e2 => h H2 (e.trans e2)) (fun hb H2 e2 => h1 hb H2 (e.trans e2)) (fun hb H2 e2 => h2 hb H2 (e.trans e2))
theorem bl_ret (h : Ev te s H v) (k : RetV v H D.rt) : Bl (tRet te) D s H := fun H1 e => s_ret (h.mono e) fun H2 e2 => k H2 (e.trans e2)
theorem bl_retE {w' : V} (h : Ev te s H v) (k : RetV w' H D.rt) (e : v = w') : Bl (tRet te) D s H := bl_ret h (by rw [e]; exact k)
def RetU (xs : List V) (H : Hp) (Q : VK) : Prop := ∀ p H2, H p = none → Ex H H2 → H2 p = some (.tup xs) → Q (.ref p) H2
theorem bl_retU {xs : List V} (h : EvU te s H xs) (k : RetU xs H D.rt) : Bl (tRet te) D s H :=
  fun H1 e => s_retU (fun H2 e2 => h H2 (e.trans e2)) fun p H2 hp e2 hx => k p H2 (fresh_back e hp) (e.trans e2) hx
theorem bl_retL {xs : List V} (h : EvL te s H xs) (k : RetL xs H D.rt) : Bl (tRet te) D s H :=
  fun H1 e => s_retL (fun H2 e2 => h H2 (e.trans e2)) fun p H2 hp e2 hx => k p H2 (fresh_back e hp) (e.trans e2) hx
theorem bl_next (k : ∀ H1, Ex H H1 → D.nx s H1) : Bl tNext D s H := k
theorem bl_raise {E : XK} {cls : Value} (k : ∀ H1, Ex H H1 → E cls none H1) : Bl (fun _ _ H => E cls none H) D s H := k

/-! ### expressions -/
theorem evt_mono {b : Bool} (e : Ex H H') (h : EvT t s H b) : EvT t s H' b := h.mono e
theorem ev_ifB {b : Bool} (h : EvT t s H b) (h1 : b = true → Ev ta s H x) (h2 : b = false → Ev tb s H y) : Ev (tIf t ta tb) s H (if b then x else y) := by
  cases b with
  | true => exact ev_if h (fun _ => h1 rfl) (fun z => by cases z)
  | false => exact ev_if h (fun z => by cases z) (fun _ => h2 rfl)
theorem et_test' {b : Bool} (h : Ev te s H (.bl b)) : EvT (tTest te) s H b := et_test h
/-- a op b op c, both of ints -/
theorem ev_chainI {p q : Int → Int → Bool} {i j k : Int} {tc : TE} (ha : Ev ta s H (.int i)) (hb : Ev tb s H (.int j)) (hc : Ev tc s H (.int k)) :
    Ev (tChain (rI0 fun i j => .bl (p i j)) (rI0 fun i j => .bl (q i j)) ta tb tc) s H (.bl (p i j && q j k)) := fun H1 e Q k1 =>
  ha H1 e _ fun H2 e2 => hb H2 (e.trans e2) _ fun H3 e3 => ⟨i, j, rfl, rfl, p i j, rfl, by
    cases hp : p i j with
    | true =>
      show tc s H3 _
      exact hc H3 ((e.trans e2).trans e3) _ fun H4 e4 => ⟨j, k, rfl, rfl, by
        have z := k1 H4 ((e2.trans e3).trans e4)
        rw [hp, Bool.true_and] at z
        exact z⟩
    | false =>
      show Q (.bl false) H3
      have z := k1 H3 (e2.trans e3)
      rw [hp, Bool.false_and] at z
      exact z⟩
theorem ev_cbR {r : List V → Hp → VK → Prop} {ta : TA} {vs : List V} (h : EvA ta s H vs) (hr : RC r vs H z) : Ev (tCB r ta) s H z := ev_cb h hr
theorem rc_abs {i : Int} : RC (fun xs H Q => ∃ i, xs = [.int i] ∧ Q (.int (if i < 0 then -i else i)) H) [.int i] H (.int (i.natAbs : Int)) := fun H1 _ Q q => ⟨i, rfl, by
  have e : (if i < 0 then -i else i) = (i.natAbs : Int) := by split <;> omega
  rw [e]; exact q H1 (Ex.refl H1)⟩
theorem rc_max2 {i j : Int} : RC (fun xs H Q => ∃ i j, xs = [.int i, .int j] ∧ Q (.int (if j > i then j else i)) H) [.int i, .int j] H (.int (if j > i then j else i)) := fun H1 _ Q q => ⟨i, j, rfl, q H1 (Ex.refl H1)⟩
theorem rc_min2 {i j : Int} : RC (fun xs H Q => ∃ i j, xs = [.int i, .int j] ∧ Q (.int (if j < i then j else i)) H) [.int i, .int j] H (.int (if j < i then j else i)) := fun H1 _ Q q => ⟨i, j, rfl, q H1 (Ex.refl H1)⟩
theorem rc_int {i : Int} : RC (fun xs H Q => (∃ i, xs = [.int i] ∧ Q (.int i) H) ∨ ∃ k, xs = [.bl k] ∧ Q (.int (if k then 1 else 0)) H) [.int i] H (.int i) := fun H1 _ Q q => .inl ⟨i, rfl, q H1 (Ex.refl H1)⟩
theorem rc_intB {k : Bool} : RC (fun xs H Q => (∃ i, xs = [.int i] ∧ Q (.int i) H) ∨ ∃ k, xs = [.bl k] ∧ Q (.int (if k then 1 else 0)) H) [.bl k] H (.int (if k then 1 else 0)) := fun H1 _ Q q => .inr ⟨k, rfl, q H1 (Ex.refl H1)⟩
theorem rc_isi {x c : V} {t u : Value} {b : Bool} (k : ClsV c u) (ty : ∀ H1, Ex H H1 → TyX K H1 x t) (e : PySem.W.kitOne K t u = some b) : RC (rIsi K) [x, c] H (.bl b) := fun H1 e1 Q q => ⟨x, c, t, u, b, rfl, k, ty H1 e1, e, q H1 (Ex.refl H1)⟩
/-- isinstance(x, (c1, c2)), the tuple made on the way -/
theorem ev_isiT {ta : TE} {tt : TA} {x : V} {cs : List V} {us : List Value} {tv : Value} {b : Bool} (ha : Ev ta s H x) (ht : EvA tt s H cs) (hl : cs.length ≤ 100000) (k : Paired ClsV cs us) (ty : ∀ H1, Ex H H1 → TyX K H1 x tv) (e : PySem.W.kitAny K tv us = some b) :
    Ev (tCB (rIsiT K) (tCons ta (tCons (tTup tt) tNil))) s H (.bl b) := fun H1 e1 Q q =>
  ha H1 e1 _ fun H2 e2 => ht H2 (e1.trans e2) _ fun H3 e3 => ⟨sz_of hl, fun p hp => ⟨x, p, cs, tv, us, b, rfl, upd_same, k, ty _ (((e1.trans e2).trans e3).trans (Ex.new hp)), e, q _ ((e2.trans e3).trans (Ex.new hp))⟩⟩

/-! ### a written dict asked at once -/
def EvP (tr : (TE × TE)) (s : L2.St) (H : Hp) (kv : Key × V) : Prop := Ev tr.1 s H (kV kv.1) ∧ Ev tr.2 s H kv.2
theorem pairs_ev {s : L2.St} {H : Hp} : ∀ {trs : List (TE × TE)} {kvs : List (Key × V)}, Paired (fun a b => EvP a s H b) trs kvs → ∀ H1, Ex H H1 → ∀ Q : List (V × V) → Hp → Prop, (∀ H2, Ex H1 H2 → Q (kvs.map fun kv => (kV kv.1, kv.2)) H2) → tPairs trs s H1 Q
  | _, _, .nil, H1, _, _, q => q H1 (Ex.refl H1)
  | _, _, .cons a r, H1, e, Q, q => a.1 H1 e _ fun H2 e2 => a.2 H2 (e.trans e2) _ fun H3 e3 => pairs_ev r H3 ((e.trans e2).trans e3) _ fun H4 e4 => q H4 ((e2.trans e3).trans e4)
theorem ev_dd {trs : List (TE × TE)} {ty : TE} {kvs : List (Key × V)} {k : Key} {v : V} (h : Paired (fun a b => EvP a s H b) trs kvs) (hl : kvs.length ≤ 15) (hk : Ev ty s H (kV k)) (hv : valV (mergeK [] kvs) k = some v) :
    Ev (tDGet (tDisp trs) ty) s H v := fun H1 e Q q p hp => by
  refine pairs_ev h (upd H1 p (.dK [])) (e.trans (Ex.new hp)) _ fun H2 e2 => ?_
  refine ⟨e2 p _ upd_same, kvs, rfl, hl, ?_⟩
  have e3 : Ex H1 (upd H2 p (.dK (mergeK [] kvs))) := fun a o ha => by
    rw [upd_ne (ne_of_none ha hp)]
    exact e2 a o (by rw [upd_ne (ne_of_none ha hp)]; exact ha)
  refine hk _ (e.trans e3) _ fun H3 e4 => ?_
  refine ⟨p, v, rfl, ?_, q H3 (e3.trans e4)⟩
  rw [← hv]
  exact DGet.k (e4 p _ upd_same)
/-! ### operators of any size -/
def CDivB (_ j : Int) : Prop := j ≠ 0 ∧ j.natAbs.log2 < 9000
theorem op_fdivB {X : Cx} : OpR X (binaryOp .FloorDiv) (rI CDivB fun i j => .int (i.fdiv j)) := opI fun _ _ _ _ _ _ _ hc q => PyProof.Rows.floordiv_int hc.1 q (.inl (PyProof.noPylong_of_log2 hc.2))
theorem log2_of {n b : Nat} (h : n < 2 ^ b) (h0 : 0 < b) : n.log2 < b := PySem.Flt.log2_lt_of h0 h
theorem divB_of {i j : Int} (h : j ≠ 0) (hb : j.natAbs < 2 ^ 200) : CDivB i j := ⟨h, Nat.lt_of_lt_of_le (log2_of hb (by decide)) (by decide)⟩
theorem mulW_of {i j : Int} (ha : i.natAbs < 2 ^ 255) (hb : j.natAbs < 2 ^ 255) : CMulW i j := wide_mul ha hb (by decide) (by decide) (by decide)

/-! ### calls of own defs -/
/-- the def x is called by its name and keeps the promise -/
def Cal (P : Program) (w : World) (K : PySem.W.Frag) (mg : Str → Option Value) (base : Heap) (CX : CXT) (k : Nat) (x : Str) (ps : List Str) (sp : Sp) : Prop :=
  ∃ (f : Addr) (fd : FuncData), FnOk P w K mg base CX k f fd ps sp ∧ mg x = some (.ref f) ∧ PySem.W.keepIn K (.ref f) = true ∧ Binds K fd ps []
/-- where the def of the statement st stands -/
structure DefAt (K : PySem.W.Frag) (mg : Str → Option Value) (x : Str) (st : Stmt) : Prop where
  ex : ∃ (f : Addr) (fd : FuncData), FunD K x x (defArgs st) (defBody st) (defScope st) [] [] f fd ∧ mg x = some (.ref f)
section
variable {P : Program} {w : World} {K : PySem.W.Frag} {mg : Str → Option Value} {base : Heap} {CX : CXT} {X : Cx} {k : Nat} {sp : Sp} {ps : List Str}
theorem pe_own {x : Str} {E : XK} {e : Expr} {es : List Expr} {t : TA} {p pos : Pos} (C : Cal X.prog X.w X.K X.mg X.base CX k x ps sp) (hr : Room k X.A) (hg : Gl X x) (hx : Passes CX X E)
    (ha : PA X (e :: es) t) (hdb : (x == ("__debug__" : Str)) = false := by decide) (he : starEach (e :: es) X.env = (false, eval e X.env) :: starEach es X.env := by rfl) (hpl : (backTo pos (starEach es X.env)).any (·.1) = false := by rfl) :
    PE X (.Call (.Name x p) (e :: es) [] pos) (tCall sp [] E t) := by
  obtain ⟨f, fd, F, hm, hk, hb⟩ := C
  exact pe_call F hr hg hm hk hb .nil hx ha hdb he hpl
theorem pe_own0 {x : Str} {E : XK} {p pos : Pos} (C : Cal X.prog X.w X.K X.mg X.base CX k x ps sp) (hr : Room k X.A) (hg : Gl X x) (hx : Passes CX X E)
    (hdb : (x == ("__debug__" : Str)) = false := by decide) :
    PE X (.Call (.Name x p) [] [] pos) (tCall sp [] E tNil) := by
  obtain ⟨f, fd, F, hm, hk, hb⟩ := C
  exact pe_call0 F hr hg hm hk hb .nil hx hdb
theorem Cal.mono {x : Str} {j : Nat} (C : Cal P w K mg base CX j x ps sp) (h : j ≤ k) : Cal P w K mg base CX k x ps sp := by
  obtain ⟨f, fd, F, r⟩ := C
  exact ⟨f, fd, F.mono h, r⟩
theorem DefAt.cal {x : Str} {st : Stmt} {N : List Str} (D : DefAt K mg x st) (S : FnScope N ps (defScope st)) (len : ∀ vs H Q E, sp vs H Q E → vs.length = ps.length)
    (hb : ∀ (kV doc pm : Value) (an : Option Addr) (cdv ct : Value) (us : List Value), us.length = ps.length → bindArgs (PySem.W.fnOf x x (defArgs st) (defBody st) (defScope st) .none kV doc pm an cdv ct) ⟨us, []⟩ = pure (ps.zip us))
    (hbody : ∀ (f : Addr) (cdv : Value) (A : Around) (outer : List Env) (s : Shared) (H : Hp) (vs : List V) (Q : VK) (E : XK), Room k (A.deeper (envOfC x (defScope st) s.heap.objs.size f cdv)) → sp vs H Q E →
      ∃ t, PSs (cxOf CX0 P w K mg base N x (defScope st) f cdv A outer s H E).nox (defBody st) t ∧ t { nx := fun _ H' => Q .non H', rt := Q } (start N vs) H) : Cal P w K mg base CX0 (k + 1) x ps sp := by
  obtain ⟨f, fd, F, hm⟩ := D.ex
  refine ⟨f, fd, F.ok S len fun cdv A outer s H vs Q E hr hs => ?_, hm, F.kp, F.bindsN hb⟩
  obtain ⟨t, ht, q⟩ := hbody f cdv A outer s H vs Q E hr hs
  exact ⟨t, ht.nox, q⟩
/-- the same for a def that may raise -/
theorem DefAt.calX {x : Str} {st : Stmt} {N : List Str} (D : DefAt K mg x st) (S : FnScope N ps (defScope st)) (len : ∀ vs H Q E, sp vs H Q E → vs.length = ps.length)
    (hb : ∀ (kV doc pm : Value) (an : Option Addr) (cdv ct : Value) (us : List Value), us.length = ps.length → bindArgs (PySem.W.fnOf x x (defArgs st) (defBody st) (defScope st) .none kV doc pm an cdv ct) ⟨us, []⟩ = pure (ps.zip us))
    (hbody : ∀ (f : Addr) (cdv : Value) (A : Around) (outer : List Env) (s : Shared) (H : Hp) (vs : List V) (Q : VK) (E : XK), Room k (A.deeper (envOfC x (defScope st) s.heap.objs.size f cdv)) → sp vs H Q E →
      ∃ t, PSs (cxOf (L2.CX P w) P w K mg base N x (defScope st) f cdv A outer s H E) (defBody st) t ∧ t { nx := fun _ H' => Q .non H', rt := Q } (start N vs) H) : Cal P w K mg base (L2.CX P w) (k + 1) x ps sp := by
  obtain ⟨f, fd, F, hm⟩ := D.ex
  exact ⟨f, fd, F.ok S len fun cdv A outer s H vs Q E hr hs => hbody f cdv A outer s H vs Q E hr hs, hm, F.kp, F.bindsN hb⟩
end
/-- a def that gives a value -/
def Pu (R : List V → Hp → V → Prop) : Sp := fun vs H Q _ => ∃ v, R vs H v ∧ RetV v H Q
/-- a def that gives a new tuple -/
def PuT (R : List V → Hp → List V → Prop) : Sp := fun vs H Q _ => ∃ xs, R vs H xs ∧ RetU xs H Q
/-- a new list -/
def PuL (R : List V → Hp → List V → Prop) : Sp := fun vs H Q _ => ∃ xs, R vs H xs ∧ RetL xs H Q
theorem sv_pu {R : List V → Hp → V → Prop} {vs : List V} (h : ∀ H1, Ex H H1 → R vs H1 v) : SpV (Pu R) vs H v := fun H1 e _ q _ => ⟨v, h H1 e, q⟩
theorem ev_own {R : List V → Hp → V → Prop} {E : XK} {ta : TA} {vs : List V} (ha : EvA ta s H vs) (h : ∀ H1, Ex H H1 → R vs H1 v) : Ev (tCall (Pu R) [] E ta) s H v :=
  ev_call ha (by rw [List.append_nil]; exact sv_pu h)
theorem eu_own {R : List V → Hp → List V → Prop} {E : XK} {ta : TA} {vs xs : List V} (ha : EvA ta s H vs) (h : ∀ H1, Ex H H1 → R vs H1 xs) : EvU (tCall (PuT R) [] E ta) s H xs := fun H1 e Q q =>
  ha H1 e _ fun H2 e2 => by
    rw [List.append_nil]
    exact ⟨xs, h H2 (e.trans e2), fun p H3 hp e3 h3 => q p H3 (fresh_back e2 hp) (e2.trans e3) h3⟩
theorem el_own {R : List V → Hp → List V → Prop} {E : XK} {ta : TA} {vs xs : List V} (ha : EvA ta s H vs) (h : ∀ H1, Ex H H1 → R vs H1 xs) : EvL (tCall (PuL R) [] E ta) s H xs := fun H1 e Q q =>
  ha H1 e _ fun H2 e2 => by
    rw [List.append_nil]
    exact ⟨xs, h H2 (e.trans e2), fun p H3 hp e3 h3 => q p H3 (fresh_back e2 hp) (e2.trans e3) h3⟩
end

/-! ### formats as values -/
def sgS : Sg → Str | .sym => "symmetric" | .twos => "twos" | .uns => "unsigned"
def ovS : Ov → Str | .sat => "saturate" | .trap => "trap" | .wrap => "wrap"
def dvS : Dv → Str | .ceil => "ceiling" | .euc => "euclid" | .even => "even" | .floor => "floor" | .zero => "zero"
def fV (f : Fmt) : List V := [.int f.w, .str (sgS f.sg), .str (ovS f.ov), .str (dvS f.dv)]
def FmtAt (K : PySem.W.Frag) (H : Hp) (v : V) (f : Fmt) : Prop := ∃ p, v = .ref p ∧ SqT K H p (fV f)
theorem FmtAt.ex {K : PySem.W.Frag} {H H' : Hp} {v : V} {f : Fmt} (h : FmtAt K H v f) (e : Ex H H') : FmtAt K H' v f := by
  obtain ⟨p, e1, h⟩ := h
  exact ⟨p, e1, ex_t e h⟩
def rv : Option Int → V | some i => .int i | none => .str "trap"
end WL
namespace WL
open PySem PySem.Spec PyProof.Rows L2 Evl WM
section
variable {X : Cx}
theorem pe_globI {x : Str} {i : Int} {pos : Pos} (hg : Gl X x) (hm : ∃ t, X.mg x = some (.int i t)) (hd : (x == ("__debug__" : Str)) = false := by decide) : PE X (.Name x pos) (tC (.int i)) := by
  obtain ⟨t, hm⟩ := hm
  exact pe_glob hg hm ⟨_, rfl⟩ hd
end
end WL
namespace WL
open PySem PySem.Spec PyProof.Rows L2 Evl WM
section
variable {K : PySem.W.Frag} {s : L2.St} {H H' : Hp} {ta tb te tx : TE} {t u : TT} {x y z v : V} {D : Ends} {tu tw tz : TS}
theorem tyx_T {p : Addr} {xs : List V} (h : SqT K H p xs) : TyX K H (.ref p) (.type "tuple") := by
  rcases h with (h | ⟨o, h⟩) | ⟨o, its, n, h1, h2, _⟩
  · exact .base (.tup h)
  · exact .fTuple h
  · exact .kTuple h1 h2
theorem tyx_L {p : Addr} {xs : List V} (h : SqL K H p xs) : TyX K H (.ref p) (.type "list") := by
  rcases h with (h | ⟨o, h⟩) | ⟨o, its, n, h1, h2, _⟩
  · exact .base (.lst h)
  · exact .base (.frz h)
  · exact .kList h1 h2
theorem rc_isi_int {i : Int} {n : String} {b : Bool} (h : kitB "int" n = some b) : RC (rIsi K) [.int i, .ty n] H (.bl b) := rc_isi (.ty n) (fun _ _ => .base (.int i)) (kit_ty h)
theorem rc_isi_bl {i : Bool} {n : String} {b : Bool} (h : kitB "bool" n = some b) : RC (rIsi K) [.bl i, .ty n] H (.bl b) := rc_isi (.ty n) (fun _ _ => .base (.bl i)) (kit_ty h)
theorem rc_isi_str {i : Str} {n : String} {b : Bool} (h : kitB "str" n = some b) : RC (rIsi K) [.str i, .ty n] H (.bl b) := rc_isi (.ty n) (fun _ _ => .base (.str i)) (kit_ty h)
theorem rc_isi_non {n : String} {b : Bool} (h : kitB "NoneType" n = some b) : RC (rIsi K) [.non, .ty n] H (.bl b) := rc_isi (.ty n) (fun _ _ => .base .non) (kit_ty h)
theorem rc_isi_T {p : Addr} {xs : List V} {n : String} {b : Bool} (hx : SqT K H p xs) (h : kitB "tuple" n = some b) : RC (rIsi K) [.ref p, .ty n] H (.bl b) := rc_isi (.ty n) (fun _ e => tyx_T (ex_t e hx)) (kit_ty h)
theorem rc_isi_L {p : Addr} {xs : List V} {n : String} {b : Bool} (hx : SqL K H p xs) (h : kitB "list" n = some b) : RC (rIsi K) [.ref p, .ty n] H (.bl b) := rc_isi (.ty n) (fun _ e => tyx_L (ex_l e hx)) (kit_ty h)
theorem rc_lenL {p : Addr} {xs : List V} (h : SqL K H p xs) : RC (fun xs H Q => ∃ p ys, xs = [.ref p] ∧ (SqL K H p ys ∨ SqT K H p ys) ∧ Q (.int ys.length) H) [.ref p] H (.int (xs.length : Int)) := fun H1 e _ q => ⟨p, xs, rfl, .inl (ex_l e h), q H1 (Ex.refl H1)⟩
theorem rc_lenT {p : Addr} {xs : List V} (h : SqT K H p xs) : RC (fun xs H Q => ∃ p ys, xs = [.ref p] ∧ (SqL K H p ys ∨ SqT K H p ys) ∧ Q (.int ys.length) H) [.ref p] H (.int (xs.length : Int)) := fun H1 e _ q => ⟨p, xs, rfl, .inr (ex_t e h), q H1 (Ex.refl H1)⟩
theorem bl_unp4 {n i j k l : Nat} {p : Addr} {a b c d : V} (h : Ev te s H (.ref p)) (hx : SqT K H p [a, b, c, d]) (hn : 4 = n) (kk : Bl tz D ((((s.set i (some a)).set j (some b)).set k (some c)).set l (some d)) H) :
    Bl (tSeq (tAsg te (gTup K n (gCons (gName i) (gCons (gName j) (gCons (gName k) (gCons (gName l) gNil)))))) tz) D s H := fun H1 e =>
  h H1 e _ fun H2 e2 => ⟨p, [a, b, c, d], rfl, ex_t (e.trans e2) hx, hn, _, _, rfl, _, _, rfl, _, _, rfl, _, _, rfl, rfl, kk H2 (e.trans e2)⟩
end
end WL
namespace WL
open PySem PySem.Spec PyProof.Rows L2 Evl WM
/-! ### small facts of values -/
theorem in_sg (sg : Sg) : inV (.str (sgS sg)) [.str "symmetric", .str "twos", .str "unsigned"] = true := by cases sg <;> decide +kernel
theorem in_ov (ov : Ov) : inV (.str (ovS ov)) [.str "saturate", .str "trap", .str "wrap"] = true := by cases ov <;> decide +kernel
theorem in_dv (dv : Dv) : inV (.str (dvS dv)) [.str "ceiling", .str "euclid", .str "even", .str "floor", .str "zero"] = true := by cases dv <;> decide +kernel
theorem shl_w {w : Nat} : (1 : Int) * 2 ^ ((w : Int)).toNat = p2 w := by
  rw [Int.one_mul, Int.toNat_natCast]; rfl
theorem shl_w1 {w : Nat} : (1 : Int) * 2 ^ ((w : Int) - 1).toNat = p2 (w - 1) := by
  rw [Int.one_mul, show ((w : Int) - 1).toNat = w - 1 by omega]; rfl
theorem shl_wi {w i : Nat} (h : i ≤ 1) : (1 : Int) * 2 ^ ((w : Int) - (i : Int)).toNat = p2 (w - i) := by
  rw [Int.one_mul, show ((w : Int) - (i : Int)).toNat = w - i by omega]; rfl
theorem fits_iff {f : Fmt} {e : Int} {b : Bool} (h : (decide (lo f ≤ e) && decide (e ≤ hi f)) = b) : fits f e ↔ b = true := by
  subst h
  rw [Bool.and_eq_true, decide_eq_true_eq, decide_eq_true_eq]
  exact Iff.rfl
theorem fit_yes {f : Fmt} {e : Int} (h : (decide (lo f ≤ e) && decide (e ≤ hi f)) = true) : V.int e = rv (fitR f e) := by
  rw [fitR_in ((fits_iff h).mpr rfl)]; rfl
theorem not_fits {f : Fmt} {e : Int} (h : (decide (lo f ≤ e) && decide (e ≤ hi f)) = false) : ¬ fits f e := fun z => by
  have := (fits_iff h).mp z
  cases this
theorem fit_wrap {f : Fmt} {e : Int} (h : ¬ fits f e) (ho : f.ov = .wrap) : V.int (lo f + (e - lo f).fmod (many f)) = rv (fitR f e) := by
  unfold fitR
  rw [if_neg h, ho]; rfl
theorem fit_sat {f : Fmt} {e : Int} (h : ¬ fits f e) (ho : f.ov = .sat) : (if decide (e < lo f) = true then V.int (lo f) else V.int (hi f)) = rv (fitR f e) := by
  unfold fitR
  rw [if_neg h, ho]
  simp only [decide_eq_true_eq]
  split <;> rfl
theorem fit_trap {f : Fmt} {e : Int} (h : ¬ fits f e) (ho : f.ov = .trap) : V.str "trap" = rv (fitR f e) := by
  unfold fitR
  rw [if_neg h, ho]; rfl
theorem fit_minmax {f : Fmt} {e : Int} (h : ¬ fits f e) (ho : f.ov = .sat) : V.int (if hi f < (if e > lo f then e else lo f) then hi f else (if e > lo f then e else lo f)) = rv (fitR f e) := by
  rw [← fit_sat h ho]
  have F := facts f
  unfold fits at h
  simp only [decide_eq_true_eq]
  by_cases h1 : e < lo f
  · rw [if_pos h1, if_neg (show ¬ e > lo f by omega), if_neg (by omega)]
  · rw [if_neg h1]
    by_cases h2 : e > lo f
    · rw [if_pos h2, if_pos (by omega)]
    · exfalso; omega
theorem fit_found {f : Fmt} {e x k : Int} (h : ¬ fits f e) (ho : f.ov = .wrap) (hx : x = e + many f * k) (h1 : lo f ≤ x) (h2 : x ≤ hi f) : V.int x = rv (fitR f e) := by
  rw [← fit_wrap h ho]
  have F := facts f
  have e1 : e - lo f = (x - lo f) + many f * (-k) := by rw [hx, Int.mul_neg]; omega
  rw [e1, Int.add_mul_fmod_self_left, Int.fmod_eq_of_lt (by omega) (by omega)]
  congr 1; omega
/-- how many steps are left -/
def dist (f : Fmt) (x : Int) : Nat := if x < lo f then ((lo f - x) / many f).toNat + 1 else if x > hi f then ((x - hi f) / many f).toNat + 1 else 0
theorem div_sub_one {a m : Int} (hm : 0 < m) (ha : m ≤ a) : (a - m) / m = a / m - 1 := by
  have := Int.sub_ediv_of_dvd a (c := m) ⟨1, by omega⟩ (b := m)
  rw [this, Int.ediv_self (by omega)]
theorem dist_up {f : Fmt} {x : Int} (h : x < lo f) : dist f (x + many f) < dist f x := by
  have F := facts f
  unfold dist
  rw [if_pos h]
  by_cases h1 : x + many f < lo f
  · rw [if_pos h1]
    have e := div_sub_one (a := lo f - x) (m := many f) (by omega) (by omega)
    have e2 : lo f - (x + many f) = lo f - x - many f := by omega
    rw [e2, e]
    have h3 : 1 ≤ (lo f - x) / many f := by
      have := Int.ediv_le_ediv (c := many f) (by omega) (show many f ≤ lo f - x by omega)
      rw [Int.ediv_self (by omega)] at this
      exact this
    omega
  · rw [if_neg h1, if_neg (by omega)]
    omega
theorem dist_down {f : Fmt} {x : Int} (h0 : ¬ x < lo f) (h : x > hi f) : dist f (x - many f) < dist f x := by
  have F := facts f
  unfold dist
  rw [if_neg h0, if_pos h]
  rw [if_neg (show ¬ x - many f < lo f by omega)]
  by_cases h1 : x - many f > hi f
  · rw [if_pos h1]
    have e := div_sub_one (a := x - hi f) (m := many f) (by omega) (by omega)
    have e2 : x - many f - hi f = x - hi f - many f := by omega
    rw [e2, e]
    have h3 : 1 ≤ (x - hi f) / many f := by
      have := Int.ediv_le_ediv (c := many f) (by omega) (show many f ≤ x - hi f by omega)
      rw [Int.ediv_self (by omega)] at this
      exact this
    omega
  · rw [if_neg h1]
    omega
/-! ### sizes -/
theorem nat64 {f : Fmt} {a : Int} (h : fits f a) : a.natAbs < 2 ^ 66 := by
  have F := facts f
  unfold fits at h
  omega
theorem natM {f : Fmt} : (many f).natAbs < 2 ^ 66 := by
  have F := facts f
  omega
theorem manyNe {f : Fmt} : many f ≠ 0 := by
  have F := facts f
  omega
theorem natAbs_fdiv (a b : Int) : (a.fdiv b).natAbs ≤ a.natAbs := Int.natAbs_fdiv_le_natAbs a b
theorem quo_abs (d : Dv) (a b : Int) : (quo d a b).natAbs ≤ a.natAbs + 1 := by
  have h1 := natAbs_fdiv a b
  have h2 := natAbs_fdiv (-a) b
  have h3 := natAbs_fdiv (a.natAbs : Int) (b.natAbs : Int)
  have h4 := natAbs_fdiv a (-b)
  cases d <;> simp only [quo] <;> (repeat' split) <;> omega
theorem nat_mul {a b : Int} {m n : Nat} (ha : a.natAbs < 2 ^ m) (hb : b.natAbs < 2 ^ n) : (a * b).natAbs < 2 ^ (m + n) := wide_lt ha hb
theorem nat_mono {a : Nat} {m n : Nat} (h : a < 2 ^ m) (hmn : m ≤ n) : a < 2 ^ n := Nat.lt_of_lt_of_le h (Nat.pow_le_pow_right (by decide) hmn)
end WL
namespace WL
open PySem PySem.Spec PyProof.Rows L2 Evl WM
def Sm (a : Int) : Prop := a.natAbs < 2 ^ 70
def Bg (a : Int) : Prop := a.natAbs < 2 ^ 250
theorem Sm.bg {a : Int} (h : Sm a) : Bg a := nat_mono h (by decide)
theorem sm_fits {f : Fmt} {a : Int} (h : fits f a) : Sm a := nat_mono (nat64 h) (by decide)
theorem sm_many {f : Fmt} : Sm (many f) := nat_mono natM (by decide)
theorem bg_mul {a b : Int} (ha : Bg a) (hb : Bg b) : CMulW a b := mulW_of (nat_mono ha (by decide)) (nat_mono hb (by decide))
theorem sm_mul {a b : Int} (ha : Sm a) (hb : Sm b) : CMulW a b := bg_mul ha.bg hb.bg
theorem sm_div {a b : Int} (hb : Sm b) (h0 : b ≠ 0) : CDivB a b := divB_of h0 (nat_mono hb (by decide))
theorem sm_abs {a : Int} (h : Sm a) : Sm (a.natAbs : Int) := by unfold Sm; rw [Int.natAbs_natCast]; exact h
theorem bg_abs {a : Int} (h : Bg a) : Bg (a.natAbs : Int) := by unfold Bg; rw [Int.natAbs_natCast]; exact h
theorem sm_neg {a : Int} (h : Sm a) : Sm (-a) := by unfold Sm; rw [Int.natAbs_neg]; exact h
theorem bg_neg {a : Int} (h : Bg a) : Bg (-a) := by unfold Bg; rw [Int.natAbs_neg]; exact h
theorem bg_of {a b : Int} {c : Nat} (ha : Bg a) (h : b.natAbs ≤ a.natAbs + c) (hc : c ≤ 2 ^ 100) (hs : Sm a) : Bg b := by
  unfold Bg Sm at *
  have h1 : 2 ^ 70 + 2 ^ 100 < 2 ^ 250 := by decide
  exact Nat.lt_of_le_of_lt h (by omega)
theorem bg_fdiv {a b : Int} (h : Bg a) : Bg (a.fdiv b) := Nat.lt_of_le_of_lt (natAbs_fdiv a b) h
theorem sm_fdiv {a b : Int} (h : Sm a) : Sm (a.fdiv b) := Nat.lt_of_le_of_lt (natAbs_fdiv a b) h
theorem bg_quo {d : Dv} {a b : Int} (h : Sm a) : Bg (quo d a b) := by
  have h1 := quo_abs d a b
  unfold Sm at h
  unfold Bg
  have h2 : 2 ^ 70 + 1 < 2 ^ 250 := by decide
  omega
theorem nat_small {n : Nat} (h : n < 2 ^ 200) : n < 2 ^ 250 := nat_mono h (by decide)
/-- sums and products of small ones -/
theorem bg_add {a b : Int} (ha : Sm a) (hb : Sm b) : Bg (a + b) := by
  unfold Sm at *; unfold Bg
  have h2 : 2 ^ 70 + 2 ^ 70 < 2 ^ 250 := by decide
  omega
theorem bg_sub {a b : Int} (ha : Sm a) (hb : Sm b) : Bg (a - b) := by
  unfold Sm at *; unfold Bg
  have h2 : 2 ^ 70 + 2 ^ 70 < 2 ^ 250 := by decide
  omega
theorem bg_prod {a b : Int} (ha : Sm a) (hb : Sm b) : Bg (a * b) := nat_mono (nat_mul ha hb) (by decide)
theorem bg_left {a b q : Int} (ha : Sm a) (hb : Sm b) (hq : q.natAbs < 2 ^ 72) : Bg (a - b * q) := by
  have h1 := nat_mul hb hq
  unfold Sm at ha; unfold Bg
  have h2 : 2 ^ 70 + 2 ^ (70 + 72) < 2 ^ 250 := by decide
  omega
theorem quo72 {d : Dv} {a b : Int} (h : Sm a) : (quo d a b).natAbs < 2 ^ 72 := by
  have h1 := quo_abs d a b
  unfold Sm at h
  have h2 : 2 ^ 70 + 1 < 2 ^ 72 := by decide
  omega
theorem v_zero {a b : Int} : (if decide (V.bl (decide (a < 0)) = V.bl (decide (b < 0))) = true then V.int ((a.natAbs : Int).fdiv b.natAbs) else V.int (-(a.natAbs : Int).fdiv b.natAbs)) = V.int (quo .zero a b) := by
  rw [dec_bl]
  simp only [quo]
  by_cases h : decide (a < 0) = decide (b < 0)
  · rw [h, if_pos (beq_self_eq_true _), if_pos rfl]
  · rw [if_neg h, if_neg (by simpa using h)]
theorem v_even {a b : Int} {c : Bool} (h : (decide (V.int (b.natAbs : Int) = V.int (b.natAbs : Int)) && c) = c) : True := trivial
theorem even_up {a b : Int} (h : (decide ((b.natAbs : Int) < 2 * ((a - b * a.fdiv b).natAbs : Int)) || (decide (V.int (2 * ((a - b * a.fdiv b).natAbs : Int)) = V.int (b.natAbs : Int)) && decide (V.int ((a.fdiv b).fmod 2) = V.int 1))) = true) : V.int (a.fdiv b + 1) = V.int (quo .even a b) := by
  rw [dec_int, dec_int] at h
  simp only [Bool.or_eq_true, Bool.and_eq_true, decide_eq_true_eq, beq_iff_eq] at h
  simp only [quo]
  rw [if_pos h]
theorem even_no {a b : Int} (h : (decide ((b.natAbs : Int) < 2 * ((a - b * a.fdiv b).natAbs : Int)) || (decide (V.int (2 * ((a - b * a.fdiv b).natAbs : Int)) = V.int (b.natAbs : Int)) && decide (V.int ((a.fdiv b).fmod 2) = V.int 1))) = false) : V.int (a.fdiv b) = V.int (quo .even a b) := by
  rw [dec_int, dec_int] at h
  have h' : ¬ (2 * ((a - b * a.fdiv b).natAbs : Int) > b.natAbs ∨ (2 * ((a - b * a.fdiv b).natAbs : Int) = b.natAbs ∧ (a.fdiv b).fmod 2 = 1)) := fun z => by
    have : (decide ((b.natAbs : Int) < 2 * ((a - b * a.fdiv b).natAbs : Int)) || ((2 * ((a - b * a.fdiv b).natAbs : Int)) == (b.natAbs : Int) && ((a.fdiv b).fmod 2) == 1)) = true := by
      simp only [Bool.or_eq_true, Bool.and_eq_true, decide_eq_true_eq, beq_iff_eq]
      exact z
    rw [h] at this
    cases this
  simp only [quo]
  rw [if_neg h']
theorem v_euc {a b : Int} : (if decide (0 < b) = true then V.int (a.fdiv b) else V.int (-a.fdiv (-b))) = V.int (quo .euc a b) := by
  simp only [quo, decide_eq_true_eq]
  split <;> rfl
/-! ### the law's own operations -/
inductive De where | add | sub | mul
def deS : De → Str | .add => "add" | .sub => "subtract" | .mul => "multiply"
def deI : De → Int → Int → Int | .add, a, b => a + b | .sub, a, b => a - b | .mul, a, b => a * b
def doR (f : Fmt) (d : De) : Option Int → Option Int → Option Int
  | some a, some b => fitR f (deI d a b)
  | _, _ => none
def divR (f : Fmt) : Option Int → Option Int → Option Int
  | some a, some b => fitR f (quo f.dv a b)
  | _, _ => none
def OSm (x : Option Int) : Prop := ∀ i, x = some i → Sm i
def NZ (x : Option Int) : Prop := x ≠ some 0
theorem osm {a : Int} (h : Sm a) : OSm (some a) := fun i e => by cases e; exact h
theorem osm_fit {f : Fmt} {e : Int} : OSm (fitR f e) := fun i h => sm_fits (fitR_fits h)
end WL
namespace WL
open PySem PySem.Spec PyProof.Rows L2 Evl WM
section
variable {s : L2.St} {H : Hp} {t1 t2 ty : TE} {v : V}
theorem dp_cons {z : Str} {trs : List (TE × TE)} {kvs : List (Key × V)} (h1 : Ev t1 s H (.str z)) (h2 : Ev t2 s H v) (r : Paired (fun a b => EvP a s H b) trs kvs) : Paired (fun a b => EvP a s H b) ((t1, t2) :: trs) ((Sum.inr z, v) :: kvs) := .cons ⟨h1, h2⟩ r
theorem ev_ddS {trs : List (TE × TE)} {kvs : List (Key × V)} {z : Str} (h : Paired (fun a b => EvP a s H b) trs kvs) (hl : kvs.length ≤ 15) (hk : Ev ty s H (.str z)) (hv : valV (mergeK [] kvs) (Sum.inr z) = some v) :
    Ev (tDGet (tDisp trs) ty) s H v := ev_dd (k := Sum.inr z) h hl hk hv
end
end WL
namespace WL
open PySem PySem.Spec PyProof.Rows L2 Evl WM
theorem ite_int {c : Bool} {x y : Int} : (if c = true then V.int x else V.int y) = V.int (if c = true then x else y) := by
  cases c <;> rfl
theorem v_quo0 {d : Dv} {a b : Int} (hb : b ≠ 0) (h : decide (V.int ((a.natAbs : Int) - (a.natAbs : Int).fdiv b.natAbs * b.natAbs) = V.int 0) = true) :
    (if (!decide (V.bl (decide (a < 0)) = V.bl (decide (b < 0)))) = true then V.int (0 - (a.natAbs : Int).fdiv b.natAbs) else V.int ((a.natAbs : Int).fdiv b.natAbs)) = V.int (quo d a b) := by
  rw [dec_int, beq_iff_eq] at h
  rw [dec_bl, ite_int, ← quoS_eq d a b hb]
  unfold quoS
  rw [if_pos h]
  rfl
theorem v_quo1 {d : Dv} {a b : Int} {up : Bool} (hb : b ≠ 0) (h : decide (V.int ((a.natAbs : Int) - (a.natAbs : Int).fdiv b.natAbs * b.natAbs) = V.int 0) = false) (hu : up = qup d a b ((a.natAbs : Int) - (a.natAbs : Int).fdiv b.natAbs * b.natAbs) ((a.natAbs : Int).fdiv b.natAbs)) :
    (if (!decide (V.bl (decide (a < 0)) = V.bl (decide (b < 0)))) = true then V.int (0 - (if up = true then (a.natAbs : Int).fdiv b.natAbs + 1 else (a.natAbs : Int).fdiv b.natAbs)) else V.int (if up = true then (a.natAbs : Int).fdiv b.natAbs + 1 else (a.natAbs : Int).fdiv b.natAbs)) = V.int (quo d a b) := by
  rw [dec_int, beq_eq_false_iff_ne] at h
  rw [dec_bl, ite_int, ← quoS_eq d a b hb]
  unfold quoS
  rw [if_neg h, hu]
  rfl
theorem qup_even {a b l z : Int} : (decide (l * 2 > (b.natAbs : Int)) || false) = (decide (l * 2 > (b.natAbs : Int)) || false) := rfl
end WL
namespace WL
open PySem PySem.Spec PyProof.Rows L2 Evl WM
section
variable {s : L2.St} {H : Hp} {ta tb : TE} {t : TT} {v : V}
theorem ev_ifT {b : Bool} (h : EvT t s H b) (hb : b = true) (h1 : Ev ta s H v) : Ev (tIf t ta tb) s H v := ev_if h (fun _ => h1) (fun z => by rw [hb] at z; cases z)
theorem ev_ifF {b : Bool} (h : EvT t s H b) (hb : b = false) (h1 : Ev tb s H v) : Ev (tIf t ta tb) s H v := ev_if h (fun z => by rw [hb] at z; cases z) (fun _ => h1)
end
end WL
namespace WL
open PySem PySem.Spec PyProof.Rows L2 Evl WM
/-! ### the row of draws: all but it stays -/
def ExB (r : Addr) (H H' : Hp) : Prop := ∀ b o, b ≠ r → H b = some o → H' b = some o
theorem ExB.refl {r : Addr} {H : Hp} : ExB r H H := fun _ _ _ h => h
theorem ExB.trans {r : Addr} {H H1 H2 : Hp} (a : ExB r H H1) (b : ExB r H1 H2) : ExB r H H2 := fun x o n h => b x o n (a x o n h)
theorem ExB.of {r : Addr} {H H1 : Hp} (e : Ex H H1) : ExB r H H1 := fun x o _ h => e x o h
theorem ExB.upd {r : Addr} {H H1 : Hp} {o : HO} (e : Ex H H1) : ExB r H (upd H1 r o) := fun x o n h => by
  rw [upd_ne n]; exact e x o h
theorem ExB.back {r b : Addr} {H H1 : Hp} (e : ExB r H H1) (n : b ≠ r) (h : H1 b = none) : H b = none := by
  cases q : H b with
  | none => rfl
  | some o => rw [e b o n q] at h; cases h
structure RowOK (K : PySem.W.Frag) (H : Hp) (r a : Addr) (ns : List Int) : Prop where
  row : ∃ p s t : Int, 0 ≤ p ∧ 0 ≤ s ∧ s < 2147483647 ∧ H r = some (.lst [.ref a, .int p, .int s, .int t])
  scr : SqL K H a (ns.map V.int)
  len : ns.length ≤ 63
theorem exb_l {K : PySem.W.Frag} {r a : Addr} {H H' : Hp} {xs : List V} (e : ExB r H H') (n : a ≠ r) (h : SqL K H a xs) : SqL K H' a xs := by
  rcases h with (h | ⟨o, h⟩) | h
  · exact .inl (.inl (e a _ n h))
  · exact .inl (.inr ⟨o, e a _ n h⟩)
  · exact .inr h
theorem RowOK.is {K : PySem.W.Frag} {H : Hp} {r a : Addr} {ns : List Int} (R : RowOK K H r a ns) : ∃ xs, H r = some (.lst xs) := by
  obtain ⟨p, s, t, _, _, _, h⟩ := R.row
  exact ⟨_, h⟩
theorem exb_t {K : PySem.W.Frag} {r a : Addr} {ns : List Int} {H H' : Hp} {p : Addr} {xs : List V} (R : RowOK K H r a ns) (e : ExB r H H') (h : SqT K H p xs) : SqT K H' p xs := by
  obtain ⟨ys, hr⟩ := R.is
  rcases h with (h | ⟨o, h⟩) | h
  · exact .inl (.inl (e p _ (ne_of h hr (by intro z; cases z)) h))
  · exact .inl (.inr ⟨o, e p _ (ne_of h hr (by intro z; cases z)) h⟩)
  · exact .inr h
theorem RowOK.scrB {K : PySem.W.Frag} {H H' : Hp} {r a : Addr} {ns : List Int} (R : RowOK K H r a ns) (e : ExB r H H') : SqL K H' a (ns.map V.int) := by
  obtain ⟨p, s, t, _, _, _, hr⟩ := R.row
  rcases R.scr with (h | ⟨o, h⟩) | h
  · refine .inl (.inl (e a _ (ne_of h hr fun z => ?_) h))
    injection z with z
    cases ns with
    | nil => cases z
    | cons i is => cases z
  · exact .inl (.inr ⟨o, e a _ (ne_of h hr fun z => by cases z) h⟩)
  · exact .inr h
theorem RowOK.ex {K : PySem.W.Frag} {H H' : Hp} {r a : Addr} {ns : List Int} (R : RowOK K H r a ns) (e : Ex H H') : RowOK K H' r a ns := by
  obtain ⟨p, s, t, h1, h2, h3, h⟩ := R.row
  exact ⟨⟨p, s, t, h1, h2, h3, e _ _ h⟩, ex_l e R.scr, R.len⟩
theorem RowOK.upd {K : PySem.W.Frag} {H H1 : Hp} {r a : Addr} {ns : List Int} (R : RowOK K H r a ns) (e : Ex H H1) {p s t : Int} (h1 : 0 ≤ p) (h2 : 0 ≤ s) (h3 : s < 2147483647) : RowOK K (upd H1 r (.lst [.ref a, .int p, .int s, .int t])) r a ns :=
  ⟨⟨p, s, t, h1, h2, h3, upd_same⟩, R.scrB (ExB.upd e), R.len⟩
/-- a new object is not the row -/
theorem RowOK.fresh {K : PySem.W.Frag} {H : Hp} {r a : Addr} {ns : List Int} (R : RowOK K H r a ns) {p : Addr} (h : H p = none) : p ≠ r := by
  obtain ⟨xs, hr⟩ := R.is
  exact (ne_of_none hr h).symm
theorem fmod_in (x : Int) {m : Int} (h : 0 < m) : 0 ≤ x.fmod m ∧ x.fmod m < m := ⟨Int.fmod_nonneg_of_pos x h, Int.fmod_lt_of_pos x h⟩
section
variable {K : PySem.W.Frag} {s : L2.St} {H : Hp} {ta tb te : TE} {v : V} {D : Ends} {tz : TS}
/-- xs[i] = e, and on from the new heap -/
theorem bl_setL' {l : Addr} {xs : List V} {j : Nat} (hl : H l = some (.lst xs)) (h : Ev te s H v) (ho : Ev ta s H (.ref l)) (hi : Ev tb s H (.int (j : Int))) (hj : j < xs.length) (k : ∀ H1, Ex H H1 → tz D s (upd H1 l (.lst (xs.set j v)))) :
    tSeq (tAsg te (gSub ta tb rSetL)) tz D s H := q_setL hl h ho hi hj k
end
end WL
namespace WL
open PySem PySem.Spec PyProof.Rows L2 Evl WM
/-! ### promises of the draws -/
def SpTaken (K : PySem.W.Frag) : Sp := fun vs H Q _ => ∃ (r a : Addr) (ns : List Int) (m : Int), vs = [.ref r, .int m] ∧ RowOK K H r a ns ∧ 0 < m ∧ Sm m ∧
  ∀ (v : Int) (H' : Hp), 0 ≤ v → v < m → RowOK K H' r a ns → ExB r H H' → Q (.int v) H'
def SpPick (K : PySem.W.Frag) : Sp := fun vs H Q _ => ∃ (r a : Addr) (ns : List Int) (l : Addr) (xs : List V), vs = [.ref r, .ref l] ∧ RowOK K H r a ns ∧ SqL K H l xs ∧ l ≠ r ∧ xs ≠ [] ∧ xs.length ≤ 1000 ∧
  ∀ (v : V) (H' : Hp), v ∈ xs → RowOK K H' r a ns → ExB r H H' → Q v H'
def SpFormat (K : PySem.W.Frag) : Sp := fun vs H Q _ => ∃ (r a : Addr) (ns : List Int) (m : Int), vs = [.ref r, .int m] ∧ RowOK K H r a ns ∧ 4 ≤ m ∧
  ∀ (f : Fmt) (p : Addr) (H' : Hp), (f.w : Int) ≤ m → H p = none → H' p = some (.tup (fV f)) → RowOK K H' r a ns → ExB r H H' → Q (.ref p) H'
def SpNumber (K : PySem.W.Frag) : Sp := fun vs H Q _ => ∃ (r a : Addr) (ns : List Int) (p : Addr) (f : Fmt), vs = [.ref r, .ref p] ∧ RowOK K H r a ns ∧ SqT K H p (fV f) ∧
  ∀ (v : Int) (H' : Hp), fits f v → RowOK K H' r a ns → ExB r H H' → Q (.int v) H'
theorem at_mem {xs : List V} {v : Int} (h0 : 0 ≤ v) (h1 : v < xs.length) : ∃ w, atI xs v = some w ∧ w ∈ xs := by
  obtain ⟨j, rfl⟩ : ∃ j : Nat, v = j := ⟨v.toNat, by omega⟩
  have hj : j < xs.length := by omega
  exact ⟨xs[j], atI_nat (List.getElem?_eq_getElem hj), List.getElem_mem hj⟩
theorem sm_nat {n : Nat} (h : n ≤ 1000) : Sm (n : Int) := by
  unfold Sm
  have : 1000 < 2 ^ 70 := by decide
  omega
end WL
namespace WL
open PySem PySem.Spec PyProof.Rows L2 Evl WM
section
variable {K : PySem.W.Frag} {s : L2.St} {H : Hp} {ta tb te : TE} {v : V} {D : Ends} {tz : TS}
theorem bl_row {r : Addr} {xs : List V} {j : Nat} (hl : H r = some (.lst xs)) (h : Ev te s H v) (ho : Ev ta s H (.ref r)) (hi : Ev tb s H (.int (j : Int))) (hj : j < xs.length) (k : ∀ H1, Ex H H1 → tz D s (upd H1 r (.lst (xs.set j v)))) :
    Bl (tSeq (tAsg te (gSub ta tb rSetL)) tz) D s H := fun H1 e => q_setL (e _ _ hl) (h.mono e) (ho.mono e) (hi.mono e) hj fun H2 e2 => k H2 (e.trans e2)
theorem bl_rowE {r : Addr} {xs : List V} {j : Nat} (hl : H r = some (.lst xs)) (h : Ev te s H v) (ho : Ev ta s H (.ref r)) (hi : Ev tb s H (.int (j : Int))) (hj : j < xs.length) (k : ∀ H1, Ex H H1 → D.nx s (upd H1 r (.lst (xs.set j v)))) :
    Bl (tAsg te (gSub ta tb rSetL)) D s H := fun H1 e => s_setL (e _ _ hl) (h.mono e) (ho.mono e) (hi.mono e) hj fun H2 e2 => k H2 (e.trans e2)
theorem at_int {ns : List Int} {i : Int} (h0 : 0 ≤ i) (h1 : i < ns.length) : ∃ c : Int, atI (ns.map V.int) i = some (.int c) := by
  obtain ⟨w, h, hm⟩ := at_mem (xs := ns.map V.int) h0 (by rw [List.length_map]; exact h1)
  obtain ⟨c, _, rfl⟩ := List.mem_map.mp hm
  exact ⟨c, h⟩
end
end WL
namespace WL
open PySem PySem.Spec PyProof.Rows L2 Evl WM
theorem mul48271 {x : Int} (h1 : 0 ≤ x) (h2 : x < 2147483647) : CMulW x 48271 := by
  refine bg_mul ?_ (show (48271 : Int).natAbs < 2 ^ 250 by decide)
  unfold Bg
  have : 2147483647 < 2 ^ 250 := by decide
  omega
end WL
namespace WL
open PySem PySem.Spec PyProof.Rows L2 Evl WM
theorem mem_sg {v : V} (h : v ∈ [V.str "symmetric", V.str "twos", V.str "unsigned"]) : ∃ sg, v = .str (sgS sg) := by
  rcases List.mem_cons.mp h with h | h
  · exact ⟨.sym, h⟩
  rcases List.mem_cons.mp h with h | h
  · exact ⟨.twos, h⟩
  rcases List.mem_cons.mp h with h | h
  · exact ⟨.uns, h⟩
  · cases h
theorem mem_ov {v : V} (h : v ∈ [V.str "saturate", V.str "trap", V.str "wrap"]) : ∃ ov, v = .str (ovS ov) := by
  rcases List.mem_cons.mp h with h | h
  · exact ⟨.sat, h⟩
  rcases List.mem_cons.mp h with h | h
  · exact ⟨.trap, h⟩
  rcases List.mem_cons.mp h with h | h
  · exact ⟨.wrap, h⟩
  · cases h
theorem mem_dv {v : V} (h : v ∈ [V.str "ceiling", V.str "euclid", V.str "even", V.str "floor", V.str "zero"]) : ∃ dv, v = .str (dvS dv) := by
  rcases List.mem_cons.mp h with h | h
  · exact ⟨.ceil, h⟩
  rcases List.mem_cons.mp h with h | h
  · exact ⟨.euc, h⟩
  rcases List.mem_cons.mp h with h | h
  · exact ⟨.even, h⟩
  rcases List.mem_cons.mp h with h | h
  · exact ⟨.floor, h⟩
  rcases List.mem_cons.mp h with h | h
  · exact ⟨.zero, h⟩
  · cases h
theorem mem_ints {v : V} {is : List Int} (h : v ∈ is.map V.int) : ∃ i, v = .int i ∧ i ∈ is := by
  obtain ⟨i, h1, h2⟩ := List.mem_map.mp h
  exact ⟨i, h2.symm, h1⟩
/-- a list made on the way: the row stays, the list is apart -/
theorem RowOK.new {K : PySem.W.Frag} {H : Hp} {r a : Addr} {ns : List Int} (R : RowOK K H r a ns) {l : Addr} {o : HO} (h : H l = none) : RowOK K (L2.upd H l o) r a ns := R.ex (Ex.new h)
/-- draws out of a list that is written there: the term's reading -/
theorem pick_new {K : PySem.W.Frag} {H : Hp} {r a : Addr} {ns : List Int} {xs : List V} {Q : VK} {E : XK} {l : Addr} (R : RowOK K H r a ns) (hl : H l = none) (hx : xs ≠ []) (hn : xs.length ≤ 1000)
    (k : ∀ (v : V) (H' : Hp), v ∈ xs → RowOK K H' r a ns → ExB r H H' → Q v H') : SpPick K [.ref r, .ref l] (upd H l (.lst xs)) Q E :=
  ⟨r, a, ns, l, xs, rfl, R.new hl, sq_of upd_same, R.fresh hl, hx, hn, fun v H' hm R' e => k v H' hm R' ((ExB.of (Ex.new hl)).trans e)⟩
end WL
namespace WL
open PySem PySem.Spec PyProof.Rows L2 Evl WM
section
variable {K : PySem.W.Frag} {s : L2.St} {H : Hp} {ta : TA} {r a : Addr} {ns : List Int} {Q : VK} {E : XK}
theorem taken_call {m : Int} (ha : EvA ta s H [.ref r, .int m]) (R : RowOK K H r a ns) (hm0 : 0 < m) (hm : Sm m)
    (k : ∀ (v : Int) (H' : Hp), 0 ≤ v → v < m → RowOK K H' r a ns → ExB r H H' → Q (.int v) H') : tCall (SpTaken K) [] E ta s H Q :=
  ha H (Ex.refl H) _ fun H2 e2 => ⟨r, a, ns, m, rfl, R.ex e2, hm0, hm, fun v H' h0 h1 R' e => k v H' h0 h1 R' ((ExB.of e2).trans e)⟩
theorem pick_call {l : Addr} {xs : List V} (ha : EvA ta s H [.ref r, .ref l]) (R : RowOK K H r a ns) (hl : SqL K H l xs) (hlr : l ≠ r) (hx : xs ≠ []) (hn : xs.length ≤ 1000)
    (k : ∀ (v : V) (H' : Hp), v ∈ xs → RowOK K H' r a ns → ExB r H H' → Q v H') : tCall (SpPick K) [] E ta s H Q :=
  ha H (Ex.refl H) _ fun H2 e2 => ⟨r, a, ns, l, xs, rfl, R.ex e2, ex_l e2 hl, hlr, hx, hn, fun v H' hm R' e => k v H' hm R' ((ExB.of e2).trans e)⟩
end
theorem all_ints {P : Int → Prop} {is : List Int} (h : ∀ i ∈ is, P i) {v : V} (hv : v ∈ is.map V.int) : ∃ i, v = .int i ∧ P i := by
  obtain ⟨i, e, hi⟩ := mem_ints hv
  exact ⟨i, e, h i hi⟩
theorem near_fits {f : Fmt} {i : Int} (h : i ∈ [lo f, lo f + 1, hi f, hi f - 1, 0, 1, 2, 3, (if 0 - 1 > lo f then 0 - 1 else lo f), (if 0 - 2 > lo f then 0 - 2 else lo f), (hi f).fdiv 2, (hi f).fdiv 2 + 1, lo f + (hi f).fdiv 3]) : fits f i := by
  have F := facts f
  have e2 : (hi f).fdiv 2 = hi f / 2 := Int.fdiv_eq_ediv_of_nonneg _ (by decide)
  have e3 : (hi f).fdiv 3 = hi f / 3 := Int.fdiv_eq_ediv_of_nonneg _ (by decide)
  rw [e2, e3] at h
  simp only [List.mem_cons, List.not_mem_nil, or_false] at h
  unfold fits
  rcases h with h | h | h | h | h | h | h | h | h | h | h | h | h <;> (try split at h) <;> omega
end WL

set_option maxHeartbeats 4000000
/-! Lambdas as values: made with at most one default that is a written int, kept, handed to a def, called there. -/
namespace WLam
open PySem PySem.Spec PyProof.Rows L2 Evl WL LamX

abbrev lfn (qual : Str) (params : Arguments) (body : Expr) (scope : Scope) (cl : List (Str × Addr)) (pm cdv ct dV : Value) : FuncData :=
  { name := "<lambda>"
    qualname := qual
    params := params
    body := .expr body
    scope := scope
    globals := mainGlobals
    closure := cl
    defaults := dV
    kwdefaults := .none
    doc := .none
    pyModule := pm
    annotations := none
    code := cdv
    closureTuple := ct
    builtins := builtinsNs }
abbrev lobj (qual : Str) (params : Arguments) (body : Expr) (scope : Scope) (cl : List (Str × Addr)) (pm cdv ct dV : Value) : Obj :=
  { cls := .type "function", data := .func (lfn qual params body scope cl pm cdv ct dV) }
/-- what is tracked of a lambda at f -/
def LamO (f : Addr) (qual : Str) (params : Arguments) (body : Expr) (scope : Scope) (cl : List (Str × Addr)) (c' : Addr) (dV : Value) : HO :=
  .ext fun h => ∃ pm ctv : Value, h.get? f = some (lobj qual params body scope cl pm (.ref c') ctv dV)
theorem lamO_ne {f c' : Addr} {qual : Str} {params : Arguments} {body : Expr} {scope : Scope} {cl : List (Str × Addr)} {dV : Value} (ps : Array Value) : LamO f qual params body scope cl c' dV ≠ .tbl ps := fun z => by
  unfold LamO at z; cases z
section
variable {M : Model} {A : Around} {E : Value → Shared → Prop} {s : Shared} {qual : Str} {params : Arguments} {body : Expr} {scope : Scope} {env : Env} {c P : Addr} {ps : Array Value} {pos : Pos} {firstLine : Nat} {mg : Str → Option Value}
  {clos : List (Str × Addr)} {Q : Value → Shared → Prop} {dV : Value}
/-- the tail of a lambda's making: the code object is new -/
theorem tail_new (hcl : closureFor scope env = pure clos) (hge0 : env.globals = mainGlobals) (hg : s.heap.Ns mainGlobals mg) (hcode : env.code = .ref c) (C : PySem.W.CodeHd s.heap c P)
    (hP : s.heap.get? P = some (PySem.W.tabObj ps)) (ht : TriplesOk ps.toList) (hnf : codeAmong pos ps.toList = none) (hgP : mainGlobals ≠ P) (hb : s.heap.BuiltinsAt mg P)
    (h : ∀ (c' : Addr) (ctv : Value) (h' : Heap) (tk : Tok), Heap.ExtBut P s.heap h' → s.heap.objs.size ≤ c' → c' < h'.objs.size → h'.CodeRec (.ref c') qual →
      h'.get? P = some (PySem.W.tabObj (ps ++ #[rawInt pos.line, rawInt pos.col, .ref c'])) →
      Q (.ref h'.objs.size) { s with heap := h'.push (lobj qual params body scope clos ((mg "__name__").getD .none) (.ref c') ctv dV), toks := tk }) :
    wpAny M A (makeTail "<lambda>" qual params (.expr body) scope env dV .none none pos firstLine) Q E s := by
  obtain ⟨bm, ob, b1, b2, _, b4, b5, b6, b7, b8⟩ := hb
  have push_keep : ∀ (o : Obj) b u, s.heap.get? b = some u → (s.heap.push o).get? b = some u := fun o b u e => Heap.get?_push_of_some _ e
  unfold makeTail
  rw [hcl, hge0]
  refine wpAny_bind (wpAny_pure ?_)
  by_cases hc0 : clos = []
  · subst hc0
    rw [if_pos (show ([] : List (Str × Addr)).isEmpty = true from rfl)]
    refine wpAny_bind (wpAny_pure (wpAny_bind (wpAny_functionCodeX hcode (C.code hP ht) (C.tab hP) hnf ?_)))
    intro c' h' tk hx hge hlt _ hrec htb _
    have hg' := hg.extBut hx hgP
    refine wpAny_bind (wpAny_builtinsFor hg' b1 b2 (hx _ _ b4 b5) b6 b7 b8 (wpAny_bind (wpAny_nsGet hg' (wpAny_bind (wpAny_pure ?_)))))
    exact wpAny_newObj_type (h c' .none h' tk hx hge hlt hrec htb.2) (by size_fits)
  · rw [if_neg (by cases clos with
      | nil => exact absurd rfl hc0
      | cons q r => exact Bool.false_ne_true)]
    refine wpAny_bind (wpAny_newTextTuple ?_)
    generalize ho : ({ cls := .type "tuple", data := .seq ((clos.mergeSort fun a b => a.1.cps.toList ≤ b.1.cps.toList).map (Value.ref ·.2)).toArray } : Obj) = o
    have C2 : PySem.W.CodeHd (s.heap.push o) c P := C.keeps (push_keep o)
    refine wpAny_bind (wpAny_functionCodeX hcode (C2.code (push_keep o _ _ hP) ht) (C2.tab (push_keep o _ _ hP)) hnf ?_)
    intro c' h' tk hx hge hlt _ hrec htb _
    have hg' := (hg.push o).extBut hx hgP
    have hx' : Heap.ExtBut P s.heap h' := fun b u hb' e => hx b u hb' (push_keep o b u e)
    have hge' : s.heap.objs.size ≤ c' := Nat.le_trans (by rw [Heap.size_push]; omega) hge
    refine wpAny_bind (wpAny_builtinsFor hg' b1 b2 (hx' _ _ b4 b5) b6 b7 b8 (wpAny_bind (wpAny_nsGet hg' (wpAny_bind (wpAny_pure ?_)))))
    exact wpAny_newObj_type (h c' _ h' tk hx' hge' hlt hrec htb.2) (by size_fits)
/-- the code object was made before -/
theorem tail_hit {cv : Value} (hcl : closureFor scope env = pure clos) (hge0 : env.globals = mainGlobals) (hg : s.heap.Ns mainGlobals mg) (hcode : env.code = .ref c) (C : PySem.W.CodeHd s.heap c P)
    (hP : s.heap.get? P = some (PySem.W.tabObj ps)) (ht : TriplesOk ps.toList) (hf : codeAmong pos ps.toList = some cv) (hb : s.heap.BuiltinsAt mg P)
    (h : ∀ (ctv : Value) (h' : Heap), (∀ b o, s.heap.get? b = some o → h'.get? b = some o) → s.heap.objs.size ≤ h'.objs.size →
      Q (.ref h'.objs.size) { s with heap := h'.push (lobj qual params body scope clos ((mg "__name__").getD .none) cv ctv dV) }) :
    wpAny M A (makeTail "<lambda>" qual params (.expr body) scope env dV .none none pos firstLine) Q E s := by
  obtain ⟨bm, ob, b1, b2, _, b4, b5, b6, b7, b8⟩ := hb
  unfold makeTail
  rw [hcl, hge0]
  refine wpAny_bind (wpAny_pure ?_)
  by_cases hc0 : clos = []
  · subst hc0
    rw [if_pos (show ([] : List (Str × Addr)).isEmpty = true from rfl)]
    refine wpAny_bind (wpAny_pure (wpAny_bind (wpAny_functionCode_hit hcode (C.code hP ht) hf ?_)))
    refine wpAny_bind (wpAny_builtinsFor hg b1 b2 b5 b6 b7 b8 (wpAny_bind (wpAny_nsGet hg (wpAny_bind (wpAny_pure ?_)))))
    exact wpAny_newObj_type (h .none s.heap (fun _ _ e => e) (Nat.le_refl _)) (by size_fits)
  · rw [if_neg (by cases clos with
      | nil => exact absurd rfl hc0
      | cons q r => exact Bool.false_ne_true)]
    refine wpAny_bind (wpAny_newTextTuple ?_)
    generalize ho : ({ cls := .type "tuple", data := .seq ((clos.mergeSort fun a b => a.1.cps.toList ≤ b.1.cps.toList).map (Value.ref ·.2)).toArray } : Obj) = o
    have keepP : ∀ b u, s.heap.get? b = some u → (s.heap.push o).get? b = some u := fun b u e => Heap.get?_push_of_some _ e
    refine wpAny_bind (wpAny_functionCode_hit hcode ((C.keeps keepP).code (keepP _ _ hP) ht) hf ?_)
    refine wpAny_bind (wpAny_builtinsFor (hg.push o) b1 b2 (keepP _ _ b5) b6 b7 b8 (wpAny_bind (wpAny_nsGet (hg.push o) (wpAny_bind (wpAny_pure ?_)))))
    exact wpAny_newObj_type (h _ _ keepP (by rw [Heap.size_push]; omega)) (by size_fits)
end
section
variable {X : Cx} {pins : List (Addr × Obj)} {σ : L2.St} {H : Hp} {s : Shared} {T : List (Addr × Str)} {c P : Addr} {params : Arguments} {body : Expr} {scope : Scope} {pos : Pos} {firstLine : Nat} {dV : Value}
abbrev lq (X : Cx) : Str := X.env.qual ++ "<lambda>"
abbrev lcl (X : Cx) (scope : Scope) : List (Str × Addr) := cloFrom X.env.cells scope.names []
/-- the lambda's object is told from now on -/
theorem track (I : Inv X pins σ H s) {o : Obj} {pm ctv : Value} {c' : Addr} {tk : Tok} :
    Inv X pins σ (L2.upd H s.heap.objs.size (LamO s.heap.objs.size (lq X) params body scope (lcl X scope) c' dV)) { s with heap := s.heap.push (lobj (lq X) params body scope (lcl X scope) pm (.ref c') ctv dV), toks := tk } := by
  refine I.laid (fun b u e => Heap.get?_push_of_some _ e) (Nat.le_refl _) ?_
  have g : (s.heap.push (lobj (lq X) params body scope (lcl X scope) pm (.ref c') ctv dV)).get? s.heap.objs.size = some (lobj (lq X) params body scope (lcl X scope) pm (.ref c') ctv dV) := Heap.get?_push_size _ rfl
  exact ⟨⟨pm, ctv, g⟩, ⟨_, g⟩, fun h1 h2 ⟨p1, c1, e⟩ st => ⟨p1, c1, st _ e⟩⟩
theorem lam_tail (I : Inv X pins σ H s) (TB : TabB X.base X.mg c P) (hcode : X.env.code = .ref c) (hm : (P, lq X) ∈ T) (hu : ∀ p ∈ T, p.1 = P → p.2 = lq X) (hT : Tabs T H)
    (hfree : ∀ y ∈ scope.names, y.2 = .free → ∃ c, X.env.cells.lookup y.1 = some c) {Q E : Value → Shared → Prop}
    (h : ∀ (f c' : Addr) (H1 : Hp) (s' : Shared), Inv X pins σ H1 s' → ExtN H H1 → Tabs T H1 → H f = none → H1 f = some (LamO f (lq X) params body scope (lcl X scope) c' dV) → H1 c' = some (CodeO c' (lq X)) → Q (.ref f) s') :
    wpAny (model X.prog X.w) X.A (makeTail "<lambda>" (lq X) params (.expr body) scope X.env dV .none none pos firstLine) Q E s := by
  obtain ⟨ps, hP, ht, ha⟩ := hT _ hm
  have bP : s.heap.BuiltinsAt X.mg P := TB.bm.keeps I.bk
  have hP' : s.heap.get? P = some { cls := .none, data := .fields ps } := I.hok P _ hP
  have hG := I.mod.glob.keeps I.bk
  cases hc : codeAmong pos ps.toList with
  | none =>
    refine tail_new (closure_ok hfree) I.ok.glob hG hcode (TB.code.keeps I.bk) hP' ht hc TB.gP bP ?_
    rintro c' ctv h' tk hx hge hlt ⟨c2, oc, vs, t, e2, hoc, hd, hv⟩ htb
    cases e2
    have nC : H c' = none := I.hok.fresh hge
    have neP : ∀ b u, H b = some u → (∀ q, u ≠ .tbl q) → b ≠ P := fun b u e q z => q ps (Option.some.inj (e.symm.trans (by rw [z]; exact hP)))
    have I1 := inv_table (t' := tk) (more := #[rawInt pos.line, rawInt pos.col, .ref c']) (h' := h') I hP hx htb hge ⟨oc, vs, t, hoc, hd, hv⟩
    have x1 : ExtN H (L2.upd (L2.upd H P (.tbl (ps ++ #[rawInt pos.line, rawInt pos.col, .ref c']))) c' (CodeO c' (lq X))) := fun b o e n => by
      rw [upd_ne (ne_of_none e nC), upd_ne (neP b o e n)]
      exact e
    generalize hH1 : L2.upd (L2.upd H P (.tbl (ps ++ #[rawInt pos.line, rawInt pos.col, .ref c']))) c' (CodeO c' (lq X)) = H1 at *
    have hsz : s.heap.objs.size ≤ h'.objs.size := Nat.le_trans hge (Nat.le_of_lt hlt)
    have nf1 : H1 h'.objs.size = none := I1.hok.fresh (Nat.le_refl _)
    have I2 := track (tk := tk) (params := params) (body := body) (scope := scope) (pm := (X.mg "__name__").getD .none) (ctv := ctv) (c' := c') (dV := dV) I1 (o := default)
    have x2 : ∀ b o, H1 b = some o → L2.upd H1 h'.objs.size (LamO h'.objs.size (lq X) params body scope (lcl X scope) c' dV) b = some o := fun b o e => by
      rw [upd_ne (ne_of_none e nf1)]; exact e
    have hc1 : H1 c' = some (CodeO c' (lq X)) := by rw [← hH1]; exact upd_same
    have T1 : Tabs T H1 := fun p hp => by
      by_cases hb : p.1 = P
      · rw [hu p hp hb, hb]
        have eL : (ps ++ #[rawInt pos.line, rawInt pos.col, .ref c']).toList = ps.toList ++ [rawInt pos.line, rawInt pos.col, .ref c'] := by simp
        refine ⟨_, by rw [← hH1, upd_ne (ne_of_none hP nC), upd_same], by rw [eL]; exact PySem.TriplesOk_snoc _ _ _ _ ht, fun p' cv hcv => ?_⟩
        rw [eL] at hcv
        rcases among_app _ ht hcv with z | z
        · obtain ⟨c0, y1, y2⟩ := ha p' cv z
          exact ⟨c0, y1, x1 _ _ y2 codeO_ne⟩
        · exact ⟨c', z, hc1⟩
      · obtain ⟨ps', a1, a2, a3⟩ := hT p hp
        refine ⟨ps', by rw [← hH1, upd_ne (ne_of_none a1 nC), upd_ne hb]; exact a1, a2, fun p' cv hcv => ?_⟩
        obtain ⟨c0, y1, y2⟩ := a3 p' cv hcv
        exact ⟨c0, y1, x1 _ _ y2 codeO_ne⟩
    exact h h'.objs.size c' _ _ I2 (x1.trans (ExtN.of x2)) (T1.ext x2) (I.hok.fresh hsz) upd_same (x2 _ _ hc1)
  | some cv =>
    obtain ⟨c', e, hco⟩ := ha pos cv hc
    subst e
    refine tail_hit (closure_ok hfree) I.ok.glob hG hcode (TB.code.keeps I.bk) hP' ht hc bP ?_
    intro ctv h' hx hsz
    have I1 : Inv X pins σ H { s with heap := h' } := I.kept (t' := s.toks) hx
    have nf1 : H h'.objs.size = none := I.hok.fresh hsz
    have x2 : ∀ b o, H b = some o → L2.upd H h'.objs.size (LamO h'.objs.size (lq X) params body scope (lcl X scope) c' dV) b = some o := fun b o e => by
      rw [upd_ne (ne_of_none e nf1)]; exact e
    exact h h'.objs.size c' _ _ (track (tk := s.toks) (o := default) I1) (ExtN.of x2) (hT.ext x2) nf1 upd_same (x2 _ _ hco)
end
end WLam

set_option maxHeartbeats 4000000
namespace WLam
open PySem PySem.Spec PyProof.Rows L2 Evl WL LamX
/-- a lambda as it is written: at most one parameter, with a written int as its default -/
structure LamD where
  params : Arguments
  body : Expr
  scope : Scope
  dflt : Option (Str × Int)
def DflOk (d : LamD) (dV : Value) (H : Hp) : Prop := match d.dflt with
  | none => dV = .none
  | some (_, i) => ∃ t, dV = .ref t ∧ H t = some (.tup [.int i])
theorem DflOk.ext {d : LamD} {dV : Value} {H H' : Hp} (h : DflOk d dV H) (e : ExtN H H') : DflOk d dV H' := by
  unfold DflOk at *
  cases hd : d.dflt with
  | none => rw [hd] at h; exact h
  | some p =>
    rw [hd] at h
    obtain ⟨t, e1, e2⟩ := h
    exact ⟨t, e1, e _ _ e2 fun ps z => by cases z⟩
/-- a lambda object of this making stands at f -/
def LamAt (X : Cx) (d : LamD) (f : Addr) (H : Hp) : Prop := ∃ (c' : Addr) (dV : Value),
  H f = some (LamO f (lq X) d.params d.body d.scope (lcl X d.scope) c' dV) ∧ H c' = some (CodeO c' (lq X)) ∧ DflOk d dV H
theorem LamAt.ext {X : Cx} {d : LamD} {f : Addr} {H H' : Hp} (h : LamAt X d f H) (e : ExtN H H') : LamAt X d f H' := by
  obtain ⟨c', dV, h1, h2, h3⟩ := h
  exact ⟨c', dV, e _ _ h1 lamO_ne, e _ _ h2 codeO_ne, h3.ext e⟩
/-- the lambda's own names stand apart from the maker's -/
structure LamS2 (N : List Str) (sc scope : Scope) : Prop where
  kind : scope.kind = .function
  co : scope.isCoroutine = false
  gen : scope.isGenerator = false
  own : ∀ y ∈ scope.names, y.2 ≠ .cell ∧ (y.2 = .local → y.1 ∉ N)
  free : ∀ y ∈ scope.names, y.2 = .free → sc.names.lookup y.1 = some .cell ∨ sc.names.lookup y.1 = some .free
def lamB2 (N : List Str) (sc scope : Scope) : Bool :=
  decide (scope.kind = .function) && (!scope.isCoroutine && (!scope.isGenerator && scope.names.all fun y => !decide (y.2 = .cell) && ((!decide (y.2 = .local) || !decide (y.1 ∈ N)) && (!decide (y.2 = .free) || (decide (sc.names.lookup y.1 = some .cell) || decide (sc.names.lookup y.1 = some .free))))))
theorem lamS2_by {N : List Str} {sc scope : Scope} (h : lamB2 N sc scope = true) : LamS2 N sc scope := by
  unfold lamB2 at h
  simp only [Bool.and_eq_true, Bool.or_eq_true, Bool.not_eq_true', decide_eq_true_eq, decide_eq_false_iff_not, List.all_eq_true] at h
  obtain ⟨h1, h2, h3, h4⟩ := h
  refine ⟨h1, h2, h3, fun y hy => ⟨(h4 y hy).1, fun e z => ?_⟩, fun y hy e => ?_⟩
  · rcases (h4 y hy).2.1 with q | q
    · exact q e
    · exact q z
  · rcases (h4 y hy).2.2 with q | q
    · exact absurd e q
    · exact q
theorem LamS2.has {X : Cx} {scope : Scope} (L : LamS2 X.N X.env.scope scope) (ok : X.Ok) : ∀ y ∈ scope.names, y.2 = .free → ∃ c, X.env.cells.lookup y.1 = some c := fun y hy e => by
  rcases L.free y hy e with k | k
  · exact ok.has _ (.inl k)
  · exact ok.has _ (.inr k)
/-- how the default binds -/
structure BindD (d : LamD) : Prop where
  no : d.dflt = none → ∀ (q : Str) (cl : List (Str × Addr)) (pm cv ct : Value), bindArgs (lfn q d.params d.body d.scope cl pm cv ct .none) ⟨[], []⟩ = pure []
  one : ∀ (x : Str) (i : Int), d.dflt = some (x, i) → d.scope.names.lookup x = some .local ∧ ∀ (q : Str) (cl : List (Str × Addr)) (pm cv ct : Value) (t : Addr),
    ∃ k, bindArgs (lfn q d.params d.body d.scope cl pm cv ct (.ref t)) ⟨[], []⟩ = seqItems? (.ref t) >>= k ∧ ∀ v : Value, k (some [v].toArray) = pure [(x, v)]
  dno : d.dflt = none → ∀ env : Env, defaultsOf d.params env = ([], [])
  done : ∀ (x : Str) (i : Int), d.dflt = some (x, i) → ∃ (k : Nat) (pos : Pos), ∀ env : Env, defaultsOf d.params env = ([eval (.Constant (.int i) k pos) env], [])
  kw : d.params.kwonlyargs = []
section
variable {X : Cx} {pins : List (Addr × Obj)} {σ : L2.St} {H HZ : Hp} {s s1 : Shared} {T : List (Addr × Str)} {c P : Addr} {d : LamD} {pos : Pos}
/-- the reading of a lambda's making -/
def tMk (X : Cx) (T : List (Addr × Str)) (d : LamD) : TE := fun _ H Q => Tabs T H ∧ ∀ (f : Addr) (H1 : Hp), ExtN H H1 → Tabs T H1 → H f = none → LamAt X d f H1 → Q (.ref f) H1
theorem pe_lam (TB : TabB X.base X.mg c P) (hcode : X.env.code = .ref c) (hm : (P, lq X) ∈ T) (hu : ∀ p ∈ T, p.1 = P → p.2 = lq X) (L : LamS2 X.N X.env.scope d.scope) (B : BindD d) :
    PE X (.Lambda d.params d.body d.scope pos) (tMk X T d) := by
  refine ⟨fun pins s σ H Q I h => ?_⟩
  obtain ⟨hT, h⟩ := h
  have hkw : (d.params.kwonlyargs.zip ([] : List (Option Value))).filterMap (fun (a, d) => d.map (a.arg, ·)) = [] := by rw [B.kw]; rfl
  rw [arm_eval_Lambda]
  cases hd : d.dflt with
  | none =>
    rw [B.dno hd]
    show wpAny _ _ (do let dv ← evalAll []; let kdv ← holding dv (evalAllOpt []); makeFunction "<lambda>" (lq X) d.params (.expr d.body) d.scope X.env dv kdv [] pos pos.line) _ _ _
    refine wpAny_bind (wpAny_pure (wpAny_bind (wpAny_holding (wpAny_pure ?_))))
    rw [makeFunction_eq]
    simp only [List.zip_nil_right, List.filterMap_nil, List.isEmpty_nil, if_true, pure_bind]
    refine lam_tail I TB hcode hm hu hT (L.has I.ok) fun f c' H1 s' I1 x1 T1 nf h1 h2 => ?_
    exact ⟨.ref f, H1, I1, rfl, h f H1 x1 T1 nf ⟨c', .none, h1, h2, by unfold DflOk; rw [hd]⟩⟩
  | some p =>
    obtain ⟨x, i⟩ := p
    obtain ⟨k, pos', e⟩ := B.done x i hd
    rw [e]
    show wpAny _ _ (do let dv ← evalAll [eval (.Constant (.int i) k pos') X.env]; let kdv ← holding dv (evalAllOpt []); makeFunction "<lambda>" (lq X) d.params (.expr d.body) d.scope X.env dv kdv [] pos pos.line) _ _ _
    refine wpAny_bind (wpAny_bind (wpAny_Constant_int (wpAny_bind (wpAny_holding (wpAny_pure (wpAny_pure ?_))))))
    refine wpAny_bind (wpAny_holding (wpAny_pure ?_))
    rw [makeFunction_eq]
    simp only [List.zip_nil_right, List.filterMap_nil, List.isEmpty_nil, List.isEmpty_cons, Bool.false_eq_true, if_true, if_false, pure_bind]
    refine wpAny_bind (wpAny_newTextTuple ?_)
    have I0 : Inv X pins σ H { s with toks := s.toks + 1 } := I.tok _
    have I1 : Inv X pins σ (L2.upd H s.heap.objs.size (.tup [.int i])) { s with heap := s.heap.push { cls := .type "tuple", data := .seq [Value.int i s.toks].toArray }, toks := s.toks + 1 } :=
      I.laid (fun b u e => Heap.get?_push_of_some _ e) (Nat.le_refl _) ⟨by show 1 ≤ sizeLine; decide, [.int i s.toks], .cons ⟨_, rfl⟩ .nil, IsTup.new s.heap _⟩
    have nt : H s.heap.objs.size = none := I.hok.fresh (Nat.le_refl _)
    have x0 : ∀ b o, H b = some o → L2.upd H s.heap.objs.size (.tup [.int i]) b = some o := fun b o e => by rw [upd_ne (ne_of_none e nt)]; exact e
    refine lam_tail (dV := .ref s.heap.objs.size) I1 TB hcode hm hu (hT.ext x0) (L.has I.ok) fun f c' H1 s' I2 x1 T1 nf h1 h2 => ?_
    have nf' : H f = none := by
      cases q : H f with
      | none => rfl
      | some o => rw [x0 _ _ q] at nf; cases nf
    exact ⟨.ref f, H1, I2, rfl, h f H1 ((ExtN.of x0).trans x1) T1 nf' ⟨c', _, h1, h2, by unfold DflOk; rw [hd]; exact ⟨_, rfl, x1 _ _ upd_same fun ps z => by cases z⟩⟩⟩
/-- entering the lambda's body -/
theorem lam_in {A : Around} {outer : List Env} {E : XK} {scope : Scope} {f c' : Addr} {h1 : Heap} {tk : Nat} {m : Str → Option Value} (I : Inv X pins σ H s) (L : LamS2 X.N X.env.scope scope)
    (e0 : Env0 X.prog X.w X.K X.mg X.base A outer s1 HZ) (hd : A.handled = none) (un : Un (frs X.stack) [] H HZ s.heap s1.heap) (hns : h1.Ns s1.heap.objs.size m)
    (kp : ∀ b o, s1.heap.get? b = some o → h1.get? b = some o) : Inv (lamCx X A outer s1 HZ E scope f c') [] σ HZ { s1 with heap := h1, toks := tk } := by
  have hfree := L.has I.ok
  have back : ∀ {y c}, (lcl X scope).lookup y = some c → X.env.cells.lookup y = some c := fun {y c} e => by
    rcases cloFrom_mem (PySem.mem_of_lookup e) with z | ⟨z1, z2⟩
    · cases z
    · obtain ⟨c1, hc⟩ := hfree _ z1 rfl
      have hc : X.env.cells.lookup y = some c1 := hc
      rw [z2, hc]
      rfl
  have look : ∀ {y}, scope.names.lookup y = some .free → ∃ c, (lcl X scope).lookup y = some c := fun {y} hl =>
    L2.mem_lookup (cloFrom_has (cells := X.env.cells) (acc := []) (PySem.mem_of_lookup hl))
  have cellK : ∀ {c : Addr} {v : Option Value}, H c = none → s.heap.IsCell c v → h1.IsCell c v := fun {c v} n ⟨o, ho, hd⟩ => by
    obtain ⟨sl, q⟩ := un.any ho n (by simp)
    exact ⟨_, kp _ _ q, hd⟩
  have nx : ∀ b : Addr, b ∉ (lamCx X A outer s1 HZ E scope f c').ex := fun b z => by cases z
  have okL : (lamCx X A outer s1 HZ E scope f c').Ok := by
    refine ⟨e0.mod, L.kind, rfl, rfl, Nat.le_refl _, ?_, ?_, ?_, fun _ => hd, Around.frames_deeper e0.frames, .inr ⟨rfl, rfl⟩, fun b z => absurd z (nx b), e0.bs, e0.bsz, fun b _ _ => nx b, fun b z => absurd z (nx b), e0.funs, e0.frf⟩
    · exact fun y z c e1 e2 => I.ok.inj y z c (back e1) (back e2)
    · intro y hy
      have hy : scope.names.lookup y = some .cell ∨ scope.names.lookup y = some .free := hy
      rcases hy with hy | hy
      · exact absurd rfl (L.own _ (PySem.mem_of_lookup hy)).1
      · exact look hy
    · intro y c z _
      have z : false = true := z
      cases z
  refine ⟨okL, rfl, e0.bare, Un.kept kp, ⟨m, hns, ?_⟩, ?_, e0.hok.fresh (Nat.le_refl _), ?_, (fun q hq => nomatch (show q ∈ ([] : List (Addr × Obj)) from hq)), e0.hok.kept kp, I.len⟩
  · intro i y v e1 e2 e3
    have hyN : y ∈ X.N := List.mem_of_getElem? e1
    have e3 : Vis scope y := e3
    rcases e3 with k | k | k
    · exact absurd hyN ((L.own _ (PySem.mem_of_lookup k)).2 rfl)
    · exact absurd rfl (L.own _ (PySem.mem_of_lookup k)).1
    · obtain ⟨m0, hn, hl⟩ := I.loc
      have hvis : Vis X.env.scope y := (L.free _ (PySem.mem_of_lookup k) rfl).elim (fun k => .inr (.inl k)) (fun k => .inr (.inr k))
      obtain ⟨w', r, q⟩ := hl i y v e1 e2 hvis
      obtain ⟨c2, h2⟩ := look k
      refine ⟨w', r, .inr ⟨.inr k, c2, h2, ?_⟩⟩
      have c1 := back h2
      rcases q with ⟨k', _⟩ | ⟨_, c3, e', z⟩
      · have k' : X.env.scope.names.lookup y = some .local := k'
        rcases L.free _ (PySem.mem_of_lookup k) rfl with k2 | k2
        · rw [show X.env.scope.names.lookup y = _ from k2] at k'
          cases k'
        · rw [show X.env.scope.names.lookup y = _ from k2] at k'
          cases k'
      · rw [c1] at e'
        cases e'
        exact cellK (I.freeC y _ c1) z
  · intro y c e
    obtain ⟨w', z⟩ := I.cell y c (back e)
    exact ⟨w', cellK (I.freeC y c (back e)) z⟩
  · intro y c e
    obtain ⟨v, o, ho, hd⟩ := I.cell y c (back e)
    exact un.free c o ho (I.freeC y c (back e)) (by simp)
end
end WLam

namespace WLam
open PySem PySem.Spec PyProof.Rows L2
/-- .. as one Bool over the head's frag -/
def excCB (K : PySem.W.Frag) (D : Addr) : Bool :=
  He.eqO (PySem.W.findIn K (.ref D) "__getattribute__") (some (some (.builtin "BaseException.__getattribute__"))) && (He.eqO (PySem.W.findIn K (.ref D) "__getattr__") (some none) &&
  (decide (PySem.W.subIn K (.ref D) (.type "BaseException") = some true) && (PySem.W.hasDictIn K D && (He.eqO (PySem.W.findIn K (.ref D) "__class__") (some (some (.builtin "object.__class__"))) &&
  (He.eqO (PySem.W.specialIn K (.builtin "object.__class__") "__get__") (some (some (.builtin "getset_descriptor.__get__"))) && (decide (PySem.W.takesIn K (.builtin "object.__class__") = some true) && decide (PySem.W.mroIn K D (.type "object") = some true)))))))
def erB (K : PySem.W.Frag) (x : Str) : Bool := (He.Fa.exc x).ok K && ((He.Fa.exm x "WidthError" true).ok K && excCB K (He.ga K x))
end WLam

set_option maxHeartbeats 4000000
namespace WLam
open PySem PySem.Spec PyProof.Rows L2 Evl WL LamX
section
variable {X : Cx} {pins : List (Addr × Obj)} {σ : L2.St} {H HZ : Hp} {s s1 : Shared} {d : LamD}
/-- the def g that got the lambda, as its context: entered at s -/
abbrev gCx (X : Cx) (Ng : List Str) (qg : Str) (sg : Scope) (g : Addr) (cdg : Value) (s : Shared) (H : Hp) : Cx := cxOf CX0 X.prog X.w X.K X.mg X.base Ng qg sg g cdg X.A X.stack s H E0
/-- x(), in the def that got the lambda -/
theorem pe_act2 {Ng : List Str} {qg : Str} {sg : Scope} {g f : Addr} {cdg : Value} {k i : Nat} {a : Str} {pn : List (Addr × Obj)} {xe : Value → Shared → Prop} {W : WX} {E : XK} {tb : TE} {p1 p2 : Pos}
    (I : Inv X pins σ H s) (L : LamS2 X.N X.env.scope d.scope) (B : BindD d) (tk : Takes ((gCx X Ng qg sg g cdg s H).tr pn xe) W)
    (hr : Room (k + 1) (X.A.deeper (envOfC qg sg s.heap.objs.size g cdg)))
    (hbody : ∀ (A : Around) (outer : List Env) (s : Shared) (H : Hp) (f c' : Addr), Room k (A.deeper (lamEnv X d.scope s.heap.objs.size f c')) → PE (lamCx X A outer s H E d.scope f c') d.body tb)
    (hN : Ng[i]? = some a) (hv : Vis sg a) (hd : (a == ("__debug__" : Str)) = false := by decide) (hcd : (a == ("__classdict__" : Str)) = false := by decide) :
    PE ((gCx X Ng qg sg g cdg s H).tr pn xe) (.Call (.Name a p1) [] [] p2) (fun σZ HZ Q => σZ[i]? = some (some (.ref f)) ∧ LamAt X d f HZ ∧ (∀ cls d H', E cls d H' → W cls d σZ H') ∧ tb σ HZ Q) := by
  refine ⟨fun pinsZ sZ σZ HZ Q IZ h => ?_⟩
  obtain ⟨hs, ⟨c', dV, hf, hc, hdf⟩, hW, ht⟩ := h
  have pv := (pe_var (X := (gCx X Ng qg sg g cdg s H).tr pn xe) (pos := p1) (i := i) hN hv hd hcd).run pinsZ sZ σZ HZ (fun v H1 => v = .ref f ∧ H1 = HZ) IZ ⟨.ref f, hs, rfl, rfl⟩
  refine wpAny_Call_Name_kw (thn pv fun u s1 ⟨v, H1, I1, r1, q1⟩ => ?_)
  obtain ⟨rfl, rfl⟩ := q1
  obtain rfl : u = Value.ref f := r1
  obtain ⟨⟨pm, ctv, of1⟩, _, _⟩ := I1.hok f _ hf
  obtain ⟨⟨oc, vs, t, hoc, hdc, hvc⟩, _, _⟩ := I1.hok c' _ hc
  refine PySem.W.callWith_F0 ⟨_, _, _, _, of1⟩ ?_
  have un : Un (frs X.stack) [] H H1 s.heap s1.heap := I1.base
  have rc : codeAny (model X.prog X.w) (X.A.deeper (envOfC qg sg s.heap.objs.size g cdg)) (.call (.ref f) ⟨[], []⟩) (CR (L2.CX X.prog X.w) (envOfC qg sg s.heap.objs.size g cdg :: X.stack) X.prog X.w H1 s1 Q E) s1 := by
    refine PySem.W.kla_callFunE hr.depth of1 rfl L.co L.gen rfl ⟨c', oc, vs, t, rfl, hoc, hdc, hvc⟩ ?_
    -- whatever is bound, the body runs
    have go : ∀ (binds : List (Str × Value)), (∀ y ∈ binds, d.scope.names.lookup y.1 = some .local) →
        wpAny (model X.prog X.w) (X.A.deeper (envOfC qg sg s.heap.objs.size g cdg)).in1 (newFunctionEnv d.scope mainGlobals (lcl X d.scope) binds (lq X ++ ".<locals>.") (some f) (.ref c') none builtinsNs)
          (fun env s2 => s2.heap.NoLimit ∧ codeAny (model X.prog X.w) (X.A.deeper (envOfC qg sg s.heap.objs.size g cdg)) (.expr d.body env) (CR (L2.CX X.prog X.w) (envOfC qg sg s.heap.objs.size g cdg :: X.stack) X.prog X.w H1 s1 Q E) s2)
          (fun e s' => CR (L2.CX X.prog X.w) (envOfC qg sg s.heap.objs.size g cdg :: X.stack) X.prog X.w H1 s1 Q E (.error e) s') s1 := by
      intro binds hb
      refine wpAny_newFunctionEnv (fun y hy => (L.own y hy).1) hb (fun h1 hns hsb => ⟨I1.nolimit.fresh _ hsb, ?_⟩) L.kind
      show codeAny _ _ (.expr d.body (lamEnv X d.scope s1.heap.objs.size f c')) _ _
      have kp : ∀ b o, s1.heap.get? b = some o → h1.get? b = some o := fun b o e => hsb.extBut b o (Nat.ne_of_lt (Heap.lt_size e)) (Heap.get?_push_of_some _ e)
      have J := lam_in (E := E) (f := f) (c' := c') (tk := s1.toks + binds.length) I L I1.env0 hr.hd un hns kp
      refine PySem.W.kla_codeExpr (wpAny_mono ((hbody _ _ s1 H1 f c' (hr.deeper _)).run [] _ _ H1 Q J ht) (fun v s' hq => ?_) fun e s' hq => hq)
      obtain ⟨w', H', J', rv, q⟩ := hq
      exact ⟨w', H', J'.os, J'.bare, J'.base, J'.hok, rv, q⟩
    cases hd0 : d.dflt with
    | none =>
      have e0 : dV = .none := by
        unfold DflOk at hdf
        rw [hd0] at hdf
        exact hdf
      subst e0
      rw [B.no hd0]
      exact wpAny_pure (go [] fun y hy => by cases hy)
    | some p =>
      obtain ⟨x, n⟩ := p
      unfold DflOk at hdf
      rw [hd0] at hdf
      obtain ⟨T, rfl, hT⟩ := hdf
      obtain ⟨hloc, hk⟩ := B.one x n hd0
      obtain ⟨kk, e1, e2⟩ := hk (lq X) (lcl X d.scope) pm (.ref c') ctv T
      rw [e1]
      obtain ⟨_, its, rvs, oT, o1, o2, n2, o3⟩ := I1.hok T _ hT
      refine wpAny_bind (wpAny_seqItems o1 o3 ?_)
      obtain ⟨v, rfl, _⟩ := vals1 rvs
      rw [e2 v]
      exact wpAny_pure (go [(x, v)] fun y hy => by
        rcases List.mem_cons.mp hy with rfl | hy
        · exact hloc
        · cases hy)
  refine wpAny_call (codeAny_mono rc fun r s' hq => ?_)
  cases r with
  | error e => exact tk e s' (XE.of_call I1 hW hq)
  | ok fl =>
    cases fl with
    | ret u => exact I1.after hq
    | next => exact False.elim hq
    | brk => exact False.elim hq
    | cont => exact False.elim hq
/-- the promise of a def g(a) whose body calls a: TT what it makes of the call's reading -/
def Gives2 (X : Cx) (Ng : List Str) (x : Str) (st : Stmt) (a : Str) (TT : (XK → Hp → VK → Prop) → Hp → VK → Prop) : Prop :=
  ∀ (g : Addr) (cdg : Value) (s : Shared) (f : Addr) (H : Hp) (Q : VK) (tl : XK → Hp → VK → Prop) (St : Hp → Prop),
    (∀ (W : WX) (pn : List (Addr × Obj)) (xe : Value → Shared → Prop) (E : XK) (p1 p2 : Pos), Takes ((gCx X Ng x (defScope st) g cdg s H).tr pn xe) W →
      PE ((gCx X Ng x (defScope st) g cdg s H).tr pn xe) (.Call (.Name a p1) [] [] p2) (fun σZ HZ Q => σZ[0]? = some (some (.ref f)) ∧ St HZ ∧ (∀ cls d H', E cls d H' → W cls d σZ H') ∧ tl E HZ Q)) →
    St H → TT tl H Q →
    ∃ t, PSs (gCx X Ng x (defScope st) g cdg s H).nox (defBody st) t ∧ t { nx := fun _ H' => Q .non H', rt := Q } (L2.start Ng [.ref f]) H
/-- g(e), e one of n lambdas -/
def tGive (X : Cx) (te : TE) (n : Nat) (fam : Nat → LamD) (TT : (XK → Hp → VK → Prop) → Hp → VK → Prop) (tb : Nat → XK → TE) : TE := fun σ H Q =>
  te σ H fun v H1 => ∃ (j : Nat) (f : Addr), j < n ∧ v = .ref f ∧ LamAt X (fam j) f H1 ∧ TT (fun E H' Q' => tb j E σ H' Q') H1 Q
theorem pe_give {x a : Str} {st : Stmt} {Ng : List Str} {k n : Nat} {te : TE} {e : Expr} {fam : Nat → LamD} {TT : (XK → Hp → VK → Prop) → Hp → VK → Prop} {tb : Nat → XK → TE} {p pos : Pos}
    (D : DefAt X.K X.mg x st) (Sg : FnScope Ng [a] (defScope st)) (hNg : Ng[0]? = some a) (hva : Vis (defScope st) a)
    (hbg : ∀ (kV doc pm : Value) (an : Option Addr) (cdv ct : Value) (us : List Value), us.length = 1 → bindArgs (PySem.W.fnOf x x (defArgs st) (defBody st) (defScope st) .none kV doc pm an cdv ct) ⟨us, []⟩ = pure ([a].zip us))
    (hg : Gl X x) (hG : Gives2 X Ng x st a TT) (hr : Room (k + 2) X.A) (he : PE X e te)
    (L : ∀ j, j < n → LamS2 X.N X.env.scope (fam j).scope) (B : ∀ j, j < n → BindD (fam j))
    (hbody : ∀ (j : Nat), j < n → ∀ (A : Around) (outer : List Env) (s : Shared) (H : Hp) (E : XK) (f c' : Addr), Room k (A.deeper (lamEnv X (fam j).scope s.heap.objs.size f c')) → PE (lamCx X A outer s H E (fam j).scope f c') (fam j).body (tb j E))
    (hdb : (x == ("__debug__" : Str)) = false := by decide) (hd : (a == ("__debug__" : Str)) = false := by decide) (hcd : (a == ("__classdict__" : Str)) = false := by decide)
    (hs : starEach [e] X.env = (false, eval e X.env) :: starEach [] X.env := by rfl) (hpl : (backTo pos (starEach [] X.env)).any (·.1) = false := by rfl) :
    PE X (.Call (.Name x p) [e] [] pos) (tGive X te n fam TT tb) := by
  refine ⟨fun pins s σ H Q I h => ?_⟩
  obtain ⟨g, fd, F, hm⟩ := D.ex
  refine wpAny_Call_Name_kw (ld_glob I hg hm ?_ hdb)
  have ha : PA X [e] (tCons te tNil) := pa_cons he pa_nil hs
  refine PySem.W.callWith_K (h₀ := X.base) I.ok.mod.kin F.kp (thn (ha.run pos pins s σ H (fun vs H1 => ∃ (j : Nat) (f : Addr), j < n ∧ vs = [.ref f] ∧ LamAt X (fam j) f H1 ∧ TT (fun E H' Q' => tb j E σ H' Q') H1 Q) I ?_) fun us s1 ⟨vs, H1, I1, r, q⟩ => ⟨I1.kIn, ?_⟩) hs hpl
  · have e1 : (fun v H1 => ∃ (j : Nat) (f : Addr), j < n ∧ v = V.ref f ∧ LamAt X (fam j) f H1 ∧ TT (fun E H' Q' => tb j E σ H' Q') H1 Q) = (fun v H1 => ∃ (j : Nat) (f : Addr), j < n ∧ [v] = [V.ref f] ∧ LamAt X (fam j) f H1 ∧ TT (fun E H' Q' => tb j E σ H' Q') H1 Q) := by
      funext v H1
      simp only [List.cons.injEq, and_true]
    show te σ H _
    have h : te σ H (fun v H1 => ∃ (j : Nat) (f : Addr), j < n ∧ v = V.ref f ∧ LamAt X (fam j) f H1 ∧ TT (fun E H' Q' => tb j E σ H' Q') H1 Q) := h
    rw [e1] at h
    exact h
  obtain ⟨j, f, hj, rfl, hA, hTT⟩ := q
  obtain ⟨oc, od, dV, kV, doc, pm, an, cdv, ct, osl, rfl, lk, hcd2, hD, hK⟩ := F.ex
  have e0 : dV = .none := by
    rcases hD with ⟨_, z⟩ | ⟨z, _⟩
    · exact z
    · exact absurd rfl z
  subst e0
  obtain ⟨u, rfl, ru⟩ := vals1 r
  obtain rfl : u = Value.ref f := ru
  have rc : codeAny (model X.prog X.w) X.A (.call (.ref g) ⟨[.ref f], []⟩) (CR CX0 X.stack X.prog X.w H1 s1 Q E0) s1 := by
    refine run_ofS (N := Ng) (ps := [a]) (us := [.ref f]) (vs := [.ref f]) lk hcd2 Sg hr I1.env0 (.of_eq (hbg _ _ _ _ _ _ [.ref f] rfl)) (.cons rfl .nil) rfl fun hr' => ?_
    obtain ⟨t', ht', hq'⟩ := hG g cdv s1 f H1 Q (fun E H' Q' => tb j E σ H' Q') (fun HZ => LamAt X (fam j) f HZ)
      (fun W pn xe E p1 p2 tk => pe_act2 (i := 0) I1 (L j hj) (B j hj) tk hr' (fun A outer s H f c' hr2 => hbody j hj A outer s H E f c' hr2) hNg hva hd hcd) hA hTT
    exact ⟨t', ht'.nox, hq'⟩
  refine wpAny_call (codeAny_mono rc fun r s2 hq => ?_)
  cases r with
  | error e => exact (show False from hq).elim
  | ok fl =>
    cases fl with
    | ret u => exact I1.after hq
    | next => exact False.elim hq
    | brk => exact False.elim hq
    | cont => exact False.elim hq
theorem pss_ex {X : Cx} {st : List Stmt} {α : Type} {R : α → Prop} {t : α → TS} (h : ∀ z, R z → PSs X st (t z)) : PSs X st (fun D σ H => ∃ z, R z ∧ t z D σ H) :=
  ⟨fun pins s σ H D I ⟨z, hz, ht⟩ => (h z hz).run pins s σ H D I ht⟩
/-- the body of a try: the call alone -/
def tTry (f : Addr) (St : Hp → Prop) (tl : XK → Hp → VK → Prop) : WX → TS := fun W D σ H => ∃ E : XK, (∀ cls d H', E cls d H' → W cls d σ H') ∧ σ[0]? = some (some (.ref f)) ∧ St H ∧ tl E H (fun _ H1 => D.nx σ H1)
theorem pss_try {Z : Cx} {f : Addr} {St : Hp → Prop} {tl : XK → Hp → VK → Prop} {W : WX} {a : Str} {p1 p2 p3 : Pos}
    (act : ∀ E : XK, PE Z (.Call (.Name a p1) [] [] p2) (fun σZ HZ Q => σZ[0]? = some (some (.ref f)) ∧ St HZ ∧ (∀ cls d H', E cls d H' → W cls d σZ H') ∧ tl E HZ Q)) :
    PSs Z [.Expr (.Call (.Name a p1) [] [] p2) p3] (tTry f St tl W) := by
  refine ⟨fun pins s σ H D I ⟨E, hW, h1, h2, h3⟩ => ?_⟩
  exact (pss_one (ps_expr (pos := p3) (act E))).run pins s σ H D I ⟨h1, h2, hW, h3⟩
end
end WLam
namespace WLam
open PySem PySem.Spec PyProof.Rows L2 Evl WL LamX
section
variable {X : Cx}
theorem bindD_no {params : Arguments} {body : Expr} {scope : Scope} (h1 : ∀ (q : Str) (cl : List (Str × Addr)) (pm cv ct : Value), bindArgs (lfn q params body scope cl pm cv ct .none) ⟨[], []⟩ = pure []) (h2 : ∀ env : Env, defaultsOf params env = ([], [])) (h3 : params.kwonlyargs = []) :
    BindD ⟨params, body, scope, none⟩ := ⟨fun _ => h1, (fun _ _ z => by cases z), fun _ => h2, (fun _ _ z => by cases z), h3⟩
theorem bindD_one {params : Arguments} {body : Expr} {scope : Scope} {x : Str} {i : Int} (h0 : scope.names.lookup x = some .local)
    (h1 : ∀ (q : Str) (cl : List (Str × Addr)) (pm cv ct : Value) (t : Addr), ∃ k, bindArgs (lfn q params body scope cl pm cv ct (.ref t)) ⟨[], []⟩ = seqItems? (.ref t) >>= k ∧ ∀ v : Value, k (some [v].toArray) = pure [(x, v)])
    (k : Nat) (pos : Pos) (h2 : ∀ env : Env, defaultsOf params env = ([eval (.Constant (.int i) k pos) env], [])) (h3 : params.kwonlyargs = []) :
    BindD ⟨params, body, scope, some (x, i)⟩ := by
  refine ⟨fun z => (by cases z), fun y j z => ?_, fun z => (by cases z), fun y j z => ?_, h3⟩
  · cases z
    exact ⟨h0, h1⟩
  · cases z
    exact ⟨k, pos, h2⟩
/-- g(lambda: ..) -/
theorem pe_giveL {x a : Str} {st : Stmt} {Ng : List Str} {k : Nat} {T : List (Addr × Str)} {c P : Addr} {params : Arguments} {body : Expr} {scope : Scope} {dflt : Option (Str × Int)} {TT : (XK → Hp → VK → Prop) → Hp → VK → Prop} {tb : XK → TE} {p lpos pos : Pos}
    (D : DefAt X.K X.mg x st) (Sg : FnScope Ng [a] (defScope st)) (hNg : Ng[0]? = some a) (hva : Vis (defScope st) a)
    (hbg : ∀ (kV doc pm : Value) (an : Option Addr) (cdv ct : Value) (us : List Value), us.length = 1 → bindArgs (PySem.W.fnOf x x (defArgs st) (defBody st) (defScope st) .none kV doc pm an cdv ct) ⟨us, []⟩ = pure ([a].zip us))
    (hg : Gl X x) (hG : Gives2 X Ng x st a TT) (hr : Room (k + 2) X.A)
    (TB : TabB X.base X.mg c P) (hcode : X.env.code = .ref c) (hm : (P, lq X) ∈ T) (hu : ∀ p ∈ T, p.1 = P → p.2 = lq X)
    (L : LamS2 X.N X.env.scope scope) (B : BindD ⟨params, body, scope, dflt⟩)
    (hbody : ∀ (A : Around) (outer : List Env) (s : Shared) (H : Hp) (E : XK) (f c' : Addr), Room k (A.deeper (lamEnv X scope s.heap.objs.size f c')) → PE (lamCx X A outer s H E scope f c') body (tb E))
    (hdb : (x == ("__debug__" : Str)) = false := by decide) (hd : (a == ("__debug__" : Str)) = false := by decide) (hcd : (a == ("__classdict__" : Str)) = false := by decide)
    (hs : starEach [.Lambda params body scope lpos] X.env = (false, eval (.Lambda params body scope lpos) X.env) :: starEach [] X.env := by rfl) (hpl : (backTo pos (starEach [] X.env)).any (·.1) = false := by rfl) :
    PE X (.Call (.Name x p) [.Lambda params body scope lpos] [] pos) (tGive X (tMk X T ⟨params, body, scope, dflt⟩) 1 (fun _ => ⟨params, body, scope, dflt⟩) TT (fun _ => tb)) :=
  pe_give (n := 1) (fam := fun _ => ⟨params, body, scope, dflt⟩) (tb := fun _ => tb) D Sg hNg hva hbg hg hG hr (pe_lam (d := ⟨params, body, scope, dflt⟩) TB hcode hm hu L B) (fun _ _ => L) (fun _ _ => B)
    (fun _ _ A outer s H E f c' h => hbody A outer s H E f c' h) hdb hd hcd hs hpl
/-- its reading, where all of H is kept but the tables -/
theorem give_at {σ : L2.St} {H : Hp} {Q : VK} {T : List (Addr × Str)} {d : LamD} {TT : (XK → Hp → VK → Prop) → Hp → VK → Prop} {tb : Nat → XK → TE} (hT : Tabs T H)
    (h : ∀ H1, ExtN H H1 → Tabs T H1 → TT (fun E H' Q' => tb 0 E σ H' Q') H1 Q) : tGive X (tMk X T d) 1 (fun _ => d) TT tb σ H Q :=
  ⟨hT, fun f H1 x1 T1 _ hA => ⟨0, f, by decide, rfl, hA, h H1 x1 T1⟩⟩
end
end WLam
namespace WLam
open PySem PySem.Spec PyProof.Rows L2 Evl WL LamX
/-- an own error class, a direct one of WidthError's -/
structure Er (K : PySem.W.Frag) (mg : Str → Option Value) (x : Str) : Prop where
  g : mg x = some (.ref (He.ga K x))
  xc : PySem.W.excIn K (He.ga K x) He.veBase "ValueError.__new__" = true
  k : PySem.W.keepIn K (.ref (He.ga K x)) = true
  b : PySem.W.subIn K (.ref (He.ga K x)) (.type "BaseException") = some true
  t : PySem.W.typeIn K (.ref (He.ga K x)) = some (.type "type")
  c : ExcC K (He.ga K x)
  m : PySem.W.exmOne K (.ref (He.ga K x)) (.ref (He.ga K "WidthError")) = some true
theorem excCB_ok {K : PySem.W.Frag} {D : Addr} (h : excCB K D = true) : ExcC K D := by
  unfold excCB at h
  simp only [Bool.and_eq_true, decide_eq_true_eq] at h
  obtain ⟨h1, h2, h3, h4, h5, h6, h7, h8⟩ := h
  exact ⟨He.eqO_ok h1, He.eqO_ok h2, h3, h4, He.eqO_ok h5, He.eqO_ok h6, h7, h8⟩
theorem erB_ok {K : PySem.W.Frag} {h : Heap} {mg : Str → Option Value} (X : K.In h) (G : h.Ns mainGlobals mg) {x : Str} (g : (He.Fa.glo x).ok K = true) (e : erB K x = true) : Er K mg x := by
  unfold erB at e
  simp only [Bool.and_eq_true] at e
  obtain ⟨e1, e2, e3⟩ := e
  obtain ⟨a1, a2, a3, a4⟩ := He.exc_ok e1
  exact ⟨He.glo_ok X G g, a1, a2, a3, a4, excCB_ok e3, He.exm_ok e2⟩
/-- isinstance of one's own errors -/
def Kq (K : PySem.W.Frag) (x y : Str) (b : Bool) : Prop := PySem.W.kitOne K (.ref (He.ga K x)) (.ref (He.ga K y)) = some b
end WLam
namespace WLam
open PySem PySem.Spec PyProof.Rows L2 Evl WL LamX
section
variable {K : PySem.W.Frag} {r a : Addr} {ns : List Int} {H H' : Hp} {T : List (Addr × Str)}
theorem tabs_exb (R : RowOK K H r a ns) (t : Tabs T H) (e : ExB r H H') : Tabs T H' := fun p hp => by
  obtain ⟨ys, hr⟩ := R.is
  obtain ⟨ps, h1, h2, h3⟩ := t p hp
  refine ⟨ps, e _ _ (ne_of h1 hr (by intro z; cases z)) h1, h2, fun pos cv hc => ?_⟩
  obtain ⟨c, e1, e2⟩ := h3 pos cv hc
  exact ⟨c, e1, e _ _ (ne_of e2 hr (by unfold CodeO; intro z; cases z)) e2⟩
theorem rd_extN {b : Addr} {u : HO} (hu : ∀ ps, u ≠ .tbl ps) (e : ExtN H H') (h : Rd H b u) : Rd H' b u := by
  rcases h with h | ⟨o, h⟩
  · exact .inl (e _ _ h hu)
  · exact .inr ⟨o, e _ _ h fun ps z => by cases z⟩
theorem extN_l {b : Addr} {xs : List V} (e : ExtN H H') (h : SqL K H b xs) : SqL K H' b xs := by
  rcases h with h | h
  · exact .inl (rd_extN (fun ps z => by cases z) e h)
  · exact .inr h
theorem extN_t {b : Addr} {xs : List V} (e : ExtN H H') (h : SqT K H b xs) : SqT K H' b xs := by
  rcases h with h | h
  · exact .inl (rd_extN (fun ps z => by cases z) e h)
  · exact .inr h
theorem row_extN (R : RowOK K H r a ns) (e : ExtN H H') : RowOK K H' r a ns := by
  obtain ⟨p, s, t, h1, h2, h3, h⟩ := R.row
  exact ⟨⟨p, s, t, h1, h2, h3, e _ _ h fun ps z => by cases z⟩, extN_l e R.scr, R.len⟩
end
theorem flat_rv (x : Option Int) : flatV (rv x) = true := by cases x <;> rfl
end WLam
namespace WLam
open PySem PySem.Spec PyProof.Rows L2 Evl WL LamX
section
variable {s : L2.St} {H : Hp} {te : TE} {D : Ends} {tz : TS}
theorem seq_asg {i : Nat} (h : te s H fun v H1 => tz D (s.set i (some v)) H1) : tSeq (tAsg te (gName i)) tz D s H := h
theorem seq_asgG {g : TG} (h : te s H fun v H1 => g v s H1 fun s' H' => tz D s' H') : tSeq (tAsg te g) tz D s H := h
end
end WLam

/-! Numbers 2^w - 1 that are primes: each smaller number is coprime to them. -/
namespace WP
theorem pigeon : ∀ (m : Nat) (f : Nat → Nat), (∀ i, i < m → f i < m) → (∀ i j, i < m → j < m → f i = f j → i = j) →
    ∀ y, y < m → ∃ i, i < m ∧ f i = y := by
  intro m
  induction m with
  | zero => intro f _ _ y hy; omega
  | succ m ih =>
    intro f hf hi y hy
    by_cases hh : ∃ i, i < m + 1 ∧ f i = y
    · exact hh
    · exfalso
      have hn : ∀ i, i < m + 1 → f i ≠ y := fun i h e => hh ⟨i, h, e⟩
      have hv : ∀ i, i < m + 1 → (if f i = m then y else f i) < m := by
        intro i h
        have h1 := hf i h; have h2 := hn i h
        split <;> omega
      have hj : ∀ i j, i < m + 1 → j < m + 1 → (if f i = m then y else f i) = (if f j = m then y else f j) → i = j := by
        intro i j h1 h2 e
        have n1 := hn i h1; have n2 := hn j h2
        refine hi i j h1 h2 ?_
        split at e <;> split at e <;> omega
      obtain ⟨i, h1, h2⟩ := ih (fun i => if f i = m then y else f i) (fun i h => hv i (by omega)) (fun i j a b e => hj i j (by omega) (by omega) e) _ (hv m (by omega))
      have := hj i m (by omega) (by omega) h2
      omega
theorem one_of {g n a b : Nat} (h2 : 1 < n) (ha : g ^ a % n = 1) (k : Nat) : g ^ (a * k + b) % n = g ^ b % n := by
  rw [Nat.pow_add, Nat.pow_mul, Nat.mul_mod, Nat.pow_mod, ha, Nat.one_pow, Nat.mod_eq_of_lt h2, Nat.one_mul, Nat.mod_mod]
theorem one_gcd {g n : Nat} (h2 : 1 < n) (a b : Nat) : g ^ a % n = 1 → g ^ b % n = 1 → g ^ (Nat.gcd a b) % n = 1 := by
  induction a, b using Nat.gcd.induction with
  | H0 b => intro _ h; rw [Nat.gcd_zero_left]; exact h
  | H1 a b ha ih =>
    intro h3 h4
    rw [Nat.gcd_rec]
    refine ih ?_ h3
    have e := one_of (b := b % a) h2 h3 (b / a)
    rw [Nat.div_add_mod] at e
    rw [← e]; exact h4
def small (q : Nat) : Bool := decide (1 < q) && (List.range q).all (fun d => decide (d ≤ 1) || decide (q % d ≠ 0))
theorem small_cop {q e : Nat} (h : small q = true) (hd : ¬ q ∣ e) : Nat.Coprime e q := by
  unfold small at h
  simp only [Bool.and_eq_true, decide_eq_true_eq, List.all_eq_true, Bool.or_eq_true] at h
  obtain ⟨h1, h2⟩ := h
  have g1 := Nat.gcd_dvd_left e q
  have g2 := Nat.gcd_dvd_right e q
  have g3 := Nat.le_of_dvd (by omega) g2
  have g4 : 0 < Nat.gcd e q := Nat.gcd_pos_of_pos_right _ (by omega)
  by_cases e1 : Nat.gcd e q = q
  · rw [e1] at g1; exact absurd g1 hd
  · have := h2 (Nat.gcd e q) (List.mem_range.mpr (by omega))
    rcases this with h3 | h3
    · show Nat.gcd e q = 1; omega
    · exact absurd (Nat.mod_eq_zero_of_dvd g2) h3
theorem cop_prod {e : Nat} : ∀ (Q : List Nat), (∀ q ∈ Q, Nat.Coprime e q) → Nat.Coprime e (Q.foldr (· * ·) 1)
  | [], _ => by show Nat.gcd e 1 = 1; exact Nat.gcd_one_right e
  | q :: r, h => Nat.Coprime.mul_right (h q (List.mem_cons_self ..)) (cop_prod r (fun x hx => h x (List.mem_cons_of_mem _ hx)))
theorem lucas {n g N : Nat} (Q : List Nat) (h2 : 1 < n) (hN : n = N + 1) (hQ : Q.foldr (· * ·) 1 = N) (hs : ∀ q ∈ Q, small q = true)
    (h1 : g ^ N % n = 1) (hq : ∀ q ∈ Q, g ^ (N / q) % n ≠ 1) : ∀ a, 0 < a → a < n → Nat.Coprime a n := by
  have N1 : 0 < N := by omega
  have cg : Nat.Coprime g n := by
    have d1 := Nat.gcd_dvd_left g n
    have d2 := Nat.gcd_dvd_right g n
    have d3 : Nat.gcd g n ∣ g ^ N := Nat.dvd_trans d1 (Nat.dvd_of_pow_dvd (Nat.le_refl 1) (by rw [Nat.pow_one]; exact Nat.dvd_trans (Nat.dvd_refl g) (by obtain ⟨k, rfl⟩ : ∃ k, N = k + 1 := ⟨N - 1, by omega⟩; exact ⟨g ^ k, by rw [Nat.pow_succ, Nat.mul_comm]⟩)))
    have d4 : Nat.gcd g n ∣ g ^ N % n := (Nat.dvd_mod_iff d2).mpr d3
    rw [h1] at d4
    exact Nat.dvd_one.mp d4
  have cp : ∀ k, Nat.Coprime (g ^ k) n := fun k => Nat.Coprime.pow_left k cg
  have ord : ∀ t, 0 < t → t < N → g ^ t % n ≠ 1 := by
    intro t t0 t1 ht
    have hh := one_gcd h2 t N ht h1
    obtain ⟨h, hh'⟩ : ∃ h, h = Nat.gcd t N := ⟨_, rfl⟩
    rw [← hh'] at hh
    have hd : h ∣ N := hh' ▸ Nat.gcd_dvd_right t N
    have hl : h ≤ t := Nat.le_of_dvd t0 (hh' ▸ Nat.gcd_dvd_left t N)
    obtain ⟨e, he⟩ := hd
    have ce : Nat.Coprime e N := by
      have := cop_prod (e := e) Q (fun q hm => small_cop (hs q hm) (by
        intro hqe
        obtain ⟨e2, he2⟩ := hqe
        refine hq q hm ?_
        have q0 : 0 < q := by
          have := hs q hm; unfold small at this; simp only [Bool.and_eq_true, decide_eq_true_eq] at this; omega
        have : N / q = h * e2 + 0 := by
          rw [he, he2, Nat.mul_left_comm, Nat.mul_div_cancel_left _ q0, Nat.add_zero]
        rw [this, one_of h2 hh, Nat.pow_zero, Nat.mod_eq_of_lt h2]))
      rw [hQ] at this; exact this
    have e1 := Nat.Coprime.eq_one_of_dvd ce ⟨h, by rw [he, Nat.mul_comm]⟩
    rw [e1] at he; omega
  have inj : ∀ i j, i < j → j < N → g ^ i % n ≠ g ^ j % n := by
    intro i j hij hj e
    obtain ⟨t, rfl⟩ : ∃ t, j = i + t := ⟨j - i, by omega⟩
    have hle : 1 ≤ g ^ t := Nat.one_le_iff_ne_zero.mpr (by
      intro h0
      have := cp t
      rw [h0] at this
      have := Nat.gcd_zero_left n
      have e3 : Nat.gcd 0 n = 1 := by assumption
      omega)
    have hd : n ∣ g ^ i * (g ^ t - 1) := by
      rw [Nat.mul_sub, Nat.mul_one, ← Nat.pow_add]
      exact Nat.dvd_of_mod_eq_zero (Nat.sub_mod_eq_zero_of_mod_eq e.symm)
    have := Nat.Coprime.dvd_of_dvd_mul_left (cp i).symm hd
    obtain ⟨c, hc⟩ := this
    refine ord t (by omega) (by omega) ?_
    have : g ^ t = n * c + 1 := by omega
    rw [this, Nat.mul_add_mod, Nat.mod_eq_of_lt h2]
  have nz : ∀ k, 0 < g ^ k % n := by
    intro k
    refine Nat.pos_of_ne_zero (fun h => ?_)
    have d : n ∣ g ^ k := Nat.dvd_of_mod_eq_zero h
    have : Nat.gcd (g ^ k) n = n := Nat.gcd_eq_right d
    have e3 : Nat.gcd (g ^ k) n = 1 := cp k
    omega
  intro a a0 a1
  obtain ⟨k, hk, e⟩ := pigeon N (fun k => g ^ k % n - 1) (fun i _ => by
      have := Nat.mod_lt (g ^ i) (show 0 < n by omega); have := nz i; show g ^ i % n - 1 < N; omega)
    (fun i j hi hj e => by
      have e' : g ^ i % n - 1 = g ^ j % n - 1 := e
      have n1 := nz i; have n2 := nz j
      have e2 : g ^ i % n = g ^ j % n := by omega
      rcases Nat.lt_trichotomy i j with h | h | h
      · exact absurd e2 (inj i j h hj)
      · exact h
      · exact absurd e2.symm (inj j i h hi)) (a - 1) (by omega)
  have e' : g ^ k % n - 1 = a - 1 := e
  have n1 := nz k
  have ea : a = g ^ k % n := by omega
  show Nat.gcd a n = 1
  rw [ea, ← Nat.gcd_rec, Nat.gcd_comm]
  exact cp k
/-- powers by squares -/
def pm (n g : Nat) : Nat → Nat → Nat
  | 0, _ => 1 % n
  | t + 1, k => if k % 2 = 1 then (pm n g t (k / 2)) ^ 2 * g % n else (pm n g t (k / 2)) ^ 2 % n
theorem pm_eq (n g : Nat) : ∀ t k, k < 2 ^ t → pm n g t k = g ^ k % n
  | 0, k, h => by
    have : k = 0 := by simpa using h
    subst this; rfl
  | t + 1, k, h => by
    have ih := pm_eq n g t (k / 2) (by rw [Nat.pow_succ] at h; omega)
    have hk := Nat.div_add_mod k 2
    unfold pm
    split
    · rename_i h1
      rw [ih, Nat.mul_mod, ← Nat.pow_mod, ← Nat.pow_mul, ← Nat.mul_mod]
      rw [← Nat.pow_succ]
      congr 2; omega
    · rename_i h1
      rw [ih, ← Nat.pow_mod, ← Nat.pow_mul]
      congr 2; omega
def cert (n g : Nat) (Q : List Nat) : Bool :=
  decide (Q.foldr (· * ·) 1 = n - 1) && decide (1 < n) && decide (n < 2 ^ 64) && Q.all small && decide (pm n g 64 (n - 1) = 1) && Q.all (fun q => decide (pm n g 64 ((n - 1) / q) ≠ 1))
theorem cop_cert {n g : Nat} {Q : List Nat} (h : cert n g Q = true) : ∀ a, 0 < a → a < n → Nat.Coprime a n := by
  unfold cert at h
  simp only [Bool.and_eq_true, decide_eq_true_eq, List.all_eq_true] at h
  obtain ⟨⟨⟨⟨⟨h1, h2⟩, h3⟩, h4⟩, h5⟩, h6⟩ := h
  refine lucas (g := g) (N := n - 1) Q h2 (by omega) h1 h4 ?_ ?_
  · rw [← pm_eq n g 64 _ (by omega)]; exact h5
  · intro q hq
    have := Nat.div_le_self (n - 1) q
    rw [← pm_eq n g 64 _ (by omega)]; exact h6 q hq
theorem cop5 : ∀ a, 0 < a → a < 31 → Nat.Coprime a 31 := cop_cert (g := 3) (Q := [2, 3, 5]) (by decide +kernel)
theorem cop7 : ∀ a, 0 < a → a < 127 → Nat.Coprime a 127 := cop_cert (g := 3) (Q := [2, 3, 3, 7]) (by decide +kernel)
theorem cop13 : ∀ a, 0 < a → a < 8191 → Nat.Coprime a 8191 := cop_cert (g := 17) (Q := [2, 3, 3, 5, 7, 13]) (by decide +kernel)
theorem cop17 : ∀ a, 0 < a → a < 131071 → Nat.Coprime a 131071 := cop_cert (g := 3) (Q := [2, 3, 5, 17, 257]) (by decide +kernel)
theorem cop19 : ∀ a, 0 < a → a < 524287 → Nat.Coprime a 524287 := cop_cert (g := 3) (Q := [2, 3, 3, 3, 7, 19, 73]) (by decide +kernel)
theorem cop31 : ∀ a, 0 < a → a < 2147483647 → Nat.Coprime a 2147483647 := cop_cert (g := 7) (Q := [2, 3, 3, 7, 11, 31, 151, 331]) (by decide +kernel)
theorem cop61 : ∀ a, 0 < a → a < 2305843009213693951 → Nat.Coprime a 2305843009213693951 :=
  cop_cert (g := 37) (Q := [2, 3, 3, 5, 5, 7, 11, 13, 31, 41, 61, 151, 331, 1321]) (by decide +kernel)
def mers (w : Nat) : Bool := [2, 3, 5, 7, 13, 17, 19, 31, 61].contains w
theorem mers_cop {w : Nat} (h : mers w = true) (h4 : 4 ≤ w) : ∀ a, 0 < a → a < 2 ^ w - 1 → Nat.Coprime a (2 ^ w - 1) := by
  unfold mers at h
  simp only [List.contains_cons, List.contains_nil, Bool.or_false, Bool.or_eq_true, beq_iff_eq] at h
  rcases h with h | h | h | h | h | h | h | h | h
  · omega
  · omega
  · subst h; exact cop5
  · subst h; exact cop7
  · subst h; exact cop13
  · subst h; exact cop17
  · subst h; exact cop19
  · subst h; exact cop31
  · subst h; exact cop61
theorem cop5' : ∀ a, 0 < a → a < 7 → Nat.Coprime a 7 := cop_cert (g := 3) (Q := [2, 3]) (by decide +kernel)
/-- the product of two is a multiple only where one of them is -/
theorem mers_int {w : Nat} (h : mers w = true) (h4 : 4 ≤ w) {a b : Int} (ha : a ≠ 0) (hl : a.natAbs < 2 ^ w - 1)
    (hd : ((2 ^ w - 1 : Nat) : Int) ∣ a * b) : ((2 ^ w - 1 : Nat) : Int) ∣ b := by
  have c := mers_cop h h4 a.natAbs (by omega) hl
  have d : 2 ^ w - 1 ∣ a.natAbs * b.natAbs := by
    have := Int.natAbs_dvd_natAbs.mpr hd
    rw [Int.natAbs_mul] at this
    exact this
  have e := Nat.Coprime.dvd_of_dvd_mul_left (Nat.Coprime.symm c) d
  exact Int.natAbs_dvd_natAbs.mp e
end WP

/-! The rules of arithmetic in formats: when each holds, and what breaks it. -/
set_option maxHeartbeats 4000000
namespace WM
inductive Rl where
  | sumG | prodG | dist | dneg | diff | addB | divi | remR | negQ | shift | absV | ordD | monoS | aver | squa | zeroP | canc
  deriving DecidableEq
def Rl.ar : Rl → Nat
  | .sumG | .prodG | .dist | .monoS | .canc => 3
  | .dneg | .shift | .absV | .squa => 1
  | _ => 2
/-- an operation on two results -/
def op2 (f : Fmt) (g : Int → Int → Int) (x y : Option Int) : Option Int := match x, y with
  | some a, some b => fitR f (g a b)
  | _, _ => none
def addO (f : Fmt) (x y : Option Int) : Option Int := op2 f (· + ·) x y
def subO (f : Fmt) (x y : Option Int) : Option Int := op2 f (· - ·) x y
def mulO (f : Fmt) (x y : Option Int) : Option Int := op2 f (· * ·) x y
def divO (f : Fmt) (x y : Option Int) : Option Int := op2 f (quo f.dv) x y
def negO (f : Fmt) (x : Option Int) : Option Int := match x with
  | some a => fitR f (-a)
  | none => none
def remO (f : Fmt) (a b : Int) : Option Int := fitR f (a - b * quo f.dv a b)
def leO (x y : Option Int) : Bool := match x, y with
  | some a, some b => decide (a ≤ b)
  | _, _ => false
def ltO (x y : Option Int) : Bool := match x, y with
  | some a, some b => decide (a < b)
  | _, _ => false
/-- whether a rule holds for numbers -/
def ruleB (f : Fmt) (r : Rl) (a b c : Int) : Bool := match r with
  | .sumG => decide (addO f (addO f (some a) (some b)) (some c) = addO f (some a) (addO f (some b) (some c)))
  | .prodG => decide (mulO f (mulO f (some a) (some b)) (some c) = mulO f (some a) (mulO f (some b) (some c)))
  | .dist => decide (mulO f (some a) (addO f (some b) (some c)) = addO f (mulO f (some a) (some b)) (mulO f (some a) (some c)))
  | .dneg => decide (negO f (negO f (some a)) = some a)
  | .diff => decide (subO f (some a) (some b) = addO f (some a) (negO f (some b)))
  | .addB => decide (addO f (subO f (some a) (some b)) (some b) = some a)
  | .divi => decide (b = 0) || decide (addO f (mulO f (divO f (some a) (some b)) (some b)) (remO f a b) = some a)
  | .remR => decide (b = 0) || (leO (some 0) (remO f a b) && ltO (remO f a b) (some (b.natAbs : Int)))
  | .negQ => decide (b = 0) || decide (divO f (negO f (some a)) (some b) = negO f (divO f (some a) (some b)))
  | .shift => decide (divO f (some a) (some 2) = some (a.fdiv 2))
  | .absV => leO (some 0) (if 0 ≤ a then some a else negO f (some a))
  | .ordD => decide (subO f (some a) (some b) ≠ none) && (decide (a < b) == ltO (subO f (some a) (some b)) (some 0))
  | .monoS => decide (b < a) || leO (addO f (some a) (some c)) (addO f (some b) (some c))
  | .aver => decide (b < a) || (leO (some a) (addO f (some a) (divO f (subO f (some b) (some a)) (some 2))) &&
      leO (addO f (some a) (divO f (subO f (some b) (some a)) (some 2))) (some b))
  | .squa => leO (some 0) (mulO f (some a) (some a))
  | .zeroP => decide (a = 0) || decide (b = 0) || decide (mulO f (some a) (some b) ≠ some 0)
  | .canc => decide (a = 0) || decide (mulO f (some a) (some b) ≠ mulO f (some a) (some c)) || decide (b = c)
def isS (f : Fmt) : Bool := decide (f.sg = .sym)
def isT (f : Fmt) : Bool := decide (f.sg = .twos)
def isU (f : Fmt) : Bool := decide (f.sg = .uns)
def isSat (f : Fmt) : Bool := decide (f.ov = .sat)
def isTrap (f : Fmt) : Bool := decide (f.ov = .trap)
def isWrap (f : Fmt) : Bool := decide (f.ov = .wrap)
def isD (f : Fmt) (d : Dv) : Bool := decide (f.dv = d)
/-- whether a rule holds for all numbers, by the conditions -/
def holdsB (f : Fmt) : Rl → Bool
  | .sumG => isWrap f || isU f
  | .prodG => isWrap f || (isSat f && (isS f || isU f))
  | .dist => isWrap f || (isSat f && isU f)
  | .dneg => isS f || isWrap f
  | .diff => isS f || isWrap f
  | .addB => isWrap f
  | .divi => isWrap f || (isS f && isD f .zero) || (isU f && (isD f .floor || isD f .zero || isD f .euc))
  | .remR => isD f .euc || (isU f && (isD f .floor || isD f .zero || isSat f))
  | .negQ => (isS f && (isD f .zero || isD f .even)) || (isU f && isSat f) || (isU f && isTrap f && isD f .ceil)
  | .shift => isD f .floor || isD f .euc || (isU f && isD f .zero)
  | .absV => isS f || isU f || isSat f
  | .ordD => isSat f && (isS f || isT f)
  | .monoS => isSat f
  | .aver => isU f || isSat f
  | .squa => isSat f || (isU f && isWrap f)
  | .zeroP => isSat f || isTrap f || (isS f && WP.mers f.w)
  | .canc => isWrap f && isS f && WP.mers f.w

/-! ### fitting by kinds of overflow -/
def wr (f : Fmt) (e : Int) : Int := lo f + (e - lo f).fmod (many f)
def cl (f : Fmt) (e : Int) : Int := if e < lo f then lo f else if hi f < e then hi f else e
theorem fitR_out {f : Fmt} {e : Int} (h : ¬ fits f e) : fitR f e = match f.ov with
    | .wrap => some (lo f + (e - lo f).fmod (many f))
    | .sat => some (if e < lo f then lo f else hi f)
    | .trap => none := if_neg h
theorem wr_id {f : Fmt} {x : Int} (h : fits f x) : wr f x = x := by
  have F := facts f
  obtain ⟨h1, h2⟩ := h
  unfold wr
  rw [Int.fmod_eq_emod_of_nonneg _ (show 0 ≤ many f by omega), Int.emod_eq_of_lt (by omega) (by omega)]
  omega
theorem fitW {f : Fmt} (h : f.ov = .wrap) (e : Int) : fitR f e = some (wr f e) := by
  by_cases hf : fits f e
  · rw [fitR_in hf, wr_id hf]
  · rw [fitR_out hf, h]; rfl
theorem fitS {f : Fmt} (h : f.ov = .sat) (e : Int) : fitR f e = some (cl f e) := by
  have F := facts f
  by_cases hf : fits f e
  · rw [fitR_in hf]; obtain ⟨h1, h2⟩ := hf
    unfold cl; rw [if_neg (by omega), if_neg (by omega)]
  · rw [fitR_out hf, h]; simp only []
    unfold cl; unfold fits at hf
    congr 1
    split
    · rfl
    · rw [if_pos (by omega)]
theorem fitT {f : Fmt} (h : f.ov = .trap) (e : Int) : fitR f e = if lo f ≤ e ∧ e ≤ hi f then some e else none := by
  by_cases hf : fits f e
  · rw [fitR_in hf]; exact (if_pos hf).symm
  · rw [fitR_out hf, h]; exact (if_neg hf).symm
theorem wr_mod (f : Fmt) (e : Int) : ∃ k : Int, e = wr f e + many f * k := by
  refine ⟨(e - lo f).fdiv (many f), ?_⟩
  have := Int.mul_fdiv_add_fmod (e - lo f) (many f)
  unfold wr; omega
theorem wr_fits (f : Fmt) (e : Int) : lo f ≤ wr f e ∧ wr f e ≤ hi f := by
  have F := facts f
  have h1 := Int.fmod_nonneg_of_pos (e - lo f) (show 0 < many f by omega)
  have h2 := Int.fmod_lt_of_pos (e - lo f) (show 0 < many f by omega)
  unfold wr; omega
theorem wr_eq {f : Fmt} {x y k : Int} (h : x = y + many f * k) : wr f x = wr f y := by
  unfold wr
  have : x - lo f = (y - lo f) + many f * k := by omega
  rw [this, Int.add_mul_fmod_self_left]
theorem wr_addl (f : Fmt) (x y : Int) : wr f (wr f x + y) = wr f (x + y) := by
  obtain ⟨k, hk⟩ := wr_mod f x
  exact (wr_eq (k := k) (by omega)).symm
theorem wr_addr (f : Fmt) (x y : Int) : wr f (x + wr f y) = wr f (x + y) := by
  obtain ⟨k, hk⟩ := wr_mod f y
  exact (wr_eq (k := k) (by omega)).symm
theorem wr_mull (f : Fmt) (x y : Int) : wr f (wr f x * y) = wr f (x * y) := by
  obtain ⟨k, hk⟩ := wr_mod f x
  refine (wr_eq (k := k * y) ?_).symm
  generalize wr f x = z at hk
  subst hk
  rw [Int.add_mul, Int.mul_assoc]
theorem wr_mulr (f : Fmt) (x y : Int) : wr f (x * wr f y) = wr f (x * y) := by
  rw [Int.mul_comm, wr_mull, Int.mul_comm]
theorem wr_neg (f : Fmt) (x : Int) : wr f (- wr f x) = wr f (-x) := by
  obtain ⟨k, hk⟩ := wr_mod f x
  refine (wr_eq (k := -k) ?_).symm
  rw [Int.mul_neg]; omega
/-- the numbers by signs -/
theorem sgn (f : Fmt) : (isS f = true → lo f = - hi f ∧ f.sg = .sym) ∧ (isT f = true → lo f = - hi f - 1 ∧ f.sg = .twos) ∧ (isU f = true → lo f = 0 ∧ f.sg = .uns) ∧
    (isS f = true ∨ isT f = true ∨ isU f = true) ∧ (lo f = - hi f ∨ lo f = - hi f - 1 ∨ lo f = 0) := by
  obtain ⟨w, sg, ov, dv, l1, l2⟩ := f
  cases sg <;> (simp [isS, isT, isU, lo, hi, bnd]; try omega)
/-- quotients by exact sizes -/
theorem quo_spec (d : Dv) (a b : Int) (hb : b ≠ 0) : ∃ s t r u : Int, (a.natAbs : Int) = t + r ∧ 0 ≤ r ∧ r < b.natAbs ∧ 0 ≤ s ∧ s ≤ t ∧ t = s * b.natAbs ∧
    (1 < (b.natAbs : Int) → 2 * s ≤ t) ∧ (u = 0 ∨ u = 1) ∧ (r = 0 → u = 0) ∧ (r ≠ 0 → u = if qup d a b r s then 1 else 0) ∧
    ((decide (a < 0) != decide (b < 0)) = true → quo d a b = -(s + u)) ∧ ((decide (a < 0) != decide (b < 0)) = false → quo d a b = s + u) ∧
    (0 ≤ a → b * quo d a b = t + u * b.natAbs) ∧ (a < 0 → b * quo d a b = - (t + u * b.natAbs)) := by
  have n0 : 0 < (b.natAbs : Int) := by omega
  obtain ⟨n, hn⟩ : ∃ n : Int, n = b.natAbs := ⟨_, rfl⟩
  obtain ⟨m, hm⟩ : ∃ m : Int, m = a.natAbs := ⟨_, rfl⟩
  rw [← hn] at n0
  have m0 : 0 ≤ m := by omega
  have q := (quoS_eq d a b hb).symm
  unfold quoS at q
  simp only [← hn, ← hm] at q
  have h1 := Int.mul_fdiv_self_le (x := m) n0
  have h2 := Int.lt_mul_fdiv_self_add (x := m) n0
  have h3 : 0 ≤ m.fdiv n := Int.fdiv_nonneg m0 (by omega)
  have c : m.fdiv n * n = n * m.fdiv n := Int.mul_comm _ _
  rw [c] at q
  obtain ⟨s, hs⟩ : ∃ s, s = m.fdiv n := ⟨_, rfl⟩
  rw [← hs] at q h1 h2 h3
  obtain ⟨t, ht⟩ : ∃ t, t = n * s := ⟨_, rfl⟩
  have hst : s ≤ t := by
    have := Int.mul_le_mul_of_nonneg_right (show 1 ≤ n by omega) h3
    omega
  have h2s : 1 < n → 2 * s ≤ t := by
    intro h
    have := Int.mul_le_mul_of_nonneg_right (show 2 ≤ n by omega) h3
    omega
  rw [← ht] at q h1 h2
  obtain ⟨u, hu⟩ : ∃ u : Int, u = if m - t = 0 then 0 else if qup d a b (m - t) s then 1 else 0 := ⟨_, rfl⟩
  have u01 : u = 0 ∨ u = 1 := by rw [hu]; split <;> (try split) <;> simp
  have qv : quo d a b = if (decide (a < 0) != decide (b < 0)) = true then -(s + u) else s + u := by
    rw [q, hu]
    split
    · split <;> omega
    · split
      · split
        · omega
        · omega
      · split
        · omega
        · omega
  have pr : n * (s + u) = t + u * n := by rw [Int.mul_add, ← ht, Int.mul_comm n u]
  refine ⟨s, t, m - t, u, by omega, by omega, by omega, h3, hst, by rw [ht, Int.mul_comm, hn], by rw [← hn]; exact h2s, u01, ?_, ?_, ?_, ?_, ?_, ?_⟩
  · intro h; rw [hu, if_pos h]
  · intro h; rw [hu, if_neg h]
  · intro h; rw [qv, if_pos h]
  · intro h; rw [qv, h]; simp
  · intro ha
    have e1 : decide (a < 0) = false := by simp; omega
    rw [qv, e1]
    by_cases hb2 : b < 0
    · have e2 : decide (b < 0) = true := by simp; omega
      have e3 : b = -n := by omega
      rw [e2, ← hn, e3]
      show -n * (if (false != true) = true then -(s + u) else s + u) = _
      rw [if_pos (by decide), Int.neg_mul_neg, pr]
    · have e2 : decide (b < 0) = false := by simp; omega
      have e3 : b = n := by omega
      rw [e2, ← hn, e3]
      show n * (if (false != false) = true then -(s + u) else s + u) = _
      rw [if_neg (by decide), pr]
  · intro ha
    have e1 : decide (a < 0) = true := by simp; omega
    rw [qv, e1]
    by_cases hb2 : b < 0
    · have e2 : decide (b < 0) = true := by simp; omega
      have e3 : b = -n := by omega
      rw [e2, ← hn, e3]
      show -n * (if (true != true) = true then -(s + u) else s + u) = _
      rw [if_neg (by decide), Int.neg_mul, pr]
    · have e2 : decide (b < 0) = false := by simp; omega
      have e3 : b = n := by omega
      rw [e2, ← hn, e3]
      show n * (if (true != false) = true then -(s + u) else s + u) = _
      rw [if_pos (by decide), Int.mul_neg, pr]
theorem quo_zero (d : Dv) (b : Int) (hb : b ≠ 0) : quo d 0 b = 0 := by
  obtain ⟨s, t, r, u, h1, h2, h3, h4, h5, _, _, h6, h7, h8, h9, h10, _, _⟩ := quo_spec d 0 b hb
  have z : ((0 : Int).natAbs : Int) = 0 := rfl
  have := h7 (by omega)
  cases hc : (decide ((0 : Int) < 0) != decide (b < 0))
  · have := h10 hc; omega
  · have := h9 hc; omega
theorem quo_le (d : Dv) (a b : Int) (hb : b ≠ 0) : -(a.natAbs : Int) ≤ quo d a b ∧ quo d a b ≤ a.natAbs := by
  obtain ⟨s, t, r, u, h1, h2, h3, h4, h5, _, h11, h6, h7, h8, h9, h10, _, _⟩ := quo_spec d a b hb
  have : s + u ≤ a.natAbs := by
    by_cases hr : r = 0
    · have := h7 hr; omega
    · have := h11 (by omega); omega
  cases hc : (decide (a < 0) != decide (b < 0))
  · have := h10 hc; omega
  · have := h9 hc; omega
/-- quotients of numbers that are not negative -/
theorem quo_nn (d : Dv) {a b : Int} (ha : 0 ≤ a) (hb : 0 < b) : ∃ s t r u : Int, a = t + r ∧ 0 ≤ r ∧ r < b ∧ 0 ≤ s ∧ s ≤ t ∧ t = s * b ∧ (1 < b → 2 * s ≤ t) ∧
    (u = 0 ∨ u = 1) ∧ (r = 0 → u = 0) ∧ (d = .floor → u = 0) ∧ (d = .zero → u = 0) ∧ (d = .euc → u = 0) ∧ (d = .ceil → r ≠ 0 → u = 1) ∧
    quo d a b = s + u ∧ b * quo d a b = t + u * b := by
  obtain ⟨s, t, r, u, h1, h2, h3, h4, h5, h6, h7, h8, h9, h10, h11, h12, h13, h14⟩ := quo_spec d a b (by omega)
  have eb : (b.natAbs : Int) = b := by omega
  have ea : (a.natAbs : Int) = a := by omega
  rw [eb] at h3 h6 h7 h13
  rw [ea] at h1
  have d1 : decide (a < 0) = false := by simp; omega
  have d2 : decide (b < 0) = false := by simp; omega
  refine ⟨s, t, r, u, h1, h2, h3, h4, h5, h6, h7, h8, h9, ?_, ?_, ?_, ?_, h12 (by rw [d1, d2]; rfl), h13 ha⟩
  · intro e; subst e
    by_cases hr : r = 0
    · exact h9 hr
    · have := h10 hr; simp [qup, d1, d2] at this; exact this
  · intro e; subst e
    by_cases hr : r = 0
    · exact h9 hr
    · have := h10 hr; simp [qup] at this; exact this
  · intro e; subst e
    by_cases hr : r = 0
    · exact h9 hr
    · have := h10 hr; simp [qup, d1] at this; omega
  · intro e hr; subst e
    have := h10 hr; simp [qup, d1, d2] at this; exact this
end WM

/-! The rules that hold. -/
set_option maxHeartbeats 4000000
namespace WM
theorem fitN {f : Fmt} (h : f.ov = .trap) {e : Int} (hf : ¬ fits f e) : fitR f e = none := by
  rw [fitR_out hf, h]
theorem sg3 {f : Fmt} : (isS f = true → lo f = - hi f) ∧ (isT f = true → lo f = - hi f - 1) ∧ (isU f = true → lo f = 0) := by
  obtain ⟨h1, h2, h3, _⟩ := sgn f
  exact ⟨fun h => (h1 h).1, fun h => (h2 h).1, fun h => (h3 h).1⟩
theorem hw_ {f : Fmt} (h : isWrap f = true) : f.ov = .wrap := of_decide_eq_true h
theorem hs_ {f : Fmt} (h : isSat f = true) : f.ov = .sat := of_decide_eq_true h
theorem ht_ {f : Fmt} (h : isTrap f = true) : f.ov = .trap := of_decide_eq_true h
theorem hd_ {f : Fmt} {d : Dv} (h : isD f d = true) : f.dv = d := of_decide_eq_true h
theorem ov3 (f : Fmt) : f.ov = .sat ∨ f.ov = .trap ∨ f.ov = .wrap := by cases f.ov <;> simp
theorem h_sumG {f : Fmt} {a b c : Int} (h : holdsB f .sumG = true) (ha : fits f a) (hb : fits f b) (hc : fits f c) : ruleB f .sumG a b c = true := by
  simp only [holdsB, Bool.or_eq_true] at h
  refine decide_eq_true ?_
  have F := facts f
  rcases h with h | h
  · simp only [addO, op2, fitW (hw_ h), wr_addl, wr_addr, Int.add_assoc]
  · have U := sg3.2.2 h
    unfold fits at ha hb hc
    rcases ov3 f with o | o | o
    · simp only [addO, op2, fitS o, cl]
      congr 1
      repeat' split
      all_goals omega
    · by_cases h1 : fits f (a + b) <;> by_cases h2 : fits f (b + c) <;> by_cases h3 : fits f (a + b + c) <;>
        have h4 := h3 <;> rw [Int.add_assoc] at h4 <;>
        simp only [addO, op2, fitR_in, fitN o, h1, h2, h3, h4, not_false_eq_true] <;> first | (congr 1; omega) | (exfalso; unfold fits at *; omega)
    · simp only [addO, op2, fitW o, wr_addl, wr_addr, Int.add_assoc]
theorem cl_mul {f : Fmt} (hs : lo f = - hi f ∨ lo f = 0) {x y : Int} (hx : lo f = 0 → 0 ≤ x ∧ 0 ≤ y) : cl f (cl f x * y) = cl f (x * y) := by
  have F := facts f
  by_cases y0 : y = 0
  · subst y0; simp
  by_cases h1 : x < lo f
  · have e : cl f x = lo f := by unfold cl; rw [if_pos h1]
    rw [e]
    rcases hs with s | s
    · by_cases hy : 0 < y
      · have g1 : lo f * y ≤ lo f * 1 := Int.mul_le_mul_of_nonpos_left (by omega) (by omega)
        have g2 : x * y ≤ x * 1 := Int.mul_le_mul_of_nonpos_left (by omega) (by omega)
        unfold cl; repeat' split
        all_goals omega
      · have g1 : lo f * (-1) ≤ lo f * y := Int.mul_le_mul_of_nonpos_left (by omega) (by omega)
        have g2 : x * (-1) ≤ x * y := Int.mul_le_mul_of_nonpos_left (by omega) (by omega)
        unfold cl; repeat' split
        all_goals omega
    · have := hx s; omega
  by_cases h2 : hi f < x
  · have e : cl f x = hi f := by unfold cl; rw [if_neg h1, if_pos h2]
    rw [e]
    by_cases hy : 0 < y
    · have g1 : hi f * 1 ≤ hi f * y := Int.mul_le_mul_of_nonneg_left (by omega) (by omega)
      have g2 : x * 1 ≤ x * y := Int.mul_le_mul_of_nonneg_left (by omega) (by omega)
      unfold cl; repeat' split
      all_goals omega
    · rcases hs with s | s
      · have g1 : hi f * y ≤ hi f * (-1) := Int.mul_le_mul_of_nonneg_left (by omega) (by omega)
        have g2 : x * y ≤ x * (-1) := Int.mul_le_mul_of_nonneg_left (by omega) (by omega)
        unfold cl; repeat' split
        all_goals omega
      · have := hx s; omega
  · have e : cl f x = x := by unfold cl; rw [if_neg h1, if_neg h2]
    rw [e]
theorem h_prodG {f : Fmt} {a b c : Int} (h : holdsB f .prodG = true) (ha : fits f a) (hb : fits f b) (hc : fits f c) : ruleB f .prodG a b c = true := by
  simp only [holdsB, Bool.or_eq_true, Bool.and_eq_true] at h
  refine decide_eq_true ?_
  have F := facts f
  rcases h with h | ⟨h, g⟩
  · simp only [mulO, op2, fitW (hw_ h), wr_mull, wr_mulr, Int.mul_assoc]
  · simp only [mulO, op2, fitS (hs_ h)]
    have hs : lo f = - hi f ∨ lo f = 0 := by
      rcases g with g | g
      · exact Or.inl (sg3.1 g)
      · exact Or.inr (sg3.2.2 g)
    unfold fits at ha hb hc
    rw [cl_mul hs (fun z => ⟨Int.mul_nonneg (by omega) (by omega), by omega⟩), Int.mul_comm a (cl f _), cl_mul hs (fun z => ⟨Int.mul_nonneg (by omega) (by omega), by omega⟩), Int.mul_assoc, Int.mul_comm (b * c) a]
theorem h_dist {f : Fmt} {a b c : Int} (h : holdsB f .dist = true) (ha : fits f a) (hb : fits f b) (hc : fits f c) : ruleB f .dist a b c = true := by
  simp only [holdsB, Bool.or_eq_true, Bool.and_eq_true] at h
  refine decide_eq_true ?_
  have F := facts f
  rcases h with h | ⟨h, g⟩
  · simp only [addO, mulO, op2, fitW (hw_ h), wr_mull, wr_mulr, wr_addl, wr_addr, Int.mul_add]
  · simp only [addO, mulO, op2, fitS (hs_ h)]
    have U := sg3.2.2 g
    unfold fits at ha hb hc
    rw [Int.mul_comm a (cl f _), cl_mul (Or.inr U) (fun z => ⟨by omega, by omega⟩), Int.mul_comm _ a, Int.mul_add]
    have g1 : 0 ≤ a * b := Int.mul_nonneg (by omega) (by omega)
    have g2 : 0 ≤ a * c := Int.mul_nonneg (by omega) (by omega)
    generalize a * b = x at *
    generalize a * c = y at *
    congr 1
    unfold cl
    repeat' split
    all_goals omega
theorem neg_fits {f : Fmt} (h : isS f = true) {a : Int} (ha : fits f a) : fits f (-a) := by
  have := sg3.1 h; unfold fits at *; omega
theorem h_dneg {f : Fmt} {a b c : Int} (h : holdsB f .dneg = true) (ha : fits f a) : ruleB f .dneg a b c = true := by
  simp only [holdsB, Bool.or_eq_true] at h
  refine decide_eq_true ?_
  rcases h with h | h
  · simp only [negO, fitR_in (neg_fits h ha), Int.neg_neg, fitR_in ha]
  · simp only [negO, fitW (hw_ h), wr_neg, Int.neg_neg, wr_id ha]
theorem h_diff {f : Fmt} {a b c : Int} (h : holdsB f .diff = true) (ha : fits f a) (hb : fits f b) : ruleB f .diff a b c = true := by
  simp only [holdsB, Bool.or_eq_true] at h
  refine decide_eq_true ?_
  rcases h with h | h
  · simp only [subO, addO, op2, negO, fitR_in (neg_fits h hb), Int.sub_eq_add_neg]
  · simp only [subO, addO, op2, negO, fitW (hw_ h), wr_addr, Int.sub_eq_add_neg]
theorem h_addB {f : Fmt} {a b c : Int} (h : holdsB f .addB = true) (ha : fits f a) (hb : fits f b) : ruleB f .addB a b c = true := by
  simp only [holdsB] at h
  refine decide_eq_true ?_
  simp only [subO, addO, op2, fitW (hw_ h), wr_addl, Int.sub_add_cancel, wr_id ha]
theorem h_divi {f : Fmt} {a b c : Int} (h : holdsB f .divi = true) (ha : fits f a) (hb : fits f b) : ruleB f .divi a b c = true := by
  simp only [holdsB, Bool.or_eq_true, Bool.and_eq_true] at h
  unfold ruleB
  by_cases b0 : b = 0
  · rw [decide_eq_true b0]; rfl
  rw [decide_eq_false b0, Bool.false_or]
  refine decide_eq_true ?_
  have F := facts f
  have key : quo f.dv a b * b + (a - b * quo f.dv a b) = a := by rw [Int.mul_comm b]; omega
  rcases h with (h | ⟨h, g⟩) | ⟨h, g⟩
  · simp only [addO, mulO, divO, remO, op2, fitW (hw_ h), wr_mull, wr_addl, wr_addr, key, wr_id ha]
  · have S := sg3.1 h
    have Q := quo_le f.dv a b b0
    obtain ⟨s, t, r, u, h1, h2, h3, h4, h5, h6, h7, h8, h9, h10, h11, h12, h13, h14⟩ := quo_spec f.dv a b b0
    unfold fits at ha hb
    have u0 : u = 0 := by
      by_cases hr : r = 0
      · exact h9 hr
      · have := h10 hr; rw [hd_ g] at this; simpa [qup] using this
    subst u0
    rw [Int.zero_mul] at h13 h14
    have m1 : fits f (b * quo f.dv a b) := by
      unfold fits
      by_cases a0 : 0 ≤ a
      · have := h13 a0; omega
      · have := h14 (by omega); omega
    have m2 : fits f (a - b * quo f.dv a b) := by
      unfold fits
      by_cases a0 : 0 ≤ a
      · have := h13 a0; omega
      · have := h14 (by omega); omega
    have m0 : fits f (quo f.dv a b) := by unfold fits; omega
    rw [Int.mul_comm] at m1
    simp only [addO, mulO, divO, remO, op2, fitR_in m0, fitR_in m1, fitR_in m2, key, fitR_in ha]
  · have U := sg3.2.2 h
    unfold fits at ha hb
    have Q := quo_le f.dv a b b0
    obtain ⟨s, t, r, u, h1, h2, h3, h4, h5, h6, h7, h8, h9, h10, h11, h12, h13, h14, h15⟩ := quo_nn f.dv (show 0 ≤ a by omega) (show 0 < b by omega)
    have u0 : u = 0 := by
      rcases g with (g | g) | g
      · exact h10 (hd_ g)
      · exact h11 (hd_ g)
      · exact h12 (hd_ g)
    subst u0
    rw [Int.zero_mul] at h15
    have m1 : fits f (b * quo f.dv a b) := by unfold fits; omega
    have m2 : fits f (a - b * quo f.dv a b) := by unfold fits; omega
    have m0 : fits f (quo f.dv a b) := by unfold fits; omega
    rw [Int.mul_comm] at m1
    simp only [addO, mulO, divO, remO, op2, fitR_in m0, fitR_in m1, fitR_in m2, key, fitR_in ha]
theorem leO_s {a b : Int} (h : a ≤ b) : leO (some a) (some b) = true := decide_eq_true h
theorem ltO_s {a b : Int} (h : a < b) : ltO (some a) (some b) = true := decide_eq_true h
theorem h_remR {f : Fmt} {a b c : Int} (h : holdsB f .remR = true) (ha : fits f a) (hb : fits f b) : ruleB f .remR a b c = true := by
  simp only [holdsB, Bool.or_eq_true, Bool.and_eq_true] at h
  unfold ruleB
  by_cases b0 : b = 0
  · rw [decide_eq_true b0]; rfl
  rw [decide_eq_false b0, Bool.false_or]
  have F := facts f
  obtain ⟨-, -, -, S1, S2⟩ := sgn f
  rcases h with h | ⟨h, g⟩
  · have e : 0 ≤ a - b * quo f.dv a b ∧ a - b * quo f.dv a b < b.natAbs := by
      rw [hd_ h]
      unfold quo
      by_cases hp : 0 < b
      · simp only [if_pos hp]
        have h1 := Int.mul_fdiv_self_le (x := a) hp
        have h2 := Int.lt_mul_fdiv_self_add (x := a) hp
        omega
      · simp only [if_neg hp]
        have hn : 0 < -b := by omega
        have h1 := Int.mul_fdiv_self_le (x := a) hn
        have h2 := Int.lt_mul_fdiv_self_add (x := a) hn
        rw [Int.neg_mul] at h1 h2
        rw [Int.mul_neg]
        omega
    have m : fits f (a - b * quo f.dv a b) := by unfold fits at *; omega
    simp only [remO, fitR_in m, leO_s e.1, ltO_s e.2, Bool.and_self]; rfl
  · have U := sg3.2.2 h
    unfold fits at ha hb
    obtain ⟨s, t, r, u, h1, h2, h3, h4, h5, h6, h7, h8, h9, h10, h11, h12, h13, h14, h15⟩ := quo_nn f.dv (show 0 ≤ a by omega) (show 0 < b by omega)
    have e : ∃ z, remO f a b = some z ∧ 0 ≤ z ∧ z < b.natAbs := by
      rcases g with g | g
      · have u0 : u = 0 := by
          rcases g with g | g
          · exact h10 (hd_ g)
          · exact h11 (hd_ g)
        subst u0
        rw [Int.zero_mul] at h15
        exact ⟨_, fitR_in (by unfold fits; omega), by omega, by omega⟩
      · refine ⟨_, fitS (hs_ g) _, ?_⟩
        rcases h8 with u0 | u0
        · subst u0; rw [Int.zero_mul] at h15
          unfold cl; rw [if_neg (by omega), if_neg (by omega)]; omega
        · subst u0; rw [Int.one_mul] at h15
          unfold cl
          by_cases hz : a - b * quo f.dv a b < lo f
          · rw [if_pos hz]; omega
          · rw [if_neg hz, if_neg (by omega)]; omega
    obtain ⟨z, e1, e2, e3⟩ := e
    rw [e1, leO_s e2, ltO_s e3]; rfl
theorem h_negQ {f : Fmt} {a b c : Int} (h : holdsB f .negQ = true) (ha : fits f a) (hb : fits f b) : ruleB f .negQ a b c = true := by
  simp only [holdsB, Bool.or_eq_true, Bool.and_eq_true] at h
  unfold ruleB
  by_cases b0 : b = 0
  · rw [decide_eq_true b0]; rfl
  rw [decide_eq_false b0, Bool.false_or]
  refine decide_eq_true ?_
  have F := facts f
  rcases h with (⟨h, g⟩ | ⟨h, g⟩) | ⟨⟨h, g⟩, gd⟩
  · have S := sg3.1 h
    have Q := quo_le f.dv a b b0
    have Q2 := quo_le f.dv (-a) b b0
    have e : quo f.dv (-a) b = - quo f.dv a b := by
      rw [← quoS_eq _ _ _ b0, ← quoS_eq _ _ _ b0]
      by_cases a0 : a = 0
      · subst a0
        rw [quoS_eq _ _ _ b0, quoS_eq _ _ _ b0, show (-0 : Int) = 0 from rfl, quo_zero _ _ b0]; rfl
      have n1 : (-a).natAbs = a.natAbs := Int.natAbs_neg a
      have n2 : decide (-a < 0) = ! decide (a < 0) := by
        by_cases a1 : a < 0
        · rw [decide_eq_true a1]; exact decide_eq_false (by omega)
        · rw [decide_eq_false a1]; exact decide_eq_true (by omega)
      have n3 : ∀ l s, qup f.dv (-a) b l s = qup f.dv a b l s := by
        intro l s
        rcases g with g | g <;> rw [hd_ g] <;> rfl
      unfold quoS
      simp only [n1, n2, n3]
      cases decide (a < 0) <;> cases decide (b < 0) <;> simp only [Bool.not_true, Bool.not_false] <;> (repeat' split) <;> simp_all
    have m1 : fits f (-a) := neg_fits h ha
    unfold fits at ha
    have m2 : fits f (quo f.dv a b) := by unfold fits; omega
    have m3 : fits f (- quo f.dv a b) := neg_fits h m2
    simp only [divO, negO, op2, fitR_in m1, fitR_in m2, e]
  · have U := sg3.2.2 h
    unfold fits at ha hb
    obtain ⟨s, t, r, u, h1, h2, h3, h4, h5, h6, h7, h8, h9, h10, h11, h12, h13, h14, h15⟩ := quo_nn f.dv (show 0 ≤ a by omega) (show 0 < b by omega)
    have Q := quo_le f.dv a b b0
    simp only [divO, negO, op2, fitS (hs_ g)]
    have c1 : cl f (-a) = 0 := by unfold cl; (repeat' split) <;> omega
    have c2 : cl f (quo f.dv a b) = quo f.dv a b := by unfold cl; (repeat' split) <;> omega
    have c3 : cl f (- quo f.dv a b) = 0 := by unfold cl; (repeat' split) <;> omega
    have c4 : cl f 0 = 0 := by unfold cl; (repeat' split) <;> omega
    rw [c1, c2, c3, quo_zero _ _ b0, c4]
  · have U := sg3.2.2 h
    unfold fits at ha hb
    obtain ⟨s, t, r, u, h1, h2, h3, h4, h5, h6, h7, h8, h9, h10, h11, h12, h13, h14, h15⟩ := quo_nn f.dv (show 0 ≤ a by omega) (show 0 < b by omega)
    have Q := quo_le f.dv a b b0
    have m2 : fits f (quo f.dv a b) := by unfold fits; omega
    simp only [divO, negO, op2, fitR_in m2]
    by_cases a0 : a = 0
    · subst a0
      have m0 : fits f 0 := by unfold fits; omega
      rw [show (-0 : Int) = 0 from rfl, fitR_in m0, quo_zero _ _ b0, show (-0 : Int) = 0 from rfl]
      simp only [fitR_in m0, quo_zero _ _ b0]
    · have q1 : 1 ≤ quo f.dv a b := by
        by_cases r0 : r = 0
        · have : s ≠ 0 := by intro e; subst e; rw [Int.zero_mul] at h6; omega
          omega
        · have := h13 (hd_ gd) r0; omega
      rw [fitN (ht_ g) (show ¬ fits f (-a) by unfold fits; omega), fitN (ht_ g) (show ¬ fits f (-quo f.dv a b) by unfold fits; omega)]
theorem h_shift {f : Fmt} {a b c : Int} (h : holdsB f .shift = true) (ha : fits f a) : ruleB f .shift a b c = true := by
  simp only [holdsB, Bool.or_eq_true, Bool.and_eq_true] at h
  refine decide_eq_true ?_
  have F := facts f
  have e : quo f.dv a 2 = a.fdiv 2 := by
    rcases h with (h | h) | ⟨h, g⟩
    · rw [hd_ h]; rfl
    · rw [hd_ h]; show (if (0:Int) < 2 then a.fdiv 2 else - a.fdiv (-2)) = _; rw [if_pos (by decide)]
    · have U := sg3.2.2 h
      unfold fits at ha
      rw [hd_ g]
      have n1 : (a.natAbs : Int) = a := by omega
      have n2 : decide (a < 0) = decide ((2:Int) < 0) := by rw [decide_eq_false (show ¬ a < 0 by omega)]; rfl
      unfold quo
      simp only [n1, if_pos n2]; rfl
  have m : fits f (a.fdiv 2) := by
    rw [Int.fdiv_eq_ediv_of_nonneg _ (by decide)]
    unfold fits at *; omega
  simp only [divO, op2, e, fitR_in m]
theorem h_absV {f : Fmt} {a b c : Int} (h : holdsB f .absV = true) (ha : fits f a) : ruleB f .absV a b c = true := by
  simp only [holdsB, Bool.or_eq_true] at h
  unfold ruleB
  by_cases a0 : 0 ≤ a
  · rw [if_pos a0]; exact leO_s a0
  rw [if_neg a0]
  have F := facts f
  rcases h with (h | h) | h
  · simp only [negO, fitR_in (neg_fits h ha)]; exact leO_s (by omega)
  · have U := sg3.2.2 h; unfold fits at ha; omega
  · simp only [negO, fitS (hs_ h)]
    refine leO_s ?_
    unfold cl; (repeat' split) <;> omega
theorem h_ordD {f : Fmt} {a b c : Int} (h : holdsB f .ordD = true) (ha : fits f a) (hb : fits f b) : ruleB f .ordD a b c = true := by
  simp only [holdsB, Bool.or_eq_true, Bool.and_eq_true] at h
  obtain ⟨h, g⟩ := h
  have F := facts f
  have L : lo f < 0 := by
    rcases g with g | g
    · have := sg3.1 g; omega
    · have := sg3.2.1 g; omega
  unfold ruleB
  simp only [subO, op2, fitS (hs_ h)]
  rw [decide_eq_true (by simp), Bool.true_and]
  have e : ltO (some (cl f (a - b))) (some 0) = decide (a < b) := by
    unfold ltO
    simp only []
    by_cases hab : a < b
    · rw [decide_eq_true hab]; refine decide_eq_true ?_
      unfold cl; (repeat' split) <;> omega
    · rw [decide_eq_false hab]; refine decide_eq_false ?_
      unfold cl; (repeat' split) <;> omega
  rw [e]; exact beq_self_eq_true _
theorem h_monoS {f : Fmt} {a b c : Int} (h : holdsB f .monoS = true) : ruleB f .monoS a b c = true := by
  simp only [holdsB] at h
  have F := facts f
  unfold ruleB
  by_cases hab : b < a
  · rw [decide_eq_true hab]; rfl
  rw [decide_eq_false hab, Bool.false_or]
  simp only [addO, op2, fitS (hs_ h)]
  refine leO_s ?_
  unfold cl; (repeat' split) <;> omega
theorem half {d : Dv} {x : Int} (h : 0 ≤ x) : 0 ≤ quo d x 2 ∧ quo d x 2 ≤ x := by
  obtain ⟨s, t, r, u, h1, h2, h3, h4, h5, h6, h7, h8, h9, h10, h11, h12, h13, h14, h15⟩ := quo_nn d h (show (0:Int) < 2 by decide)
  have := quo_le d x 2 (by decide)
  omega
theorem h_aver {f : Fmt} {a b c : Int} (h : holdsB f .aver = true) (ha : fits f a) (hb : fits f b) : ruleB f .aver a b c = true := by
  simp only [holdsB, Bool.or_eq_true] at h
  have F := facts f
  unfold ruleB
  by_cases hab : b < a
  · rw [decide_eq_true hab]; rfl
  rw [decide_eq_false hab, Bool.false_or]
  unfold fits at ha hb
  have e : ∃ d, subO f (some b) (some a) = some d ∧ 0 ≤ d ∧ d ≤ b - a ∧ fits f d := by
    rcases h with h | h
    · have U := sg3.2.2 h
      have m : fits f (b - a) := by unfold fits; omega
      exact ⟨_, by simp only [subO, op2, fitR_in m], by omega, by omega, m⟩
    · refine ⟨_, by simp only [subO, op2, fitS (hs_ h)]; rfl, ?_⟩
      unfold cl fits; (repeat' split) <;> omega
  obtain ⟨d, e1, e2, e3, e4⟩ := e
  have H := half (d := f.dv) e2
  unfold fits at e4
  have m1 : fits f (quo f.dv d 2) := by unfold fits; omega
  have m2 : fits f (a + quo f.dv d 2) := by unfold fits; omega
  have e5 : addO f (some a) (divO f (subO f (some b) (some a)) (some 2)) = some (a + quo f.dv d 2) := by
    rw [e1]; simp only [addO, divO, op2, fitR_in m1, fitR_in m2]
  rw [e5, leO_s (by omega), leO_s (by omega)]; rfl
theorem h_squa {f : Fmt} {a b c : Int} (h : holdsB f .squa = true) : ruleB f .squa a b c = true := by
  simp only [holdsB, Bool.or_eq_true, Bool.and_eq_true] at h
  have F := facts f
  unfold ruleB
  have p : 0 ≤ a * a := by
    rcases Int.le_total 0 a with h | h
    · exact Int.mul_nonneg h h
    · exact Int.mul_nonneg_of_nonpos_of_nonpos h h
  rcases h with h | ⟨h, g⟩
  · simp only [mulO, op2, fitS (hs_ h)]
    refine leO_s ?_
    unfold cl; (repeat' split) <;> omega
  · have U := sg3.2.2 h
    simp only [mulO, op2, fitW (hw_ g)]
    have := wr_fits f (a * a)
    exact leO_s (by omega)
theorem many_sym {f : Fmt} (h : isS f = true) : many f = ((2 ^ f.w - 1 : Nat) : Int) := by
  have e1 : p2 f.w = ((2 ^ f.w : Nat) : Int) := by unfold p2; rw [Int.natCast_pow]; rfl
  have F := facts f
  have e2 : f.sg = .sym := of_decide_eq_true h
  have e3 : lo f = 1 - p2 (f.w - 1) := by unfold lo; rw [e2]
  have e4 : hi f = p2 (f.w - 1) - 1 := by unfold hi bnd; rw [e2]
  omega
theorem wr_dvd {f : Fmt} {x y : Int} (h : wr f x = wr f y) : many f ∣ x - y := by
  obtain ⟨k, hk⟩ := wr_mod f x
  obtain ⟨l, hl⟩ := wr_mod f y
  exact ⟨k - l, by rw [Int.mul_sub]; omega⟩
theorem prime_dvd {f : Fmt} (h : isS f = true) (hm : WP.mers f.w = true) {a b : Int} (ha : fits f a) (a0 : a ≠ 0) (hd : many f ∣ a * b) : many f ∣ b := by
  have F := facts f
  have S := sg3.1 h
  have M := many_sym h
  unfold fits at ha
  rw [M] at hd ⊢
  exact WP.mers_int hm f.lo4 a0 (by omega) hd
theorem small_dvd {m x : Int} (h : m ∣ x) (h1 : -m < x) (h2 : x < m) : x = 0 := by
  obtain ⟨k, hk⟩ := h
  have m0 : 0 < m := by omega
  by_cases k1 : 1 ≤ k
  · have := Int.mul_le_mul_of_nonneg_left k1 (show 0 ≤ m by omega); omega
  by_cases k2 : k ≤ -1
  · have := Int.mul_le_mul_of_nonneg_left k2 (show 0 ≤ m by omega); omega
  have : k = 0 := by omega
  subst this; rw [hk, Int.mul_zero]
theorem h_zeroP {f : Fmt} {a b c : Int} (h : holdsB f .zeroP = true) (ha : fits f a) (hb : fits f b) : ruleB f .zeroP a b c = true := by
  simp only [holdsB, Bool.or_eq_true, Bool.and_eq_true] at h
  have F := facts f
  obtain ⟨-, -, -, S1, S2⟩ := sgn f
  unfold ruleB
  by_cases a0 : a = 0
  · rw [decide_eq_true a0]; rfl
  by_cases b0 : b = 0
  · rw [decide_eq_true b0, Bool.or_true]; rfl
  rw [decide_eq_false a0, decide_eq_false b0, Bool.false_or, Bool.false_or]
  refine decide_eq_true ?_
  have p : a * b ≠ 0 := Int.mul_ne_zero a0 b0
  simp only [mulO, op2]
  rcases h with (h | h) | ⟨h, g⟩
  · rw [fitS (hs_ h)]
    intro e
    have e' : cl f (a * b) = 0 := Option.some.inj e
    unfold fits at ha hb
    unfold cl at e'
    by_cases l0 : lo f = 0
    · have : 0 ≤ a * b := Int.mul_nonneg (by omega) (by omega)
      revert e'; (repeat' split) <;> omega
    · revert e'; (repeat' split) <;> omega
  · intro e
    by_cases m : fits f (a * b)
    · rw [fitR_in m] at e; exact p (Option.some.inj e)
    · rw [fitN (ht_ h) m] at e; cases e
  · rcases ov3 f with o | o | o
    · rw [fitS o]
      intro e
      have e' : cl f (a * b) = 0 := Option.some.inj e
      have S := sg3.1 h
      unfold cl at e'
      revert e'; (repeat' split) <;> omega
    · intro e
      by_cases m : fits f (a * b)
      · rw [fitR_in m] at e; exact p (Option.some.inj e)
      · rw [fitN o m] at e; cases e
    · rw [fitW o]
      intro e
      have e' : wr f (a * b) = 0 := Option.some.inj e
      have z : wr f 0 = 0 := wr_id (by unfold fits; omega)
      have d := wr_dvd (e'.trans z.symm)
      rw [Int.sub_zero] at d
      have d2 := prime_dvd h g ha a0 d
      have S := sg3.1 h
      unfold fits at hb
      exact b0 (small_dvd d2 (by omega) (by omega))
theorem h_canc {f : Fmt} {a b c : Int} (h : holdsB f .canc = true) (ha : fits f a) (hb : fits f b) (hc : fits f c) : ruleB f .canc a b c = true := by
  simp only [holdsB, Bool.and_eq_true] at h
  obtain ⟨⟨o, h⟩, g⟩ := h
  have F := facts f
  unfold ruleB
  by_cases a0 : a = 0
  · rw [decide_eq_true a0]; rfl
  by_cases bc : b = c
  · rw [decide_eq_true bc, Bool.or_true]
  rw [decide_eq_false a0, decide_eq_false bc, Bool.false_or, Bool.or_false]
  refine decide_eq_true ?_
  simp only [mulO, op2, fitW (hw_ o)]
  intro e
  have e' : wr f (a * b) = wr f (a * c) := Option.some.inj e
  have d := wr_dvd e'
  rw [← Int.mul_sub] at d
  have d2 := prime_dvd h g ha a0 d
  have S := sg3.1 h
  unfold fits at hb hc
  have := small_dvd d2 (by omega) (by omega)
  omega
/-- no numbers break a rule that holds -/
theorem rule_holds {f : Fmt} {r : Rl} {a b c : Int} (h : holdsB f r = true) (ha : fits f a) (hb : fits f b) (hc : fits f c) : ruleB f r a b c = true := by
  cases r
  · exact h_sumG h ha hb hc
  · exact h_prodG h ha hb hc
  · exact h_dist h ha hb hc
  · exact h_dneg h ha
  · exact h_diff h ha hb
  · exact h_addB h ha hb
  · exact h_divi h ha hb
  · exact h_remR h ha hb
  · exact h_negQ h ha hb
  · exact h_shift h ha
  · exact h_absV h ha
  · exact h_ordD h ha hb
  · exact h_monoS h
  · exact h_aver h ha hb
  · exact h_squa h
  · exact h_zeroP h ha hb
  · exact h_canc h ha hb hc
def ruleL (f : Fmt) (r : Rl) (l : List Int) : Bool := match r.ar, l with
  | 1, [a] => ruleB f r a 0 0
  | 2, [a, b] => ruleB f r a b 0
  | 3, [a, b, c] => ruleB f r a b c
  | _, _ => true
def allSg : List Sg := [.sym, .twos, .uns]
def allOv : List Ov := [.sat, .trap, .wrap]
def allDv : List Dv := [.ceil, .euc, .even, .floor, .zero]
def allRl : List Rl := [.sumG, .prodG, .dist, .dneg, .diff, .addB, .divi, .remR, .negQ, .shift, .absV, .ordD, .monoS, .aver, .squa, .zeroP, .canc]
theorem ruleL_holds {f : Fmt} {r : Rl} {xs : List Int} (h : holdsB f r = true) (hx : ∀ x ∈ xs, fits f x) : ruleL f r xs = true := by
  have z : fits f 0 := by have F := facts f; unfold fits; omega
  match xs, hx with
  | [a], hx =>
    have ha := hx a (List.mem_cons_self ..)
    cases r <;> first | rfl | exact rule_holds h ha z z
  | [a, b], hx =>
    have ha := hx a (List.mem_cons_self ..)
    have hb := hx b (List.mem_cons_of_mem _ (List.mem_cons_self ..))
    cases r <;> first | rfl | exact rule_holds h ha hb z
  | [a, b, c], hx =>
    have ha := hx a (List.mem_cons_self ..)
    have hb := hx b (List.mem_cons_of_mem _ (List.mem_cons_self ..))
    have hc := hx c (List.mem_cons_of_mem _ (List.mem_cons_of_mem _ (List.mem_cons_self ..)))
    cases r <;> first | rfl | exact rule_holds h ha hb hc
  | [], _ => cases r <;> rfl
  | _ :: _ :: _ :: _ :: _, _ => cases r <;> rfl
end WM

/-! The least factors of 2^w - 1, and the numbers that break a rule. -/
set_option maxHeartbeats 4000000
set_option maxRecDepth 1000000
namespace WM
def lfac (w : Nat) : Nat := match w with
  | 4 => 3
  | 6 => 3
  | 8 => 3
  | 9 => 7
  | 10 => 3
  | 11 => 23
  | 12 => 3
  | 14 => 3
  | 15 => 7
  | 16 => 3
  | 18 => 3
  | 20 => 3
  | 21 => 7
  | 22 => 3
  | 23 => 47
  | 24 => 3
  | 25 => 31
  | 26 => 3
  | 27 => 7
  | 28 => 3
  | 29 => 233
  | 30 => 3
  | 32 => 3
  | 33 => 7
  | 34 => 3
  | 35 => 31
  | 36 => 3
  | 37 => 223
  | 38 => 3
  | 39 => 7
  | 40 => 3
  | 41 => 13367
  | 42 => 3
  | 43 => 431
  | 44 => 3
  | 45 => 7
  | 46 => 3
  | 47 => 2351
  | 48 => 3
  | 49 => 127
  | 50 => 3
  | 51 => 7
  | 52 => 3
  | 53 => 6361
  | 54 => 3
  | 55 => 23
  | 56 => 3
  | 57 => 7
  | 58 => 3
  | 59 => 179951
  | 60 => 3
  | 62 => 3
  | 63 => 7
  | 64 => 3
  | _ => 2 ^ w - 1
def ndo (n K : Nat) : Bool := Nat.rec (motive := fun _ => Bool) true (fun k ih => cond (Nat.beq (n % (2 * k + 3)) 0) false ih) K
theorem ndo_of {n : Nat} : ∀ K, ndo n K = true → ∀ k, k < K → n % (2 * k + 3) ≠ 0
  | 0, _, k, h => by omega
  | K + 1, h, k, hk => by
    have e : ndo n (K + 1) = cond (Nat.beq (n % (2 * K + 3)) 0) false (ndo n K) := rfl
    rw [e] at h
    cases hb : Nat.beq (n % (2 * K + 3)) 0 with
    | true => rw [hb] at h; cases h
    | false =>
      rw [hb] at h
      by_cases e2 : k = K
      · subst e2; intro h0; rw [h0] at hb; cases hb
      · exact ndo_of K h k (by omega)
theorem noDiv_of {n p : Nat} (h : ndo n ((p - 2) / 2) = true) (ho : n % 2 = 1) (hp : p % 2 = 1) {d : Nat} (h1 : 1 < d) (h2 : d < p) : ¬ d ∣ n := by
  intro e
  by_cases d2 : d % 2 = 0
  · have : 2 ∣ n := Nat.dvd_trans (Nat.dvd_of_mod_eq_zero d2) e
    omega
  · have := ndo_of _ h ((d - 3) / 2) (by omega)
    rw [show 2 * ((d - 3) / 2) + 3 = d by omega] at this
    exact this (Nat.mod_eq_zero_of_dvd e)
def lfacOk (w : Nat) : Bool := WP.mers w || (ndo (2 ^ w - 1) ((lfac w - 2) / 2) && decide ((2 ^ w - 1) % lfac w = 0) && decide (3 ≤ lfac w) && decide (lfac w ≤ 180000) &&
  decide (3 * lfac w ≤ 2 ^ w - 1) && decide (lfac w % 2 = 1) && decide ((2 ^ w - 1) % 2 = 1))
theorem lfac_all : (List.range 63).all (fun i => lfacOk (i + 2)) = true := by decide +kernel
theorem lfac_comp {w : Nat} (h2 : 2 ≤ w) (h64 : w ≤ 64) (hm : WP.mers w = false) : lfac w ∣ 2 ^ w - 1 ∧ 3 ≤ lfac w ∧ lfac w ≤ 180000 ∧ 3 * lfac w ≤ 2 ^ w - 1 ∧
    (2 ^ w - 1) % 2 = 1 ∧ ∀ d, 1 < d → d < lfac w → ¬ d ∣ 2 ^ w - 1 := by
  have h := List.all_eq_true.mp lfac_all (w - 2) (List.mem_range.mpr (by omega))
  rw [show w - 2 + 2 = w by omega] at h
  unfold lfacOk at h
  simp only [hm, Bool.false_or, Bool.and_eq_true, decide_eq_true_eq] at h
  obtain ⟨⟨⟨⟨⟨⟨a, b⟩, c⟩, d⟩, e⟩, g⟩, i⟩ := h
  exact ⟨Nat.dvd_of_mod_eq_zero b, c, d, e, i, fun x h1 h2 => noDiv_of a i g h1 h2⟩
/-- the least factor is the only one that the document's words fit -/
theorem lfac_unique {w p : Nat} (h2 : 2 ≤ w) (h64 : w ≤ 64) (hm : WP.mers w = false) (h1 : 1 < p) (hp : p ∣ 2 ^ w - 1) (hl : ∀ d, 1 < d → d < p → ¬ d ∣ 2 ^ w - 1) : p = lfac w := by
  obtain ⟨a, b, c, d, e, g⟩ := lfac_comp h2 h64 hm
  rcases Nat.lt_trichotomy p (lfac w) with h | h | h
  · exact absurd hp (g p h1 h)
  · exact h
  · exact absurd a (hl _ (by omega) h)
theorem lfac_mers {w : Nat} (hm : WP.mers w = true) : lfac w = 2 ^ w - 1 := by
  unfold WP.mers at hm
  simp only [List.contains_cons, List.contains_nil, Bool.or_false, Bool.or_eq_true, beq_iff_eq] at hm
  rcases hm with h | h | h | h | h | h | h | h | h <;> subst h <;> rfl
/-- the numbers told for a rule that doesn't hold -/
def cexN (f : Fmt) (r : Rl) : List Int :=
  let L := lo f
  let M := hi f
  let H := p2 (f.w - 1)
  let n := p2 f.w - 1
  let p : Int := lfac f.w
  match r with
  | .sumG => [M, 1, -1]
  | .prodG => if isTrap f then [M, 2, 0] else [L, -1, -1]
  | .dist => if isTrap f then [0, M, 1] else [2, M, -1]
  | .dneg => if isT f then [L] else [1]
  | .diff => if isT f then [-1, L] else [1, 1]
  | .addB | .ordD | .aver => [L, 1]
  | .divi => if isT f then [L, -1] else if isS f then (if isD f .floor || isD f .euc then [L, 2] else [M, 2]) else (if isD f .ceil then [1, 2] else [3, 2])
  | .remR => match f.dv with
    | .floor => [1, -2]
    | .zero => [-1, 2]
    | .ceil => [1, 2]
    | .even => [3, 2]
    | .euc => []
  | .negQ => if isT f then (if isSat f then (if isD f .ceil then [1, 2] else if isD f .even then (if f.w % 2 = 0 then [L, n.fdiv 3] else [L, p2 ((f.w + 1) / 2) - 2]) else [L, 2]) else [L, 2]) else [1, 2]
  | .shift => match f.dv with
    | .zero => [-1]
    | .ceil => [1]
    | .even => [3]
    | _ => []
  | .absV => [L]
  | .monoS => [M - 1, M, 1]
  | .squa => if isTrap f then [M] else if f.w % 2 = 0 then [p2 (f.w / 2) - 1] else [p2 (f.w / 2)]
  | .zeroP => if isT f then [2, L] else if isU f then [2, H] else [p, n.fdiv p]
  | .canc => if isWrap f then (if isT f then [2, 0, L] else if isU f then [2, 0, H] else [p, 0, n.fdiv p]) else [2, M, M - 1]
def fitsB (f : Fmt) (x : Int) : Bool := decide (lo f ≤ x) && decide (x ≤ hi f)
def cexOk (f : Fmt) (r : Rl) : Bool := holdsB f r || (!(ruleL f r (cexN f r)) && (cexN f r).all (fitsB f) && decide ((cexN f r).length = r.ar))
theorem allSg_all (s : Sg) : s ∈ allSg := by cases s <;> decide
theorem allOv_all (s : Ov) : s ∈ allOv := by cases s <;> decide
theorem allDv_all (s : Dv) : s ∈ allDv := by cases s <;> decide
theorem allRl_all (s : Rl) : s ∈ allRl := by cases s <;> decide
def cexRow (i : Fin 61) : Bool := allSg.all fun s => allOv.all fun o => allDv.all fun d => allRl.all fun r => cexOk ⟨i.val + 4, s, o, d, by omega, by omega⟩ r
theorem cex_p0 : ∀ j : Fin 5, cexRow ⟨j.val + 0, by omega⟩ = true := by decide +kernel
theorem cex_p1 : ∀ j : Fin 5, cexRow ⟨j.val + 5, by omega⟩ = true := by decide +kernel
theorem cex_p2 : ∀ j : Fin 5, cexRow ⟨j.val + 10, by omega⟩ = true := by decide +kernel
theorem cex_p3 : ∀ j : Fin 5, cexRow ⟨j.val + 15, by omega⟩ = true := by decide +kernel
theorem cex_p4 : ∀ j : Fin 5, cexRow ⟨j.val + 20, by omega⟩ = true := by decide +kernel
theorem cex_p5 : ∀ j : Fin 5, cexRow ⟨j.val + 25, by omega⟩ = true := by decide +kernel
theorem cex_p6 : ∀ j : Fin 5, cexRow ⟨j.val + 30, by omega⟩ = true := by decide +kernel
theorem cex_p7 : ∀ j : Fin 5, cexRow ⟨j.val + 35, by omega⟩ = true := by decide +kernel
theorem cex_p8 : ∀ j : Fin 5, cexRow ⟨j.val + 40, by omega⟩ = true := by decide +kernel
theorem cex_p9 : ∀ j : Fin 5, cexRow ⟨j.val + 45, by omega⟩ = true := by decide +kernel
theorem cex_p10 : ∀ j : Fin 5, cexRow ⟨j.val + 50, by omega⟩ = true := by decide +kernel
theorem cex_p11 : ∀ j : Fin 5, cexRow ⟨j.val + 55, by omega⟩ = true := by decide +kernel
theorem cex_p12 : cexRow ⟨60, by omega⟩ = true := by decide +kernel
theorem cex_all (i : Fin 61) : cexRow i = true := by
  obtain ⟨i, hi⟩ := i
  by_cases h0 : i < 5
  · have e := cex_p0 ⟨i - 0, by omega⟩
    rw [show (⟨i - 0 + 0, by omega⟩ : Fin 61) = ⟨i, hi⟩ from Fin.ext (by show i - 0 + 0 = i; omega)] at e
    exact e
  by_cases h1 : i < 10
  · have e := cex_p1 ⟨i - 5, by omega⟩
    rw [show (⟨i - 5 + 5, by omega⟩ : Fin 61) = ⟨i, hi⟩ from Fin.ext (by show i - 5 + 5 = i; omega)] at e
    exact e
  by_cases h2 : i < 15
  · have e := cex_p2 ⟨i - 10, by omega⟩
    rw [show (⟨i - 10 + 10, by omega⟩ : Fin 61) = ⟨i, hi⟩ from Fin.ext (by show i - 10 + 10 = i; omega)] at e
    exact e
  by_cases h3 : i < 20
  · have e := cex_p3 ⟨i - 15, by omega⟩
    rw [show (⟨i - 15 + 15, by omega⟩ : Fin 61) = ⟨i, hi⟩ from Fin.ext (by show i - 15 + 15 = i; omega)] at e
    exact e
  by_cases h4 : i < 25
  · have e := cex_p4 ⟨i - 20, by omega⟩
    rw [show (⟨i - 20 + 20, by omega⟩ : Fin 61) = ⟨i, hi⟩ from Fin.ext (by show i - 20 + 20 = i; omega)] at e
    exact e
  by_cases h5 : i < 30
  · have e := cex_p5 ⟨i - 25, by omega⟩
    rw [show (⟨i - 25 + 25, by omega⟩ : Fin 61) = ⟨i, hi⟩ from Fin.ext (by show i - 25 + 25 = i; omega)] at e
    exact e
  by_cases h6 : i < 35
  · have e := cex_p6 ⟨i - 30, by omega⟩
    rw [show (⟨i - 30 + 30, by omega⟩ : Fin 61) = ⟨i, hi⟩ from Fin.ext (by show i - 30 + 30 = i; omega)] at e
    exact e
  by_cases h7 : i < 40
  · have e := cex_p7 ⟨i - 35, by omega⟩
    rw [show (⟨i - 35 + 35, by omega⟩ : Fin 61) = ⟨i, hi⟩ from Fin.ext (by show i - 35 + 35 = i; omega)] at e
    exact e
  by_cases h8 : i < 45
  · have e := cex_p8 ⟨i - 40, by omega⟩
    rw [show (⟨i - 40 + 40, by omega⟩ : Fin 61) = ⟨i, hi⟩ from Fin.ext (by show i - 40 + 40 = i; omega)] at e
    exact e
  by_cases h9 : i < 50
  · have e := cex_p9 ⟨i - 45, by omega⟩
    rw [show (⟨i - 45 + 45, by omega⟩ : Fin 61) = ⟨i, hi⟩ from Fin.ext (by show i - 45 + 45 = i; omega)] at e
    exact e
  by_cases h10 : i < 55
  · have e := cex_p10 ⟨i - 50, by omega⟩
    rw [show (⟨i - 50 + 50, by omega⟩ : Fin 61) = ⟨i, hi⟩ from Fin.ext (by show i - 50 + 50 = i; omega)] at e
    exact e
  by_cases h11 : i < 60
  · have e := cex_p11 ⟨i - 55, by omega⟩
    rw [show (⟨i - 55 + 55, by omega⟩ : Fin 61) = ⟨i, hi⟩ from Fin.ext (by show i - 55 + 55 = i; omega)] at e
    exact e
  · rw [show (⟨i, hi⟩ : Fin 61) = ⟨60, by omega⟩ from Fin.ext (by show i = 60; omega)]
    exact cex_p12
theorem cex_ok (f : Fmt) (r : Rl) : cexOk f r = true := by
  obtain ⟨w, s, o, d, l1, l2⟩ := f
  have h := cex_all ⟨w - 4, by omega⟩
  have h1 := List.all_eq_true.mp h s (allSg_all s)
  have h2 := List.all_eq_true.mp h1 o (allOv_all o)
  have h3 := List.all_eq_true.mp h2 d (allDv_all d)
  have h4 := List.all_eq_true.mp h3 r (allRl_all r)
  obtain ⟨k, rfl⟩ : ∃ k, w = k + 4 := ⟨w - 4, by omega⟩
  exact h4
theorem cex_breaks {f : Fmt} {r : Rl} (h : holdsB f r = false) : ruleL f r (cexN f r) = false ∧ (∀ x ∈ cexN f r, fits f x) ∧ (cexN f r).length = r.ar := by
  have e := cex_ok f r
  unfold cexOk at e
  rw [h, Bool.false_or, Bool.and_eq_true, Bool.and_eq_true, decide_eq_true_eq, Bool.not_eq_true', List.all_eq_true] at e
  obtain ⟨⟨a, b⟩, c⟩ := e
  refine ⟨a, fun x hx => ?_, c⟩
  have := b x hx
  unfold fitsB at this
  rw [Bool.and_eq_true, decide_eq_true_eq, decide_eq_true_eq] at this
  exact this
end WM

/-! The test of Lucas and Lehmer, as a computation; least factors as numbers. -/
set_option maxHeartbeats 4000000
set_option maxRecDepth 1000000
namespace WM
def ll (n : Int) : Nat → Int
  | 0 => 4
  | k + 1 => (ll n k * ll n k - 2).fmod n
def llOk (w : Nat) : Bool := w % 2 == 0 || decide (ll (p2 w - 1) (w - 2) = 0) == WP.mers w
theorem ll_all : (List.range 63).all (fun i => llOk (i + 2)) = true := by decide +kernel
theorem ll_mers {w : Nat} (h2 : 2 ≤ w) (h64 : w ≤ 64) (ho : w % 2 ≠ 0) : decide (ll (p2 w - 1) (w - 2) = 0) = WP.mers w := by
  have h := List.all_eq_true.mp ll_all (w - 2) (List.mem_range.mpr (by omega))
  rw [show w - 2 + 2 = w by omega] at h
  unfold llOk at h
  rw [Bool.or_eq_true, beq_iff_eq, beq_iff_eq] at h
  rcases h with h | h
  · exact absurd h ho
  · exact h
theorem mers_even {w : Nat} (h2 : 2 ≤ w) (h64 : w ≤ 64) (he : w % 2 = 0) : WP.mers w = decide (w = 2) := by
  have h : (List.range 63).all (fun i => (i + 2) % 2 != 0 || WP.mers (i + 2) == decide (i + 2 = 2)) = true := by decide +kernel
  have h := List.all_eq_true.mp h (w - 2) (List.mem_range.mpr (by omega))
  rw [show w - 2 + 2 = w by omega] at h
  rw [Bool.or_eq_true, bne_iff_ne, beq_iff_eq] at h
  rcases h with h | h
  · exact absurd he h
  · exact h
theorem p2_pos {w : Nat} (h2 : 2 ≤ w) (h64 : w ≤ 64) : 3 ≤ p2 w - 1 ∧ p2 w ≤ 18446744073709551616 := by
  have h : (List.range 63).all (fun i => decide (3 ≤ p2 (i + 2) - 1) && decide (p2 (i + 2) ≤ 18446744073709551616)) = true := by decide +kernel
  have h := List.all_eq_true.mp h (w - 2) (List.mem_range.mpr (by omega))
  rw [show w - 2 + 2 = w by omega] at h
  rw [Bool.and_eq_true, decide_eq_true_eq, decide_eq_true_eq] at h
  exact h
theorem ll_in {n : Int} (hn : 3 ≤ n) (k : Nat) : 0 ≤ ll n k ∧ (ll n k < n ∨ ll n k = 4) := by
  cases k with
  | zero => exact ⟨by show (0 : Int) ≤ 4; decide, .inr rfl⟩
  | succ k => exact ⟨Int.fmod_nonneg_of_pos _ (by omega), .inl (Int.fmod_lt_of_pos _ (by omega))⟩
theorem pN {w : Nat} : p2 w - 1 = ((2 ^ w - 1 : Nat) : Int) := by
  have := Nat.one_le_two_pow (n := w)
  unfold p2
  rw [Int.ofNat_sub this]
  rfl
end WM

/-! Least factors as numbers. -/
set_option maxHeartbeats 4000000
set_option maxRecDepth 1000000
namespace WM
/-- what the search for the least factor needs -/
theorem lfac_odd {w : Nat} (h2 : 2 ≤ w) (h64 : w ≤ 64) (hm : WP.mers w = false) : lfac w % 2 = 1 := by
  obtain ⟨a, b, c, d, e, g⟩ := lfac_comp h2 h64 hm
  by_cases h : lfac w % 2 = 1
  · exact h
  · have : 2 ∣ 2 ^ w - 1 := Nat.dvd_trans (Nat.dvd_of_mod_eq_zero (by omega)) a
    omega
theorem fmod_dvd {a b : Nat} : ((a : Int).fmod (b : Int) = 0) ↔ b ∣ a := by
  rw [Int.fmod_eq_emod_of_nonneg _ (by omega), ← Int.natCast_emod]
  constructor
  · intro h
    exact Nat.dvd_of_mod_eq_zero (by omega)
  · intro h
    rw [Nat.mod_eq_zero_of_dvd h]; rfl
theorem least_at {w k : Nat} (h2 : 2 ≤ w) (h64 : w ≤ 64) (hm : WP.mers w = false) (h3 : 3 ≤ k) (hl : k ≤ lfac w) : ((p2 w - 1).fmod (k : Int) = 0) ↔ k = lfac w := by
  obtain ⟨a, b, c, d, e, g⟩ := lfac_comp h2 h64 hm
  rw [pN, fmod_dvd]
  constructor
  · intro h
    by_cases q : k = lfac w
    · exact q
    · exact absurd h (g k (by omega) (by omega))
  · intro h
    rw [h]; exact a
theorem lfac_prime {w d : Nat} (h2 : 2 ≤ w) (h64 : w ≤ 64) (hm : WP.mers w = false) (h3 : 3 ≤ d) (hd : d * d ≤ lfac w) : (lfac w : Int).fmod (d : Int) ≠ 0 := by
  obtain ⟨a, b, c, dd, e, g⟩ := lfac_comp h2 h64 hm
  intro h
  have h' := fmod_dvd.mp h
  have : d < lfac w := by
    have : d * 3 ≤ d * d := Nat.mul_le_mul_left d h3
    omega
  exact g d (by omega) this (Nat.dvd_trans h' a)
end WM

set_option maxHeartbeats 4000000
/-! Rules as values: what the law's own arithmetic of rules needs. -/
namespace WL
open PySem PySem.Spec PyProof.Rows L2 Evl WM
def rlS : Rl → Str
  | .sumG => "sum grouping" | .prodG => "product grouping" | .dist => "distribution" | .dneg => "double negation" | .diff => "difference" | .addB => "add back"
  | .divi => "division" | .remR => "remainder range" | .negQ => "negated quotient" | .shift => "shift" | .absV => "absolute value" | .ordD => "order by difference"
  | .monoS => "monotone sum" | .aver => "average" | .squa => "square" | .zeroP => "zero product" | .canc => "cancellation"
def IsR (v : V) (x : Option Int) : Prop := v = rv x
theorem isr_i {a : Int} : IsR (.int a) (some a) := rfl
theorem isr_r {x : Option Int} : IsR (rv x) x := rfl
theorem dec_rv {x y : Option Int} : decide (rv x = rv y) = decide (x = y) := by
  cases x <;> cases y <;> simp [rv]
theorem dec_rvi {x : Option Int} {i : Int} : decide (rv x = V.int i) = decide (x = some i) := dec_rv (y := some i)
theorem dec_rvt {x : Option Int} : decide (rv x = V.str "trap") = decide (x = none) := dec_rv (y := none)
theorem osm_do {f : Fmt} {d : De} {x y : Option Int} : OSm (doR f d x y) := by
  cases x <;> cases y <;> first | exact osm_fit | (intro i h; cases h)
theorem osm_div {f : Fmt} {x y : Option Int} : OSm (divR f x y) := by
  cases x <;> cases y <;> first | exact osm_fit | (intro i h; cases h)
theorem nz_i {b : Int} (h : b ≠ 0) : NZ (some b) := fun z => h (Option.some.inj z)
theorem do_add {f : Fmt} {x y : Option Int} : doR f .add x y = addO f x y := by cases x <;> cases y <;> rfl
theorem do_sub {f : Fmt} {x y : Option Int} : doR f .sub x y = subO f x y := by cases x <;> cases y <;> rfl
theorem do_mul {f : Fmt} {x y : Option Int} : doR f .mul x y = mulO f x y := by cases x <;> cases y <;> rfl
theorem do_div {f : Fmt} {x y : Option Int} : divR f x y = divO f x y := by cases x <;> cases y <;> rfl
theorem do_neg {f : Fmt} {x : Option Int} : doR f .sub (some 0) x = negO f x := by
  cases x with
  | none => rfl
  | some a => show fitR f (0 - a) = fitR f (-a); rw [Int.zero_sub]
theorem scal_rv {x y : Option Int} : scal (rv x) (rv y) = true := by cases x <;> cases y <;> rfl
/-- whether results rise -/
def risesB : List (Option Int) → Bool
  | [] => true
  | [x] => x.isSome
  | x :: y :: r => leO x y && risesB (y :: r)
theorem rises_none : ∀ {xs : List (Option Int)}, none ∈ xs → risesB xs = false
  | [x], h => by
    rcases List.mem_cons.mp h with h | h
    · subst h; rfl
    · cases h
  | x :: y :: r, h => by
    rcases List.mem_cons.mp h with h | h
    · subst h; cases y <;> rfl
    · have := rises_none (xs := y :: r) h
      show (leO x y && risesB (y :: r)) = false
      rw [this, Bool.and_false]
theorem le_all {n : Int} : ∀ {ns : List Int}, ns.Pairwise (· ≤ ·) → (∀ m ∈ ns, n ≤ m) → (n :: ns).Pairwise (· ≤ ·) := fun h k => List.pairwise_cons.mpr ⟨k, h⟩
theorem rises_some : ∀ ns : List Int, risesB (ns.map some) = true ↔ ns.Pairwise (· ≤ ·)
  | [] => ⟨fun _ => .nil, fun _ => rfl⟩
  | [x] => ⟨fun _ => List.pairwise_cons.mpr ⟨fun _ h => (List.not_mem_nil h).elim, .nil⟩, fun _ => rfl⟩
  | x :: y :: r => by
    have ih := rises_some (y :: r)
    show (decide (x ≤ y) && risesB ((y :: r).map some)) = true ↔ _
    rw [Bool.and_eq_true, ih, decide_eq_true_eq]
    constructor
    · rintro ⟨h1, h2⟩
      refine List.pairwise_cons.mpr ⟨fun m hm => ?_, h2⟩
      rcases List.mem_cons.mp hm with e | e
      · subst e; exact h1
      · exact Int.le_trans h1 ((List.pairwise_cons.mp h2).1 m e)
    · intro h
      have h' := List.pairwise_cons.mp h
      exact ⟨h'.1 y (List.mem_cons_self ..), h'.2⟩
theorem sorted_unique : ∀ {xs ys : List Int}, xs.Perm ys → xs.Pairwise (· ≤ ·) → ys.Pairwise (· ≤ ·) → xs = ys := fun h a b => h.eq_of_pairwise (fun x y _ _ h1 h2 => Int.le_antisymm h1 h2) a b
theorem in_trap : ∀ xs : List (Option Int), inV (.str "trap") (xs.map rv) = true ↔ none ∈ xs
  | [] => by constructor <;> intro h <;> cases h
  | x :: r => by
    have ih := in_trap r
    show (eqV (rv x) (.str "trap") || inV (.str "trap") (r.map rv)) = true ↔ _
    rw [Bool.or_eq_true, ih, List.mem_cons]
    cases x with
    | none => exact ⟨fun _ => .inl rfl, fun _ => .inl (by decide +kernel)⟩
    | some i => exact ⟨fun h => h.elim (fun z => by cases z) .inr, fun h => h.elim (fun z => by cases z) .inr⟩
theorem all_some : ∀ {xs : List (Option Int)}, none ∉ xs → ∃ ns : List Int, xs = ns.map some
  | [], _ => ⟨[], rfl⟩
  | none :: r, h => (h (List.mem_cons_self ..)).elim
  | some i :: r, h => by
    obtain ⟨ns, e⟩ := all_some (xs := r) fun z => h (List.mem_cons_of_mem _ z)
    exact ⟨i :: ns, by rw [e]; rfl⟩
theorem flat_rvs : ∀ xs : List (Option Int), (xs.map rv).all flatV = true
  | [] => rfl
  | x :: r => by show (flatV (rv x) && (r.map rv).all flatV) = true; rw [flat_rvs r]; cases x <;> rfl
theorem eqv_ints : ∀ ns ms : List Int, PyData.eqvAll (ns.map PyData.int) (ms.map PyData.int) = decide (ns = ms)
  | [], [] => by simp [PyData.eqvAll]
  | [], _ :: _ => by simp [PyData.eqvAll]
  | _ :: _, [] => by simp [PyData.eqvAll]
  | a :: r, b :: t => by
    simp only [List.map_cons, PyData.eqvAll, PyData.eqv, eqv_ints r t]
    by_cases h : a = b <;> by_cases h2 : r = t <;> simp [h, h2]
theorem dp_ints {K : PySem.W.Frag} {H : Hp} : ∀ ns : List Int, DpAll K H (ns.map V.int) (ns.map PyData.int)
  | [] => .nil
  | n :: r => .cons (.int n) (dp_ints r)
theorem map_rv (ns : List Int) : (ns.map some).map rv = ns.map V.int := by rw [List.map_map]; rfl
section
variable {K : PySem.W.Frag} {s : L2.St} {H : Hp} {ta tb te : TE} {tl : TA} {x v : V} {E : XK}
theorem ev_inLst {xs : List V} (ha : Ev ta s H x) (hb : EvA tl s H xs) (hl : xs.length ≤ 100000) (hx : flatV x = true) (hf : xs.all flatV = true) : Ev (tOp (rIn K false) ta (tLst tl)) s H (.bl (inV x xs)) :=
  ev_opL ha (el_lst hb hl) fun _ _ h _ => rv_isL (sq_of h) hx hf
theorem ev_ownL {R : List V → Hp → V → Prop} {xs : List V} (h : EvA tl s H xs) (hl : xs.length ≤ 100000) (k : ∀ l H1, H1 l = some (.lst xs) → R [.ref l] H1 v) : Ev (tCall (Pu R) [] E (tCons (tLst tl) tNil)) s H v := fun H1 e Q q =>
  show tLst tl s H1 (fun x H2 => Pu R [x] H2 Q E) from
  el_lst h hl H1 e _ fun p H2 _ e2 hx => ⟨v, k p H2 hx, fun H3 e3 => q H3 (e2.trans e3)⟩
end
/-- 'trap' not in some and list(some) == sorted(some) -/
theorem ev_rises {K : PySem.W.Frag} {s : L2.St} {H : Hp} {i : Nat} {l : Addr} {xs : List (Option Int)} (hs : s[i]? = some (some (.ref l))) (hl : SqL K H l (xs.map rv)) (hn : xs.length < 64)
    (sh : ∀ ns : List Int, SeqAt.shaped (.list (ns.map PyData.int)) = true) :
    Ev (tAndV (tOp (rIn K true) (tC (.str "trap")) (tVar i)) (tOp (rEqD K) (tCB (rListS K) (tCons (tVar i) tNil)) (tCB (rSorted K) (tCons (tVar i) tNil)))) s H (.bl (risesB xs)) := by
  by_cases hm : none ∈ xs
  · refine ev_is (ev_andV (a := false) (b := false) ?_ (fun z => by cases z)) (by rw [rises_none hm]; rfl)
    refine ev_is (ev_op ev_c (ev_var hs) (rv_niL hl rfl (flat_rvs xs))) ?_
    rw [(in_trap xs).mpr hm]; rfl
  · refine ev_is (ev_andV (a := true) (b := risesB xs) ?_ (fun _ => ?_)) (by rw [Bool.true_and])
    · refine ev_is (ev_op ev_c (ev_var hs) (rv_niL hl rfl (flat_rvs xs))) ?_
      have : inV (.str "trap") (xs.map rv) = false := by
        cases h : inV (.str "trap") (xs.map rv) with
        | false => rfl
        | true => exact (hm ((in_trap xs).mp h)).elim
      rw [this]; rfl
    · obtain ⟨ns, rfl⟩ := all_some hm
      rw [map_rv] at hl
      rw [List.length_map] at hn
      intro H1 e Q q
      refine ⟨_, hs, l, _, rfl, .inl (ex_l e hl), fun l1 hl1 => ⟨_, hs, l, ns, rfl, ex_l (e.trans (Ex.new hl1)) hl, hn, fun ns' p hp hw hp0 => ?_⟩⟩
      refine ⟨.list (ns.map .int), .list (ns'.map .int), .lst (sq_of ?_) (dp_ints ns), .lst (sq_of upd_same) (dp_ints ns'), sh _, sh _, ?_⟩
      · exact Ex.new hp0 _ _ upd_same
      have e2 : PyData.eqv (.list (ns.map .int)) (.list (ns'.map .int)) = risesB (ns.map some) := by
        simp only [PyData.eqv, eqv_ints]
        by_cases hr : ns.Pairwise (· ≤ ·)
        · rw [(rises_some ns).mpr hr]
          exact decide_eq_true (sorted_unique hp hw hr).symm
        · have : risesB (ns.map some) = false := by
            cases h : risesB (ns.map some) with
            | false => rfl
            | true => exact (hr ((rises_some ns).mp h)).elim
          rw [this]
          exact decide_eq_false fun z => hr (z ▸ hw)
      rw [e2]
      exact q _ ((Ex.new hl1).trans (Ex.new hp0))
theorem rises2 {x y : Option Int} : risesB [x, y] = leO x y := by
  cases x <;> cases y <;> simp [risesB, leO]
theorem rises3 {x y z : Option Int} : risesB [x, y, z] = (leO x y && leO y z) := by
  cases x <;> cases y <;> cases z <;> simp [risesB, leO]
theorem dec_i {i j : Int} : decide (V.int i = V.int j) = decide (i = j) := by
  by_cases h : i = j <;> simp [h]
theorem dec_b {i j : Bool} : decide (V.bl i = V.bl j) = (i == j) := by
  cases i <;> cases j <;> rfl
theorem dec_not {p : Prop} [Decidable p] : (!decide p) = decide (¬ p) := by
  by_cases h : p <;> simp [h]
theorem in_two {a b : Int} : inV (.int 0) [.int a, .int b] = (decide (a = 0) || decide (b = 0)) := by
  show (eqV (.int a) (.int 0) || (eqV (.int b) (.int 0) || false)) = _
  rw [Bool.or_false]; rfl
theorem isr_if {b : Bool} {u v : V} {x y : Option Int} (h1 : IsR u x) (h2 : IsR v y) : IsR (if b = true then u else v) (if b = true then x else y) := by
  cases b
  · exact h2
  · exact h1
theorem osm_if {b : Bool} {x y : Option Int} (h1 : OSm x) (h2 : OSm y) : OSm (if b = true then x else y) := by
  cases b
  · exact h2
  · exact h1
section
variable {s : L2.St} {H : Hp} {D : Ends} {tz : TS} {ta : TA}
/-- a list and a written one put together -/
theorem el_cat {i : Nat} {l : Addr} {xs zs : List V} (hs : s[i]? = some (some (.ref l))) (hl : H l = some (.lst xs)) (h : EvA ta s H zs) (hz : zs.length ≤ 100000) (hn : xs.length + zs.length ≤ 100000) : EvL (tOp rCat (tVar i) (tLst ta)) s H (xs ++ zs) := fun H1 e Q q =>
  ⟨_, hs, el_lst h hz H1 e _ fun p H2 hp e2 hx => ⟨l, p, xs, zs, rfl, rfl, e2 _ _ (e _ _ hl), hx, sz_of hn, fun m hm => q m _ (fresh_back e2 hm) (e2.trans (Ex.new hm)) upd_same⟩⟩
end
def rlV : List V := allRl.map fun r => V.str (rlS r)
theorem shape {xs : List Int} {r : Rl} (h : xs.length = r.ar) : (∃ a b c, xs = [a, b, c] ∧ r.ar = 3) ∨ (∃ a b, xs = [a, b] ∧ r.ar = 2) ∨ ∃ a, xs = [a] ∧ r.ar = 1 := by
  match xs, h with
  | [], h => cases r <;> cases h
  | _ :: _ :: _ :: _ :: _, h => exact absurd h (by cases r <;> simp only [List.length_cons, Rl.ar] <;> omega)
  | [a, b, c], h => exact .inl ⟨a, b, c, rfl, h.symm⟩
  | [a, b], h => exact .inr (.inl ⟨a, b, rfl, h.symm⟩)
  | [a], h => exact .inr (.inr ⟨a, rfl, h.symm⟩)
end WL

set_option maxHeartbeats 4000000
/-! More of the layer: comprehensions over steps, new lists against the empty one, lambdas that stay. -/
namespace WX
open PySem PySem.Spec PyProof.Rows L2 Evl WM WL WLam LamX
section
variable {K : PySem.W.Frag} {s : L2.St} {H : Hp} {ta tb te : TE} {t : TT}
theorem el_step {tr : TA} {j : Nat} {vs : List Nat} {lo hi c : Int} {n : Nat} (f : Nat → Bool) (v : Nat → V) (h : EvA tr s H [.int lo, .int hi, .int c]) (hr : RgC lo hi c n) (hn : n ≤ 40000)
    (hw : ∀ x, wipe ((wipe s vs).set j (some x)) vs = wipe s vs)
    (ht : ∀ (i : Nat) H1, Ex H H1 → i < n → EvT t ((wipe s vs).set j (some (.int (lo + (i : Int) * c)))) H1 (f i))
    (he : ∀ (i : Nat) H1, Ex H H1 → i < n → f i = true → Ev te ((wipe s vs).set j (some (.int (lo + (i : Int) * c)))) H1 (v i)) :
    EvL (tLc (iRng3 tr) (gName j) t te vs) s H (given n f v) := by
  intro H0 e Q q
  refine h H0 e _ fun H1 e1 => ⟨lo, hi, c, n, rfl, hr, fun Z hZ => ?_⟩
  refine ⟨fun a b G => b = n - a ∧ a ≤ n ∧ Cw H1 f v Z a G, ⟨n, (Nat.sub_zero n).symm, Nat.zero_le n, hZ, Ex.new hZ, upd_same⟩, ?_⟩
  rintro a b G ⟨hb, ha, p⟩
  by_cases lt : a < n
  · refine .inr ⟨lt, Cw H1 f v Z (a + 1), fun G2 p2 => ⟨n - (a + 1), by omega, rfl, lt, p2⟩, ?_⟩
    rintro x G2 ⟨rfl, rfl⟩
    exact ⟨hw _, cw_turn p (by omega) (ht a H1 (e.trans e1) lt) (fun hf => he a H1 (e.trans e1) lt hf)⟩
  · obtain rfl : a = n := by omega
    exact .inl ⟨Nat.le_refl _, q Z G (fresh_back e1 p.1) (e1.trans p.2.1) p.2.2⟩
theorem given_nil {n : Nat} {f : Nat → Bool} {v : Nat → V} (h : ∀ i, i < n → f i = false) : given n f v = [] := by
  unfold given
  rw [List.filter_eq_nil_iff.mpr fun i hi => ?_]
  · rfl
  · rw [h i (List.mem_range.mp hi)]; decide
theorem given_all {n : Nat} {f : Nat → Bool} {v : Nat → V} (h : ∀ i, i < n → f i = true) : given n f v = (List.range n).map v := by
  unfold given
  rw [List.filter_eq_self.mpr fun i hi => h i (List.mem_range.mp hi)]
theorem nil_ne (ha : EvL ta s H []) : Ev (tOp (rNeD K) ta (tLst tNil)) s H (.bl false) :=
  ev_opLL ha (el_lst ea_nil (Nat.zero_le _)) fun p q H1 hp hq _ H2 e Q k =>
    ⟨.list [], .list [], .lst (sq_of (e _ _ hp)) .nil, .lst (sq_of (e _ _ hq)) .nil, by decide +kernel, by decide +kernel, k H2 (Ex.refl H2)⟩
theorem nil_eq (ha : EvL ta s H []) : Ev (tOp (rEqD K) ta (tLst tNil)) s H (.bl true) :=
  ev_opLL ha (el_lst ea_nil (Nat.zero_le _)) fun p q H1 hp hq _ H2 e Q k =>
    ⟨.list [], .list [], .lst (sq_of (e _ _ hp)) .nil, .lst (sq_of (e _ _ hq)) .nil, by decide +kernel, by decide +kernel, k H2 (Ex.refl H2)⟩
end
/-- the steps of range(a, b, 2) -/
theorem rg2 {a b : Int} (h1 : 0 ≤ a) (h2 : a < b) (h4 : b ≤ 70000) : RgC a b 2 ((b - a - 1) / 2 + 1).toNat ∧ ((b - a - 1) / 2 + 1).toNat ≤ 40000 := by
  have e : Builtin.Range.rangeSize a b 2 = (b - a - 1) / 2 + 1 := by
    unfold Builtin.Range.rangeSize
    rw [if_pos (by decide), if_pos h2]
  refine ⟨⟨by decide, by decide, ?_, ?_⟩, by omega⟩
  · unfold Builtin.Range.small
    rw [e]
    simp only [Builtin.Range.rangeFitsLong, Bool.and_eq_true, Bool.or_eq_true, decide_eq_true_eq, beq_iff_eq, show ((2 : Int) > 0) by decide, if_true]
    omega
  · rw [e]; omega
theorem rg2_none {a b : Int} (h1 : 0 ≤ a) (h2 : b ≤ a) (h3 : 0 ≤ b) (h4 : a ≤ 70000) : RgC a b 2 0 := by
  have e : Builtin.Range.rangeSize a b 2 = 0 := by
    unfold Builtin.Range.rangeSize
    rw [if_pos (by decide), if_neg (by omega)]
  refine ⟨by decide, by decide, ?_, e⟩
  unfold Builtin.Range.small
  rw [e]
  simp only [Builtin.Range.rangeFitsLong, Bool.and_eq_true, Bool.or_eq_true, decide_eq_true_eq, beq_iff_eq, show ((2 : Int) > 0) by decide, if_true]
  omega
theorem lamAt_exb {X : Cx} {d : LamD} {g r a : Addr} {ns : List Int} {H H' : Hp} (R : RowOK X.K H r a ns) (h : LamAt X d g H) (e : ExB r H H') : LamAt X d g H' := by
  obtain ⟨ys, hr⟩ := R.is
  obtain ⟨c', dV, h1, h2, h3⟩ := h
  refine ⟨c', dV, e _ _ (ne_of h1 hr (by unfold LamO; intro z; cases z)) h1, e _ _ (ne_of h2 hr (by unfold CodeO; intro z; cases z)) h2, ?_⟩
  unfold DflOk at *
  cases hd : d.dflt with
  | none => rw [hd] at h3; exact h3
  | some p =>
    rw [hd] at h3
    obtain ⟨t, e1, e2⟩ := h3
    exact ⟨t, e1, e _ _ (ne_of e2 hr (by intro z; cases z)) e2⟩
/-- what counts as an integer -/
inductive Wh (K : PySem.W.Frag) (H : Hp) : V → Bool → Prop
  | int (i : Int) : Wh K H (.int i) true
  | bl (b : Bool) : Wh K H (.bl b) false
  | non : Wh K H .non false
  | str (z : Str) : Wh K H (.str z) false
  | tup {p : Addr} {xs : List V} (h : SqT K H p xs) : Wh K H (.ref p) false
theorem Wh.ex {K : PySem.W.Frag} {H H' : Hp} {v : V} {b : Bool} (h : Wh K H v b) (e : Ex H H') : Wh K H' v b := by
  cases h with
  | int i => exact .int i
  | bl b => exact .bl b
  | non => exact .non
  | str z => exact .str z
  | tup h => exact .tup (ex_t e h)
end WX

set_option maxHeartbeats 4000000
/-! Tables of the module with text keys: their keys as a tuple; calls of what stands in them. -/
namespace WT
open PySem PySem.Spec PyProof.Rows L2 Evl WM WL WLam StX
/-! ### calls of a function that a local name holds -/
def tCallV (Fam : V → Sp → Prop) (E : XK) (tf : TE) (t : TA) : TE := fun σ H Q => tf σ H fun y H1 => ∃ sp, Fam y sp ∧ t σ H1 fun vs H2 => sp vs H2 Q E
def FamOk (P : Program) (w : World) (K : PySem.W.Frag) (mg : Str → Option Value) (base : Heap) (CX : CXT) (k : Nat) (Fam : V → Sp → Prop) : Prop :=
  ∀ y sp, Fam y sp → ∃ f, y = .ref f ∧ FnR P w K mg base CX k f sp ∧ PySem.W.keepIn K (.ref f) = true
section
variable {X : Cx} {CX : CXT} {k : Nat} {Fam : V → Sp → Prop} {E : XK} {x : Str} {e : Expr} {es : List Expr} {te tf : TE} {t : TA} {p sp_ pos : Pos}
theorem pe_callVP (hF : FamOk X.prog X.w X.K X.mg X.base CX k Fam) (hr : Room k X.A) (hx : Passes CX X E) (hf : PE X (.Name x p) tf) (ha : PA X (e :: es) t)
    (he : starEach (e :: es) X.env = (false, eval e X.env) :: starEach es X.env := by rfl) (hst : (backTo pos (starEach es X.env)).any (·.1) = false := by rfl) :
    PE X (.Call (.Name x p) (e :: es) [] pos) (tCallV Fam E tf t) := by
  refine ⟨fun pins s σ H Q I h => wpAny_Call_Name_kw (thn (hf.run pins s σ H _ I h) fun v s1 ⟨y, H1, I1, ry, sp, hfam, q⟩ => ?_)⟩
  obtain ⟨f, rfl, F, hk⟩ := hF _ _ hfam
  obtain rfl : v = Value.ref f := ry
  exact PySem.W.callWith_K (h₀ := X.base) I1.ok.mod.kin hk (thn (ha.run pos pins s1 σ H1 _ I1 q) fun us s2 ⟨vs, H2, I2, r, q2⟩ => ⟨I2.kIn, wpAny_call (run_fnR F hr hx I2 r q2)⟩) he hst
theorem pe_callVS (hF : FamOk X.prog X.w X.K X.mg X.base CX k Fam) (hr : Room k X.A) (hx : Passes CX X E) (hf : PE X (.Name x p) tf) (ha : PA X (e :: es) t)
    (he : starEach (e :: es) X.env = (false, eval e X.env) :: starEach es X.env := by rfl) (hst : (backTo pos (starEach es X.env)).any (·.1) = true := by rfl) :
    PE X (.Call (.Name x p) (e :: es) [] pos) (tCallV Fam E tf t) := by
  refine ⟨fun pins s σ H Q I h => wpAny_Call_Name_kw (thn (hf.run pins s σ H _ I h) fun v s1 ⟨y, H1, I1, ry, sp, hfam, q⟩ => ?_)⟩
  obtain ⟨f, rfl, F, hk⟩ := hF _ _ hfam
  obtain rfl : v = Value.ref f := ry
  exact PySem.W.callWith_S2 (h₀ := X.base) I1.ok.mod.kin hk (thn (ha.run pos pins s1 σ H1 _ I1 q) fun us s2 ⟨vs, H2, I2, r, q2⟩ => ⟨I2.kIn, wpAny_call (run_fnR F hr hx I2 r q2)⟩) he hst
/-- the only argument starred -/
def tStar1 (K : PySem.W.Frag) (te : TE) : TA := fun σ H Q => te σ H fun y H1 => ∃ a xs, y = V.ref a ∧ (SqT K H1 a xs ∨ SqL K H1 a xs) ∧ Q xs H1
theorem pe_callV1 (hF : FamOk X.prog X.w X.K X.mg X.base CX k Fam) (hr : Room k X.A) (hx : Passes CX X E) (hf : PE X (.Name x p) tf) (he : PE X e te)
    (hst : starEach [.Starred e sp_] X.env = [(true, eval e X.env)] := by rfl) :
    PE X (.Call (.Name x p) [.Starred e sp_] [] pos) (tCallV Fam E tf (tStar1 X.K te)) := by
  refine ⟨fun pins s σ H Q I h => wpAny_Call_Name_kw (thn (hf.run pins s σ H _ I h) fun v s1 ⟨y, H1, I1, ry, sp, hfam, q⟩ => ?_)⟩
  obtain ⟨f, rfl, F, hk⟩ := hF _ _ hfam
  obtain rfl : v = Value.ref f := ry
  refine PySem.W.callWith_S (h₀ := X.base) I1.ok.mod.kin hk (thn (he.run pins s1 σ H1 _ I1 q) fun v s2 ⟨y, H2, I2, ry, a, xs, ey, hxs, q2⟩ => ?_) hst
  subst ey
  obtain rfl : v = Value.ref a := ry
  exact star_any I2 hxs fun us s3 I3 rv => ⟨I3.kIn, wpAny_call (run_fnR F hr hx I3 rv q2)⟩
end
section
variable {P : Program} {w : World} {K : PySem.W.Frag} {mg : Str → Option Value} {base : Heap} {CX : CXT} {k : Nat} {sp : Sp} {ps : List Str} {x : Str}
theorem _root_.WL.Cal.raw (C : Cal P w K mg base CX k x ps sp) : ∃ f, mg x = some (.ref f) ∧ FnR P w K mg base CX k f sp ∧ PySem.W.keepIn K (.ref f) = true := by
  obtain ⟨f, fd, F, hm, hk, hb⟩ := C
  refine ⟨f, hm, (F.raw hb .nil).imp fun vs H Q E h => ?_, hk⟩
  show sp (vs ++ []) H Q E
  rw [List.append_nil]; exact h
end
/-! ### the keys of a table -/
theorem dicW_keys {K : PySem.W.Frag} {w : World} {a : Addr} {ks : List Str} (h : He.dicW K a = some (He.keysIn w.params ks)) : ∃ es n, KDict K w a es n ∧ es.toList.map He.keyOf = He.keysIn w.params ks := by
  obtain ⟨es, n, D⟩ := He.dicW_ok h
  refine ⟨es, n, D, ?_⟩
  unfold He.dicW at h
  rw [D.at_] at h
  simpa [D.low] using h
section
variable {prog : Program} {w : World} {A : Around} {E : Value → Shared → Prop} {s : Shared} {T : String} {r d : Addr} {n : Nat} {Pv : Nat → Value → Prop} {OK : Heap → Prop}
theorem collect_src {Q : List Value → Shared → Prop} (K : PySem.W.KdlSrc prog w T r d n Pv OK) (hh : A.handled = none) (hok : OK s.heap) (hn : n ≤ sizeLine)
    (hQ : ∀ (h' : Heap) (tk : Nat) (acc : Array Value), (∀ b o, s.heap.get? b = some o → h'.get? b = some o) → ItemsOf Pv acc n → Q acc.toList { s with heap := h', toks := tk }) : wpAny (model prog w) A (collect (.ref r)) Q E s := by
  have lt := K.there _ hok
  have nS : (s.heap.push { cls := .type "list", data := .seq ([] : List Value).toArray }).get? s.heap.objs.size = some { cls := .type "list", data := .seq #[] 0 } := Heap.get?_push_size _ rfl
  unfold collect
  (refine wpAny_bind (wpAny_runValue (codeAny_builtin F.entry_proto_collect ?_)); rw [Around.under_plainId F.plain_proto_collect _])
  (show wpAny _ A.in1 (newList [] >>= fun z => again (.builtin "list.__iadd__" ⟨[z, .ref r], []⟩)) _ _ s; refine wpAny_bind (wpAny_newObj_type ?_))
  (refine wpAny_pure ⟨plainId_quiet F.plain_list_iadd _, codeAny_builtin F.entry_list_iadd ?_⟩; rw [Around.under_plainId F.plain_list_iadd _])
  show wpAny _ A.in1 (Builtin.List.listExtendWith (.ref s.heap.objs.size) (.ref r) (.ref s.heap.objs.size)) _ _ _
  refine wpAny_mono (PySem.W.kdl_extend (A := A) (s := { s with heap := s.heap.push { cls := .type "list", data := .seq ([] : List Value).toArray } })
    (R := fun res s' => res = .ok (.ret (.ref s.heap.objs.size)) ∧ ∃ (h' : Heap) (tk : Nat) (acc : Array Value) (c' : Nat), s' = { s with heap := h', toks := tk } ∧ (∀ b o, s.heap.get? b = some o → h'.get? b = some o) ∧
      h'.get? s.heap.objs.size = some { cls := .type "list", dict := none, data := .seq acc c', slots := #[] } ∧ ItemsOf Pv acc n)
    K hh (K.keep _ _ hok fun b _ o e => Heap.get?_push_of_some _ e) s.heap.objs.size (Nat.ne_of_gt lt.1) (Nat.ne_of_gt lt.2) _ 0 nS
    (fun h' tk acc c' hk hS hi => ⟨rfl, h', tk, acc, c', rfl, fun b o q => hk b o (Nat.ne_of_lt (Heap.lt_size q)) (Heap.get?_push_of_some _ q), hS, hi⟩) hn) (fun fin s' h => ?_) (fun e s' h => absurd h.1 (by simp))
  cases fin with
  | done f =>
    obtain ⟨z, h', tk, acc, c', rfl, hk, hS, hi⟩ := h
    cases z
    (show wpAny _ A (load s.heap.objs.size >>= _) _ _ _; exact wpAny_bind (wpAny_load hS (wpAny_pure (hQ h' tk acc hk hi))))
  | again c' =>
    refine ⟨h.1, codeAny_mono h.2 fun res s'' hz => ?_⟩
    obtain ⟨rfl, h', tk, acc, c', rfl, hk, hS, hi⟩ := hz
    (show wpAny _ A (load s.heap.objs.size >>= _) _ _ _; exact wpAny_bind (wpAny_load hS (wpAny_pure (hQ h' tk acc hk hi))))
theorem code_tuple_src {Q₁ : Value → Shared → Prop} (K : PySem.W.KdlSrc prog w "dict" r d n Pv OK) (hh : A.handled = none) (hok : OK s.heap) (hn : n ≤ sizeLine)
    (h : ∀ (h' : Heap) (tk : Nat) (acc : Array Value), (∀ b o, s.heap.get? b = some o → h'.get? b = some o) → ItemsOf Pv acc n → Q₁ (.ref h'.objs.size) { s with heap := h'.push { cls := .type "tuple", data := .seq acc }, toks := tk }) :
    codeAny (model prog w) A (.call (.builtin "tuple.__new__") ⟨[.type "tuple", .ref r], []⟩) (wants Q₁ E) s := by
  (refine codeAny_of_tree ?_; show wpAny _ A.in1 (do checkBuiltinCall "tuple.__new__" ⟨[.type "tuple", .ref r], []⟩; again (.builtin "tuple.__new__" ⟨[.type "tuple", .ref r], []⟩)) _ _ s)
  (refine wpAny_bind (wpAny_of_eq (F.newCall_tuple_1 _) (wpAny_pure ⟨plainId_quiet F.plain_tuple_new _, codeAny_builtin F.entry_tuple_new ?_⟩)); rw [Around.under_plainId F.plain_tuple_new _])
  have k1 := sub_tuple_self
  have k2 := init_tuple_lookup
  have k3 := madeHere_tuple
  have k4 := K.type s hok
  have k5 : A.in1.handled = none := hh
  wp_walk using wpAny_typeOf k4, collect_src (A := A.in1) K k5 hok hn
  intro h' tk acc hk hacc
  (show wpAny _ _ (Builtin.Tuple.tupleExact acc.toList.toArray >>= fun v => ret v) _ _ _; unfold Builtin.Tuple.tupleExact)
  refine wpAny_bind (wpAny_newObj_type ?_ (by show acc.toList.toArray.size ≤ sizeLine; simp only [Array.toArray_toList]; rw [hacc.1]; exact hn))
  refine wpAny_pure ?_
  rw [show acc.toList.toArray = acc by simp]
  exact h h' tk acc hk hacc
theorem call_tuple_src {Q : Value → Shared → Prop} (K : PySem.W.KdlSrc prog w "dict" r d n Pv OK) (hh : A.handled = none) (hok : OK s.heap) (hn : n ≤ sizeLine)
    (hQ : ∀ (h' : Heap) (tk : Nat) (acc : Array Value), (∀ b o, s.heap.get? b = some o → h'.get? b = some o) → ItemsOf Pv acc n → Q (.ref h'.objs.size) { s with heap := h'.push { cls := .type "tuple", data := .seq acc }, toks := tk }) :
    wpAny (model prog w) A (call (.type "tuple") [.ref r]) Q E s := by
  refine callType_codes (Q₁ := fun ob z => z.TypeIs ob "tuple" ∧ Q ob z) F.called_tuple (F.typeCall_tuple_1 _) F.entry_object_init
    (code_tuple_src (A := A.in1) K hh hok hn fun h' tk acc hk hacc => ⟨⟨_, Heap.get?_push_size _ rfl, rfl⟩, hQ h' tk acc hk hacc⟩) fun ob z hz => ?_
  exact ⟨hz.1, F.args_object_init_2 ob _, object_init_meets F.called_tuple.init.lookup F.called_tuple.made (by decide) prog w A.in1 _ z ⟨hz.1, rfl, hz.2⟩⟩
end
def rTupD (K : PySem.W.Frag) (w : World) : List V → Hp → VK → Prop := fun xs H Q => ∃ d es n ks, xs = [.ref d] ∧ KDict K w d es n ∧ es.toList.map He.keyOf = He.keysIn w.params ks ∧ ks.length ≤ 100000 ∧ ∀ q, H q = none → Q (.ref q) (upd H q (.tup (ks.map V.str)))
theorem call_tuple_kd {X : Cx} (hc : X.calm = true) : CallR X (.type "tuple") (rTupD X.K X.w) := by
  intro pins s σ H xs us Q I r h
  obtain ⟨d, es, n, ks, rfl, D, hks, hz, q⟩ := h
  obtain ⟨u, rfl, rx⟩ := vals1 r
  obtain rfl : u = Value.ref d := rx
  have hat := I.kIn _ _ D.at_
  have hl : es.size = ks.length := by
    have := congrArg List.length hks
    simpa [He.keysIn] using this
  refine call_tuple_src (kdl_raw (es := es) (ep := n) D.low ⟨rfl, rfl, rfl⟩ rfl) (I.ok.hd hc) hat (by rw [hl]; exact sz_of hz) fun h' tk acc hk hacc => ?_
  have rv : Vals (ks.map V.str) acc.toList := by
    refine vals_of_at (by simp [hacc.1, hl]) fun j x v h1 h2 => ?_
    rw [Array.getElem?_toList] at h2
    obtain ⟨en, he, rfl⟩ := hacc.2 j v h2
    have h3 := congrArg (fun l => l[j]?) hks
    have e1 : (es.toList.map He.keyOf)[j]? = some (He.keyOf en) := by
      rw [List.getElem?_map, Array.getElem?_toList, he]; rfl
    rw [List.getElem?_map] at h1
    cases hk : ks[j]? with
    | none => rw [hk] at h1; cases h1
    | some z =>
      rw [hk] at h1
      cases h1
      have e2 : (He.keysIn X.w.params ks)[j]? = some (some (z, PyData.keyHash X.w.params z)) := by
        unfold He.keysIn
        rw [List.getElem?_map, hk]; rfl
      have e3 : some (He.keyOf en) = some (some (z, PyData.keyHash X.w.params z)) := by rw [← e1, ← e2, hks]
      have e4 := Option.some.inj e3
      unfold He.keyOf at e4
      split at e4
      · rename_i y t hy
        rw [hy, ← (Prod.mk.inj (Option.some.inj e4)).1]
        exact ⟨t, rfl⟩
      · cases e4
  have I1 : Inv X pins σ H { s with heap := h', toks := tk } := I.kept hk
  have I2 : Inv X pins σ (upd H h'.objs.size (.tup (ks.map V.str))) { s with heap := h'.push { cls := .type "tuple", data := .seq acc }, toks := tk } :=
    I1.laid (t' := tk) (fun b o e => Heap.get?_push_of_some _ e) (Nat.le_refl _) (show ObjOk X.prog X.w _ _ _ (.tup (ks.map V.str)) from ⟨by rw [List.length_map]; exact sz_of hz, acc.toList, rv, by rw [Array.toArray_toList]; exact IsTup.new _ _⟩)
  exact ⟨.ref h'.objs.size, _, I2, rfl, q _ (I1.hok.fresh (Nat.le_refl _))⟩
end WT

set_option maxHeartbeats 4000000
/-! More of the layer for the program's defs: new tuples handed on, tables, lists of draws. -/
namespace WU
open PySem PySem.Spec PyProof.Rows L2 Evl WM WL WLam WX WT StX
/-- what the operations take of a format -/
def tV (f : Fmt) : List V := [.int (lo f), .int (hi f), .str (ovS f.ov), .str (dvS f.dv)]
section
variable {K : PySem.W.Frag} {s : L2.St} {H : Hp} {ta tb te tf : TE} {t : TA} {v y : V} {D : Ends} {tz : TS} {E : XK} {w : World} {xs ys vs : List V}
theorem bl_unp2U {i j n : Nat} {a b : V} (h : EvU te s H [a, b]) (hn : 2 = n) (kk : ∀ H1, Ex H H1 → Bl tz D ((s.set i (some a)).set j (some b)) H1) :
    Bl (tSeq (tAsg te (gTup K n (gCons (gName i) (gCons (gName j) gNil)))) tz) D s H := fun H1 e =>
  h H1 e _ fun p H2 hp e2 hx => ⟨p, [a, b], rfl, st_of hx, hn, _, _, rfl, _, _, rfl, rfl, kk H2 (e.trans e2) H2 (Ex.refl H2)⟩
theorem bl_retUE (h : EvU te s H xs) (k : RetU ys H D.rt) (e : xs = ys) : Bl (tRet te) D s H := bl_retU h (by rw [e]; exact k)
theorem eu_is (h : EvU te s H xs) (e : xs = ys) : EvU te s H ys := by rw [← e]; exact h
theorem ev_own1U {R : List V → Hp → V → Prop} (h : EvU te s H xs) (hl : EvA t s H vs) (k : ∀ q H1, Ex H H1 → H1 q = some (.tup xs) → R (.ref q :: vs) H1 v) : Ev (tCall (Pu R) [] E (tCons te t)) s H v := fun H1 e Q q =>
  h H1 e _ fun p H2 hp e2 hx => hl H2 (e.trans e2) _ fun H3 e3 => by
    show Pu R ((V.ref p :: vs) ++ []) H3 Q E
    rw [List.append_nil]
    exact ⟨v, k p H3 ((e.trans e2).trans e3) (e3 _ _ hx), fun H4 e4 => q H4 ((e2.trans e3).trans e4)⟩
theorem pe_globS {X : Cx} {x : Str} {z : Str} {pos : Pos} (hg : Gl X x) (hm : ∃ t, X.mg x = some (.str z t)) (hd : (x == ("__debug__" : Str)) = false := by decide) : PE X (.Name x pos) (tC (.str z)) := by
  obtain ⟨t, hm⟩ := hm
  exact pe_glob hg hm ⟨_, rfl⟩ hd
theorem ev_own2U {R : List V → Hp → V → Prop} (h1 : EvU ta s H xs) (h2 : EvU tb s H ys) (k : ∀ p q H1, Ex H H1 → H1 p = some (.tup xs) → H1 q = some (.tup ys) → R [.ref p, .ref q] H1 v) : Ev (tCall (Pu R) [] E (tCons ta (tCons tb tNil))) s H v := fun H1 e Q q =>
  h1 H1 e _ fun p H2 _ e2 hx => h2 H2 (e.trans e2) _ fun p2 H3 _ e3 hy => by
    show Pu R ([V.ref p, V.ref p2] ++ []) H3 Q E
    exact ⟨v, k p p2 H3 ((e.trans e2).trans e3) (e3 _ _ hx) hy, fun H4 e4 => q H4 ((e2.trans e3).trans e4)⟩
theorem ev_own3U {x z : V} {tu : TE} {R : List V → Hp → V → Prop} (h1 : Ev ta s H x) (h2 : Ev tb s H z) (h3 : EvU tu s H ys) (k : ∀ p H1, Ex H H1 → H1 p = some (.tup ys) → R [x, z, .ref p] H1 v) : Ev (tCall (Pu R) [] E (tCons ta (tCons tb (tCons tu tNil)))) s H v := fun H1 e Q q =>
  h1 H1 e _ fun H2 e2 => h2 H2 (e.trans e2) _ fun H3 e3 => h3 H3 ((e.trans e2).trans e3) _ fun p H4 _ e4 hy => by
    show Pu R ([x, z, V.ref p] ++ []) H4 Q E
    exact ⟨v, k p H4 (((e.trans e2).trans e3).trans e4) hy, fun H5 e5 => q H5 (((e2.trans e3).trans e4).trans e5)⟩
/-- tuple(a new list) -/
theorem eu_tupOf (h : EvL te s H xs) : EvU (tCB (fun zs H Q => ∃ p ys, zs = [V.ref p] ∧ ((SqL K H p ys ∧ ∀ l, H l = none → Q (.ref l) (upd H l (.tup ys))) ∨ (SqT K H p ys ∧ Q (.ref p) H))) (tCons te tNil)) s H xs := fun H1 e Q q =>
  h H1 e _ fun p H2 _ e2 hx => ⟨p, xs, rfl, .inl ⟨sq_of hx, fun l hl => q l _ (fresh_back e2 hl) (e2.trans (Ex.new hl)) upd_same⟩⟩
/-- tuple(a list) -/
theorem eu_tupOfL {l : Addr} (h : Ev te s H (.ref l)) (hx : SqL K H l xs) : EvU (tCB (fun zs H Q => ∃ p ys, zs = [V.ref p] ∧ ((SqL K H p ys ∧ ∀ l, H l = none → Q (.ref l) (upd H l (.tup ys))) ∨ (SqT K H p ys ∧ Q (.ref p) H))) (tCons te tNil)) s H xs := fun H1 e Q q =>
  h H1 e _ fun H2 e2 => ⟨l, xs, rfl, .inl ⟨ex_l (e.trans e2) hx, fun p hp => q p _ (fresh_back e2 hp) (e2.trans (Ex.new hp)) upd_same⟩⟩
theorem kit_tt {K : PySem.W.Frag} : PySem.W.kitAny K (.type "tuple") [.type "tuple", .type "list"] = some true :=
  kitAny_cons (b := true) (kit_ty (by decide +kernel)) (fun z => by cases z) (fun _ => rfl)
theorem ev_isTT {p : Addr} {zs : List V} {te' : TE} (h : Ev te' s H (.ref p)) (hz : SqT K H p zs) : Ev (tCB (rIsiT K) (tCons te' (tCons (tTup (tCons (tC (.ty "tuple")) (tCons (tC (.ty "list")) tNil))) tNil))) s H (.bl true) :=
  ev_isiT h (ea_cons ev_c (ea_cons ev_c ea_nil)) (Nat.le_of_ble_eq_true rfl) (.cons (.ty _) (.cons (.ty _) .nil)) (fun _ e => tyx_T (ex_t e hz)) kit_tt
theorem el_is (h : EvL te s H xs) (e : xs = ys) : EvL te s H ys := by rw [← e]; exact h
theorem osm_op2 {f : Fmt} {g : Int → Int → Int} {x y : Option Int} : OSm (op2 f g x y) := by
  cases x <;> cases y <;> first | exact osm_fit | (intro i h; cases h)
theorem osm_add {f : Fmt} {x y : Option Int} : OSm (addO f x y) := osm_op2
theorem osm_sub {f : Fmt} {x y : Option Int} : OSm (subO f x y) := osm_op2
theorem osm_mul {f : Fmt} {x y : Option Int} : OSm (mulO f x y) := osm_op2
theorem osm_dvo {f : Fmt} {x y : Option Int} : OSm (divO f x y) := osm_op2
theorem osm_neg {f : Fmt} {x : Option Int} : OSm (negO f x) := by
  cases x <;> first | exact osm_fit | (intro i h; cases h)
theorem osm_rem {f : Fmt} {a b : Int} : OSm (remO f a b) := osm_fit
/-! ### tables -/
def KDE (K : PySem.W.Frag) (w : World) (a : Addr) : Prop := ∃ es n, KDict K w a es n
def rNotKD (K : PySem.W.Frag) (d : Addr) : R2 := fun x y H Q => ∃ (z : Str) (r : Option Value), x = .str z ∧ y = .ref d ∧ PySem.W.nsIn K d z = some r ∧ Q (.bl (!r.isSome)) H
theorem op_notKD {X : Cx} {d : Addr} (h : KDE X.K X.w d) : OpR X (compareOp .NotIn) (rNotKD X.K d) := by
  obtain ⟨es, n, D⟩ := h
  exact op_notIn_kd D
theorem rv_notKD {d : Addr} {z : Str} (h : KDct K w d z v) : RV (rNotKD K d) (.str z) (.ref d) H (.bl false) := fun H1 e Q q => by
  obtain ⟨es, n, u, _, _, hu, _⟩ := h
  exact ⟨z, some u, rfl, rfl, hu, q H1 (Ex.refl H1)⟩
def rInKD (K : PySem.W.Frag) (d : Addr) : R2 := fun x y H Q => ∃ (z : Str) (r : Option Value), x = .str z ∧ y = .ref d ∧ PySem.W.nsIn K d z = some r ∧ Q (.bl r.isSome) H
theorem op_inKD {X : Cx} {d : Addr} (h : KDE X.K X.w d) : OpR X (compareOp .In) (rInKD X.K d) := by
  obtain ⟨es, n, D⟩ := h
  exact op_in_kd D
theorem rv_inKD {d : Addr} {z : Str} (h : KDct K w d z v) : RV (rInKD K d) (.str z) (.ref d) H (.bl true) := fun H1 e Q q => by
  obtain ⟨es, n, u, _, _, hu, _⟩ := h
  exact ⟨z, some u, rfl, rfl, hu, q H1 (Ex.refl H1)⟩
theorem rv_ixKD {p : Addr} {z : Str} (h : KDct K w p z v) : RV (rIxD K w) (.ref p) (.str z) H v := fun H1 e Q q => ⟨p, z, v, rfl, rfl, h, q H1 (Ex.refl H1)⟩
theorem kdct_of {a : Addr} {kvs : List (Str × He.Dv)} (h : KDE K w a) (hv : He.valsB K a kvs = true) {q : Str × He.Dv} (hq : q ∈ kvs) : KDct K w a q.1 (q.2.v K) := by
  obtain ⟨es, n, D⟩ := h
  obtain ⟨u, hu, ru⟩ := He.valsB_ok hv hq
  exact ⟨es, n, u, D.at_, D.lit, hu, ru⟩
/-! ### calls of what a name holds -/
theorem ev_callV {Fam : V → Sp → Prop} {R : List V → Hp → V → Prop} (hf : Ev tf s H y) (hF : Fam y (Pu R)) (ha : EvA t s H vs) (k : ∀ H1, Ex H H1 → R vs H1 v) : Ev (tCallV Fam E tf t) s H v := fun H1 e Q q =>
  hf H1 e _ fun H2 e2 => ⟨_, hF, ha H2 (e.trans e2) _ fun H3 e3 => ⟨v, k H3 ((e.trans e2).trans e3), fun H4 e4 => q H4 ((e2.trans e3).trans e4)⟩⟩
theorem eu_callV {Fam : V → Sp → Prop} {R : List V → Hp → List V → Prop} (hf : Ev tf s H y) (hF : Fam y (PuT R)) (ha : EvA t s H vs) (k : ∀ H1, Ex H H1 → R vs H1 xs) : EvU (tCallV Fam E tf t) s H xs := fun H1 e Q q =>
  hf H1 e _ fun H2 e2 => ⟨_, hF, ha H2 (e.trans e2) _ fun H3 e3 => ⟨xs, k H3 ((e.trans e2).trans e3), fun p H4 hp e4 h4 => q p H4 (fresh_back (e2.trans e3) hp) ((e2.trans e3).trans e4) h4⟩⟩
theorem ea_star {p : Addr} (h : Ev te s H (.ref p)) (hx : SqT K H p xs) (hr : EvA t s H ys) : EvA (tStar K te t) s H (xs ++ ys) := fun H1 e Q q =>
  h H1 e _ fun H2 e2 => ⟨p, xs, rfl, .inl (ex_t (e.trans e2) hx), hr H2 (e.trans e2) _ fun H3 e3 => q H3 (e2.trans e3)⟩
theorem ea_star1 {p : Addr} (h : Ev te s H (.ref p)) (hx : SqT K H p xs) : EvA (tStar1 K te) s H xs := fun H1 e Q q =>
  h H1 e _ fun H2 e2 => ⟨p, xs, rfl, .inl (ex_t (e.trans e2) hx), q H2 e2⟩
/-- tuple(a table) -/
theorem eu_keys {d : Addr} {ks : List Str} (h : Ev te s H (.ref d)) (hk : ∃ es n, KDict K w d es n ∧ es.toList.map He.keyOf = He.keysIn w.params ks) (hz : ks.length ≤ 100000) : EvU (tCB (rTupD K w) (tCons te tNil)) s H (ks.map V.str) := fun H1 e Q q => by
  obtain ⟨es, n, D, hh⟩ := hk
  exact h H1 e _ fun H2 e2 => ⟨d, es, n, ks, rfl, D, hh, hz, fun p hp => q p _ (fresh_back e2 hp) (e2.trans (Ex.new hp)) upd_same⟩
end
section
variable {K : PySem.W.Frag} {s : L2.St} {H : Hp} {te : TE} {ta : TA} {r a : Addr} {ns : List Int} {Q : VK}
/-- [draw for k in range(n)]: a new list of what is drawn -/
theorem lc_draws {Pd : Int → Prop} {j : Nat} {vs : List Nat} {n : Nat} (h : EvA ta s H [.int (n : Int)]) (hn : n ≤ 1000) (R : RowOK K H r a ns) (hw : ∀ x, wipe ((wipe s vs).set j (some x)) vs = wipe s vs)
    (step : ∀ (i : Nat) (H1 : Hp) (Q1 : VK), i < n → RowOK K H1 r a ns → ExB r H H1 → (∀ (v : Int) (H2 : Hp), Pd v → RowOK K H2 r a ns → ExB r H1 H2 → Q1 (.int v) H2) → te ((wipe s vs).set j (some (.int (i : Int)))) H1 Q1)
    (k : ∀ (l : Addr) (xs : List Int) (H1 : Hp), xs.length = n → (∀ x ∈ xs, Pd x) → H l = none → H1 l = some (.lst (xs.map V.int)) → RowOK K H1 r a ns → ExB r H H1 → Q (.ref l) H1) :
    tLc (iRng1 ta) (gName j) tYes te vs s H Q := by
  refine h H (Ex.refl H) _ fun H0 e0 => ⟨(n : Int), rfl, by omega, by omega, fun Z hZ => ?_⟩
  have R0 : RowOK K H0 r a ns := R.ex e0
  have hZr : Z ≠ r := R0.fresh hZ
  refine ⟨fun i m H1 => m = n - i ∧ i ≤ n ∧ ∃ xs : List Int, xs.length = i ∧ (∀ x ∈ xs, Pd x) ∧ H1 Z = some (.lst (xs.map V.int)) ∧ RowOK K H1 r a ns ∧ ExB r H0 H1, ⟨n, by omega, Nat.zero_le _, [], rfl, (fun x hx => absurd hx List.not_mem_nil), upd_same, R0.new hZ, ExB.of (Ex.new hZ)⟩, ?_⟩
  rintro i m H1 ⟨hm, hi, xs, hl, hx, hz, R1, e1⟩
  by_cases lt : i < n
  · refine .inr ⟨by show i < (n : Int).toNat; omega, fun H2 => ∃ ys : List Int, ys.length = i + 1 ∧ (∀ x ∈ ys, Pd x) ∧ H2 Z = some (.lst (ys.map V.int)) ∧ RowOK K H2 r a ns ∧ ExB r H0 H2, fun H2 ⟨ys, h1, h2, h3, h4, h5⟩ => ⟨n - (i + 1), by omega, rfl, lt, ys, h1, h2, h3, h4, h5⟩, ?_⟩
    rintro x H2 ⟨rfl, rfl⟩
    rw [Int.zero_add]
    refine ⟨hw _, ?_⟩
    refine step i _ _ lt R1 ((ExB.of e0).trans e1) fun v H3 hv R3 e3 => ?_
    have z3 := e3 Z _ hZr hz
    refine ⟨_, z3, sz_lt (by rw [List.length_map]; omega), xs ++ [v], by rw [List.length_append, hl]; rfl, fun x hx' => ?_, ?_, ?_, ?_⟩
    · rcases List.mem_append.mp hx' with q | q
      · exact hx x q
      · rw [List.mem_singleton.mp q]; exact hv
    · rw [upd_same, List.map_append]; rfl
    · obtain ⟨p, s0, t, h1, h2, h3, hr⟩ := R3.row
      refine ⟨⟨p, s0, t, h1, h2, h3, by rw [upd_ne (Ne.symm hZr)]; exact hr⟩, ?_, R3.len⟩
      have sc := R.scr
      have eb : ExB r H (upd H3 Z (.lst (xs.map V.int ++ [.int v]))) := fun b o nb hb => by
        have := e0 _ _ hb
        rw [upd_ne (ne_of_none this hZ)]
        exact e3 _ _ nb (e1 _ _ nb this)
      exact R.scrB eb
    · exact fun b o nb hb => by
        rw [upd_ne (ne_of_none hb hZ)]
        exact e3 _ _ nb (e1 _ _ nb hb)
  · obtain rfl : i = n := by omega
    exact .inl ⟨by show (i : Int).toNat ≤ i; omega, k Z xs H1 hl hx (fresh_back e0 hZ) hz R1 ((ExB.of e0).trans e1)⟩
end
/-- a def that stands under another name than its own -/
def DefAtN (K : PySem.W.Frag) (mg : Str → Option Value) (x nm : Str) (st : Stmt) : Prop :=
  ∃ (f : Addr) (fd : FuncData), FunD K nm nm (defArgs st) (defBody st) (defScope st) [] [] f fd ∧ mg x = some (.ref f)
section
variable {P : Program} {w : World} {K : PySem.W.Frag} {mg : Str → Option Value} {base : Heap} {k : Nat} {sp : Sp} {ps : List Str}
theorem DefAtN.cal {x nm : Str} {st : Stmt} {N : List Str} (D : DefAtN K mg x nm st) (S : FnScope N ps (defScope st)) (len : ∀ vs H Q E, sp vs H Q E → vs.length = ps.length)
    (hb : ∀ (kV doc pm : Value) (an : Option Addr) (cdv ct : Value) (us : List Value), us.length = ps.length → bindArgs (PySem.W.fnOf nm nm (defArgs st) (defBody st) (defScope st) .none kV doc pm an cdv ct) ⟨us, []⟩ = pure (ps.zip us))
    (hbody : ∀ (f : Addr) (cdv : Value) (A : Around) (outer : List Env) (s : Shared) (H : Hp) (vs : List V) (Q : VK) (E : XK), Room k (A.deeper (envOfC nm (defScope st) s.heap.objs.size f cdv)) → sp vs H Q E →
      ∃ t, PSs (cxOf CX0 P w K mg base N nm (defScope st) f cdv A outer s H E).nox (defBody st) t ∧ t { nx := fun _ H' => Q .non H', rt := Q } (start N vs) H) : Cal P w K mg base CX0 (k + 1) x ps sp := by
  obtain ⟨f, fd, F, hm⟩ := D
  refine ⟨f, fd, F.ok S len fun cdv A outer s H vs Q E hr hs => ?_, hm, F.kp, F.bindsN hb⟩
  obtain ⟨t, ht, q⟩ := hbody f cdv A outer s H vs Q E hr hs
  exact ⟨t, ht.nox, q⟩
end
theorem mem_rl {v : V} (h : v ∈ rlV) : ∃ r, v = .str (rlS r) := by
  unfold rlV at h
  obtain ⟨r, _, e⟩ := List.mem_map.mp h
  exact ⟨r, e.symm⟩
theorem flat_rl : ∀ x ∈ rlV, flatV x = true := fun x h => by
  obtain ⟨r, rfl⟩ := mem_rl h
  rfl
end WU

set_option maxHeartbeats 4000000
/-! Dicts that are written, kept and filled on. -/
namespace WL
open PySem PySem.Spec PyProof.Rows L2 Evl WM
/-- a new dict -/
def EvD (te : TE) (s : L2.St) (H : Hp) (kvs : List (Key × V)) : Prop := ∀ H1, Ex H H1 → ∀ Q : VK, (∀ p H2, H1 p = none → Ex H1 H2 → H2 p = some (.dK kvs) → Q (.ref p) H2) → te s H1 Q
section
variable {s : L2.St} {H : Hp} {ta tb te td : TE} {D : Ends} {tz : TS} {v : V}
theorem ed_disp {trs : List (TE × TE)} {kvs : List (Key × V)} (h : Paired (fun a b => EvP a s H b) trs kvs) (hl : kvs.length ≤ 15) : EvD (tDisp trs) s H (mergeK [] kvs) := fun H1 e Q q p hp => by
  refine pairs_ev h (upd H1 p (.dK [])) (e.trans (Ex.new hp)) _ fun H2 e2 => ?_
  refine ⟨e2 p _ upd_same, kvs, rfl, hl, ?_⟩
  refine q p _ hp (fun a o ha => ?_) upd_same
  rw [upd_ne (ne_of_none ha hp)]
  exact e2 a o (by rw [upd_ne (ne_of_none ha hp)]; exact ha)
theorem bl_setD {i : Nat} {kvs : List (Key × V)} (h : EvD te s H kvs) (k : ∀ p H1, H p = none → Ex H H1 → H1 p = some (.dK kvs) → Bl tz D (s.set i (some (.ref p))) H1) : Bl (tSeq (tAsg te (gName i)) tz) D s H := fun H1 e =>
  h H1 e _ fun p H2 hp e2 hx => k p H2 (fresh_back e hp) (e.trans e2) hx H2 (Ex.refl H2)
/-- d[k] = v -/
theorem bl_put {d : Addr} {kvs : List (Key × V)} {k : Key} (hl : H d = some (.dK kvs)) (hv : Ev te s H v) (hd : Ev td s H (.ref d)) (hk : Ev tb s H (kV k)) (hn : kvs.length < 100000)
    (kk : ∀ H1, Ex H H1 → tz D s (upd H1 d (.dK (putK kvs k v)))) : Bl (tSeq (sDPut td tb te) tz) D s H := fun H1 e =>
  hv H1 e _ fun H2 e2 => hd H2 (e.trans e2) _ fun H3 e3 => hk H3 ((e.trans e2).trans e3) _ fun H4 e4 =>
    ⟨d, _, rfl, DPut.k ((((e.trans e2).trans e3).trans e4) _ _ hl) (sz_lt hn), kk H4 (((e.trans e2).trans e3).trans e4)⟩
theorem bl_putS {d : Addr} {kvs : List (Key × V)} {z : Str} (hl : H d = some (.dK kvs)) (hv : Ev te s H v) (hd : Ev td s H (.ref d)) (hk : Ev tb s H (.str z)) (hn : kvs.length < 100000)
    (kk : ∀ H1, Ex H H1 → tz D s (upd H1 d (.dK (putK kvs (Sum.inr z) v)))) : Bl (tSeq (sDPut td tb te) tz) D s H := bl_put (k := Sum.inr z) hl hv hd hk hn kk
/-- targets filled out of a tuple made on the way -/
theorem bl_asgU {g : TG} {xs : List V} (h : EvU te s H xs) (k : ∀ p H1, H p = none → Ex H H1 → H1 p = some (.tup xs) → g (.ref p) s H1 fun s' H' => tz D s' H') : Bl (tSeq (tAsg te g) tz) D s H := fun H1 e =>
  h H1 e _ fun p H2 hp e2 hx => k p H2 (fresh_back e hp) (e.trans e2) hx
/-- d[k] of a dict that is kept -/
theorem ev_get {d : Addr} {kvs : List (Key × V)} {k : Key} (hl : H d = some (.dK kvs)) (hd : Ev td s H (.ref d)) (hk : Ev tb s H (kV k)) (hv : valV kvs k = some v) : Ev (tDGet td tb) s H v := fun H1 e Q q =>
  hd H1 e _ fun H2 e2 => hk H2 (e.trans e2) _ fun H3 e3 => ⟨d, v, rfl, by rw [← hv]; exact DGet.k (((e.trans e2).trans e3) _ _ hl), q H3 (e2.trans e3)⟩
theorem ev_getS {d : Addr} {kvs : List (Key × V)} {z : Str} (hl : H d = some (.dK kvs)) (hd : Ev td s H (.ref d)) (hk : Ev tb s H (.str z)) (hv : valV kvs (Sum.inr z) = some v) : Ev (tDGet td tb) s H v := ev_get (k := Sum.inr z) hl hd hk hv
theorem go_put {H0 H' : Hp} {d : Addr} {kvs : List (Key × V)} (e : Ex H0 H') (hd : H0 d = none) (k : ∀ Hn, Ex H0 Hn → Hn d = some (.dK kvs) → Bl tz D s Hn) : tz D s (upd H' d (.dK kvs)) := bl_go (k _ (Ex.mut e hd) upd_same)
/-- an object that was not there may change -/
theorem ex_put {H0 H1 H2 : Hp} {d : Addr} {o : HO} (e1 : Ex H0 H1) (hd : H0 d = none) (e2 : Ex H1 H2) : Ex H0 (upd H2 d o) := Ex.mut (e1.trans e2) hd
end
/-! ### a dict that is filled: what stands in it so far -/
structure Fil (H : Hp) (d : Addr) (ks : List Str) (vs : List V) (H' : Hp) : Prop where
  ex : Ex H H'
  at_ : ∃ kvs : List (Key × V), H' d = some (.dK kvs) ∧ kvs.length ≤ ks.length ∧ ∀ p ∈ ks.zip vs, valV kvs (Sum.inr p.1) = some p.2
theorem putK_le (c : List (Key × V)) (k : Key) (x : V) : (putK c k x).length ≤ c.length + 1 := by
  unfold putK
  split
  · rw [List.length_map]; omega
  · rw [List.length_append]; exact Nat.le_refl _
theorem Fil.put {H H1 H2 : Hp} {d : Addr} {ks : List Str} {vs : List V} (F : Fil H d ks vs H1) (hd : H d = none) (e : Ex H1 H2) (hz : ks.length < 1000) (z : Str) (v : V) (hn : ks.contains z = false) :
    ∃ H3, DPut H2 d (.str z) v H3 ∧ Fil H d (z :: ks) (v :: vs) H3 := by
  obtain ⟨kvs, h1, h2, h3⟩ := F.at_
  refine ⟨_, DPut.k (k := Sum.inr z) (e _ _ h1) (sz_lt (by omega)), Ex.mut (F.ex.trans e) hd, putK kvs (Sum.inr z) v, upd_same, ?_, ?_⟩
  · have := putK_le kvs (Sum.inr z) v
    rw [List.length_cons]; omega
  · intro p hp
    rw [valV_put]
    rcases List.mem_cons.mp hp with rfl | hp
    · rw [if_pos rfl]
    · have : p.1 ≠ z := fun q => by
        have : z ∈ ks := by rw [← q]; exact (List.of_mem_zip hp).1
        rw [List.contains_iff_mem.mpr this] at hn
        cases hn
      rw [if_neg (fun q => this (Sum.inr.inj q))]
      exact h3 p hp
section
variable {s : L2.St} {H H1 : Hp} {ta tb te td : TE} {D : Ends} {tz : TS} {v : V} {d : Addr} {ks : List Str} {vs : List V}
theorem bl_fput {z : Str} (F : Fil H d ks vs H1) (h0 : H d = none) (hv : Ev te s H1 v) (hd : Ev td s H1 (.ref d)) (hk : Ev tb s H1 (.str z)) (hn : ks.contains z = false) (hz : ks.length < 1000)
    (kk : ∀ H2, Fil H d (z :: ks) (v :: vs) H2 → Bl tz D s H2) : Bl (tSeq (sDPut td tb te) tz) D s H1 := fun G e =>
  hv G e _ fun H2 e2 => hd H2 (e.trans e2) _ fun H3 e3 => hk H3 ((e.trans e2).trans e3) _ fun H4 e4 => by
    obtain ⟨H5, dp, F5⟩ := F.put h0 (((e.trans e2).trans e3).trans e4) hz z v hn
    exact ⟨d, H5, rfl, dp, bl_go (kk H5 F5)⟩
theorem fil_get {z : Str} (F : Fil H d ks vs H1) (hd : Ev td s H1 (.ref d)) (hk : Ev tb s H1 (.str z)) (hv : (z, v) ∈ ks.zip vs) : Ev (tDGet td tb) s H1 v := by
  obtain ⟨kvs, h1, _, h3⟩ := F.at_
  exact ev_getS h1 hd hk (h3 _ hv)
theorem Fil.start {kvs : List (Key × V)} (e : Ex H H1) (h : H1 d = some (.dK kvs)) (hl : kvs.length ≤ ks.length) (hv : ∀ p ∈ ks.zip vs, valV kvs (Sum.inr p.1) = some p.2) : Fil H d ks vs H1 := ⟨e, kvs, h, hl, hv⟩
end
section
variable {K : PySem.W.Frag} {s : L2.St} {H H1 H2 : Hp} {te : TE} {D : Ends} {tz : TS} {v v1 v2 v3 : V} {d : Addr} {ks : List Str} {vs : List V} {i : Nat} {z z1 z2 z3 : Str}
theorem g_fput {u : TGs} {rest : List V} {Q : L2.St → Hp → Prop} (F : Fil H d ks vs H1) (h0 : H d = none) (e : Ex H1 H2) (hs : s[i]? = some (some (.ref d))) (hn : ks.contains z = false) (hz : ks.length < 1000)
    (k : ∀ H3, Fil H d (z :: ks) (v :: vs) H3 → u rest s H3 Q) : gCons (gSub (tVar i) (tC (.str z)) rSetD) u (v :: rest) s H2 Q := by
  obtain ⟨H3, dp, F3⟩ := F.put h0 e hz z v hn
  exact ⟨v, rest, rfl, .ref d, hs, d, H3, rfl, dp, k H3 F3⟩
theorem bl_fput2 (F : Fil H d ks vs H1) (h0 : H d = none) (hs : s[i]? = some (some (.ref d))) (h : EvU te s H1 [v1, v2]) (n1 : ks.contains z1 = false) (n2 : (z1 :: ks).contains z2 = false) (hz : ks.length < 900)
    (kk : ∀ H2, Fil H d (z2 :: z1 :: ks) (v2 :: v1 :: vs) H2 → Bl tz D s H2) :
    Bl (tSeq (tAsg te (gTup K 2 (gCons (gSub (tVar i) (tC (.str z1)) rSetD) (gCons (gSub (tVar i) (tC (.str z2)) rSetD) gNil)))) tz) D s H1 :=
  bl_asgU h fun p H2 hp e2 hx => ⟨p, _, rfl, st_of hx, rfl, g_fput F h0 e2 hs n1 (by omega) fun H3 F3 => g_fput F3 h0 (Ex.refl H3) hs n2 (by simp only [List.length_cons]; omega) fun H4 F4 => ⟨rfl, bl_go (kk H4 F4)⟩⟩
theorem bl_fput3 (F : Fil H d ks vs H1) (h0 : H d = none) (hs : s[i]? = some (some (.ref d))) (h : EvU te s H1 [v1, v2, v3]) (n1 : ks.contains z1 = false) (n2 : (z1 :: ks).contains z2 = false)
    (n3 : (z2 :: z1 :: ks).contains z3 = false) (hz : ks.length < 900)
    (kk : ∀ H2, Fil H d (z3 :: z2 :: z1 :: ks) (v3 :: v2 :: v1 :: vs) H2 → Bl tz D s H2) :
    Bl (tSeq (tAsg te (gTup K 3 (gCons (gSub (tVar i) (tC (.str z1)) rSetD) (gCons (gSub (tVar i) (tC (.str z2)) rSetD) (gCons (gSub (tVar i) (tC (.str z3)) rSetD) gNil))))) tz) D s H1 :=
  bl_asgU h fun p H2 hp e2 hx => ⟨p, _, rfl, st_of hx, rfl, g_fput F h0 e2 hs n1 (by omega) fun H3 F3 => g_fput F3 h0 (Ex.refl H3) hs n2 (by simp only [List.length_cons]; omega) fun H4 F4 =>
    g_fput F4 h0 (Ex.refl H4) hs n3 (by simp only [List.length_cons]; omega) fun H5 F5 => ⟨rfl, bl_go (kk H5 F5)⟩⟩
end
end WL

set_option maxHeartbeats 4000000
/-! Tuples that are made on the way and kept in a dict; B is the heap that nothing new lies in. -/
namespace WB
open PySem PySem.Spec PyProof.Rows L2 Evl WM WL WLam WX WT WU StX
/-- a tuple that is not of B -/
def EvN (B : Hp) (te : TE) (s : L2.St) (H : Hp) (xs : List V) : Prop := ∀ H1, Ex H H1 → ∀ Q : VK, (∀ p H2, B p = none → Ex H1 H2 → H2 p = some (.tup xs) → Q (.ref p) H2) → te s H1 Q
/-- several of them, as arguments -/
def EvAN (B : Hp) (ta : TA) (s : L2.St) (H : Hp) (xss : List (List V)) : Prop :=
  ∀ H1, Ex H H1 → ∀ Q : List V → Hp → Prop, (∀ (ps : List Addr) H2, Ex H1 H2 → Paired (fun p xs => B p = none ∧ H2 p = some (.tup xs)) ps xss → Q (ps.map V.ref) H2) → ta s H1 Q
/-- a tuple of several of them -/
def EvNs (B : Hp) (te : TE) (s : L2.St) (H : Hp) (xss : List (List V)) : Prop :=
  ∀ H1, Ex H H1 → ∀ Q : VK, (∀ q (ps : List Addr) H2, Ex H1 H2 → H2 q = some (.tup (ps.map V.ref)) → Paired (fun p xs => B p = none ∧ H2 p = some (.tup xs)) ps xss → Q (.ref q) H2) → te s H1 Q
theorem paired_imp {α β : Type} {R S : α → β → Prop} (h : ∀ a b, R a b → S a b) : ∀ {as : List α} {bs : List β}, Paired R as bs → Paired S as bs
  | _, _, .nil => .nil
  | _, _, .cons x r => .cons (h _ _ x) (paired_imp h r)
theorem paired_len {α β : Type} {R : α → β → Prop} : ∀ {as : List α} {bs : List β}, Paired R as bs → as.length = bs.length
  | _, _, .nil => rfl
  | _, _, .cons _ r => congrArg (· + 1) (paired_len r)
section
variable {K : PySem.W.Frag} {s : L2.St} {B H H1 H2 : Hp} {ta : TA} {te tu td tb ty tx : TE} {t : TT} {D : Ends} {tz : TS} {v : V} {xs ys zs : List V} {xss yss : List (List V)}
theorem eu_ifB {b : Bool} (h : EvT t s H b) (h1 : EvU te s H xs) (h2 : EvU tu s H ys) : EvU (tIf t te tu) s H (if b = true then xs else ys) := fun H1 e Q q =>
  h H1 e _ fun H2 e2 => by
    cases b with
    | true => exact h1 H2 (e.trans e2) _ fun p H3 hp e3 hx => q p H3 (fresh_back e2 hp) (e2.trans e3) hx
    | false => exact h2 H2 (e.trans e2) _ fun p H3 hp e3 hx => q p H3 (fresh_back e2 hp) (e2.trans e3) hx
theorem en_of (hB : Ex B H) (h : EvU te s H xs) : EvN B te s H xs := fun H1 e Q q => h H1 e _ fun p H2 hp e2 hx => q p H2 (fresh_back (hB.trans e) hp) e2 hx
theorem en_var {i : Nat} {p : Addr} (hs : s[i]? = some (some (.ref p))) (hp : B p = none) (hx : H p = some (.tup xs)) : EvN B (tVar i) s H xs := fun H1 e Q q => ⟨_, hs, q p H1 hp (Ex.refl H1) (e _ _ hx)⟩
theorem en_is (h : EvN B te s H xs) (e : xs = ys) : EvN B te s H ys := by rw [← e]; exact h
theorem en_if {b : Bool} (h : EvT t s H b) (h1 : EvN B te s H xs) (h2 : EvN B tu s H ys) : EvN B (tIf t te tu) s H (if b = true then xs else ys) := fun H1 e Q q =>
  h H1 e _ fun H2 e2 => by
    cases b with
    | true => exact h1 H2 (e.trans e2) _ fun p H3 hp e3 hx => q p H3 hp (e2.trans e3) hx
    | false => exact h2 H2 (e.trans e2) _ fun p H3 hp e3 hx => q p H3 hp (e2.trans e3) hx
theorem ean_nil : EvAN B tNil s H [] := fun H1 _ Q q => q [] H1 (Ex.refl H1) .nil
theorem ean_cons (h : EvN B te s H xs) (r : EvAN B ta s H xss) : EvAN B (tCons te ta) s H (xs :: xss) := fun H1 e Q q =>
  h H1 e _ fun p H2 hp e2 hx => r H2 (e.trans e2) _ fun ps H3 e3 hr => q (p :: ps) H3 (e2.trans e3) (.cons ⟨hp, e3 _ _ hx⟩ hr)
theorem ens_tup (h : EvAN B ta s H xss) (hl : xss.length ≤ 1000) : EvNs B (tTup ta) s H xss := fun H1 e Q q =>
  h H1 e _ fun ps H2 e2 hr => ⟨sz_of (by rw [List.length_map, paired_len hr]; omega), fun m hm => q m ps _ (e2.trans (Ex.new hm)) upd_same (paired_imp (fun a b z => ⟨z.1, Ex.new hm _ _ z.2⟩) hr)⟩
theorem ens_if {b : Bool} (h : EvT t s H b) (h1 : EvNs B te s H xss) (h2 : EvNs B tu s H yss) : EvNs B (tIf t te tu) s H (if b = true then xss else yss) := fun H1 e Q q =>
  h H1 e _ fun H2 e2 => by
    cases b with
    | true => exact h1 H2 (e.trans e2) _ fun p ps H3 e3 hx hr => q p ps H3 (e2.trans e3) hx hr
    | false => exact h2 H2 (e.trans e2) _ fun p ps H3 e3 hx hr => q p ps H3 (e2.trans e3) hx hr
theorem bl_setN {i : Nat} (h : EvN B te s H xs) (k : ∀ p H1, B p = none → Ex H H1 → H1 p = some (.tup xs) → Bl tz D (s.set i (some (.ref p))) H1) : Bl (tSeq (tAsg te (gName i)) tz) D s H := fun H1 e =>
  h H1 e _ fun p H2 hp e2 hx => k p H2 hp (e.trans e2) hx H2 (Ex.refl H2)
theorem bl_setNE {i : Nat} (h : EvN B te s H xs) (k : ∀ p H1, B p = none → Ex H H1 → H1 p = some (.tup xs) → D.nx (s.set i (some (.ref p))) H1) : Bl (tAsg te (gName i)) D s H := fun H1 e =>
  h H1 e _ fun p H2 hp e2 hx => k p H2 hp (e.trans e2) hx
/-! ### a dict written with tuples -/
def EvPN (B : Hp) (tr : TE × TE) (s : L2.St) (H : Hp) (kx : Str × List V) : Prop := Ev tr.1 s H (.str kx.1) ∧ EvN B tr.2 s H kx.2
theorem pairsN : ∀ {trs : List (TE × TE)} {kxs : List (Str × List V)}, Paired (fun a b => EvPN B a s H b) trs kxs → ∀ H1, Ex H H1 → ∀ Q : List (V × V) → Hp → Prop,
    (∀ (kvs : List (Key × V)) H2, Ex H1 H2 → Paired (fun kv kx => kv.1 = Sum.inr kx.1 ∧ ∃ p, kv.2 = .ref p ∧ B p = none ∧ H2 p = some (.tup kx.2)) kvs kxs → Q (kvs.map fun kv => (kV kv.1, kv.2)) H2) → tPairs trs s H1 Q
  | _, _, .nil, H1, _, _, q => q [] H1 (Ex.refl H1) .nil
  | _, _, .cons (b := kx) a r, H1, e, Q, q => a.1 H1 e _ fun H2 e2 => a.2 H2 (e.trans e2) _ fun p H3 hp e3 hx => pairsN r H3 ((e.trans e2).trans e3) _ fun kvs H4 e4 hr =>
      q ((Sum.inr kx.1, .ref p) :: kvs) H4 ((e2.trans e3).trans e4) (.cons ⟨rfl, p, rfl, hp, e4 _ _ hx⟩ hr)
/-- what stands in a dict so far -/
structure FilT (B : Hp) (d : Addr) (kxs : List (Str × List V)) (H : Hp) : Prop where
  ex : Ex B H
  at_ : ∃ kvs : List (Key × V), H d = some (.dK kvs) ∧ kvs.length ≤ kxs.length ∧ ∀ kx ∈ kxs, ∃ p, valV kvs (Sum.inr kx.1) = some (.ref p) ∧ B p = none ∧ H p = some (.tup kx.2)
theorem FilT.mono {d : Addr} {kxs : List (Str × List V)} (F : FilT B d kxs H1) (e : Ex H1 H2) : FilT B d kxs H2 := by
  obtain ⟨kvs, h1, h2, h3⟩ := F.at_
  exact ⟨F.ex.trans e, kvs, e _ _ h1, h2, fun kx hk => by
    obtain ⟨p, h4, h5, h6⟩ := h3 kx hk
    exact ⟨p, h4, h5, e _ _ h6⟩⟩
theorem FilT.named {d : Addr} {kxs : List (Str × List V)} (F : FilT B d kxs H1) : ∃ k, k = kxs ∧ FilT B d k H1 := ⟨kxs, rfl, F⟩
theorem FilT.put {d p : Addr} {kxs : List (Str × List V)} (F : FilT B d kxs H) (hd : B d = none) (hp : B p = none) (hx : H p = some (.tup xs)) (hz : kxs.length < 1000) (z : Str) (hn : (kxs.map (·.1)).contains z = false) :
    ∃ H3, DPut H d (.str z) (.ref p) H3 ∧ FilT B d ((z, xs) :: kxs) H3 ∧ ∀ b o, b ≠ d → H b = some o → H3 b = some o := by
  obtain ⟨kvs, h1, h2, h3⟩ := F.at_
  have ne : ∀ {q : Addr} {ys : List V}, H q = some (.tup ys) → q ≠ d := fun h => ne_of h h1 (by intro z; cases z)
  refine ⟨_, DPut.k (k := Sum.inr z) h1 (sz_lt (by omega)), ⟨Ex.mut F.ex hd, putK kvs (Sum.inr z) (.ref p), upd_same, ?_, ?_⟩, fun b o hb h => by rw [upd_ne hb]; exact h⟩
  · have := putK_le kvs (Sum.inr z) (.ref p)
    rw [List.length_cons]; omega
  · intro kx hk
    rw [valV_put]
    rcases List.mem_cons.mp hk with rfl | hk
    · refine ⟨p, if_pos rfl, hp, ?_⟩
      rw [upd_ne (ne hx)]; exact hx
    · have : kx.1 ≠ z := fun q => by
        have : z ∈ kxs.map (·.1) := by rw [← q]; exact List.mem_map_of_mem hk
        rw [List.contains_iff_mem.mpr this] at hn
        cases hn
      obtain ⟨p2, h4, h5, h6⟩ := h3 kx hk
      refine ⟨p2, ?_, h5, ?_⟩
      · rw [if_neg (fun q => this (Sum.inr.inj q))]; exact h4
      · rw [upd_ne (ne h6)]; exact h6
theorem merge_at : ∀ {kvs : List (Key × V)} {kxs : List (Str × List V)} {acc : List (Key × V)} {k : Key} {P : Str × List V → V → Prop}, Paired (fun kv kx => kv.1 = Sum.inr kx.1 ∧ P kx kv.2) kvs kxs → (kxs.map fun kx => (Sum.inr kx.1 : Key)).Nodup →
    ((∀ kx ∈ kxs, ∃ v, valV (mergeK acc kvs) (Sum.inr kx.1) = some v ∧ P kx v) ∧ ((∀ kx ∈ kxs, k ≠ Sum.inr kx.1) → valV (mergeK acc kvs) k = valV acc k))
  | _, _, acc, k, P, .nil, _ => ⟨fun _ h => absurd h List.not_mem_nil, fun _ => rfl⟩
  | _, _, acc, k, P, .cons (a := kv) (b := kx) (l₁ := kvs) (l₂ := kxs) a r, nd => by
    have nd' := List.nodup_cons.mp nd
    have ih := fun k2 => merge_at (acc := putK acc kv.1 kv.2) (k := k2) r nd'.2
    have e : mergeK acc (kv :: kvs) = mergeK (putK acc kv.1 kv.2) kvs := rfl
    rw [e]
    refine ⟨fun y hy => ?_, fun h => ?_⟩
    · rcases List.mem_cons.mp hy with rfl | hy
      · refine ⟨kv.2, ?_, a.2⟩
        rw [(ih (Sum.inr y.1)).2 (fun z hz q => nd'.1 (List.mem_map.mpr ⟨z, hz, q.symm⟩)), valV_put, if_pos a.1.symm]
      · exact (ih k).1 y hy
    · rw [(ih k).2 (fun z hz => h z (List.mem_cons_of_mem _ hz)), valV_put, if_neg (fun q => h kx (List.mem_cons_self ..) (q.trans a.1))]
theorem bl_setDN {i : Nat} {trs : List (TE × TE)} {kxs : List (Str × List V)} (hB : Ex B H) (h : Paired (fun a b => EvPN B a s H b) trs kxs) (hl : kxs.length ≤ 15) (nd : (kxs.map fun kx => (Sum.inr kx.1 : Key)).Nodup)
    (k : ∀ d H1, B d = none → FilT B d kxs H1 → Bl tz D (s.set i (some (.ref d))) H1) : Bl (tSeq (tAsg (tDisp trs) (gName i)) tz) D s H := fun H1 e p hp => by
  refine pairsN h (upd H1 p (.dK [])) (e.trans (Ex.new hp)) _ fun kvs H2 e2 hr => ?_
  have hB1 := hB.trans e
  refine ⟨e2 p _ upd_same, kvs, rfl, by rw [paired_len hr]; exact hl, ?_⟩
  have e3 : Ex H1 (upd H2 p (.dK (mergeK [] kvs))) := fun a o ha => by
    rw [upd_ne (ne_of_none ha hp)]
    exact e2 a o (by rw [upd_ne (ne_of_none ha hp)]; exact ha)
  refine bl_go (k p _ (fresh_back hB1 hp) ⟨hB1.trans e3, _, upd_same, ?_, fun kx hk => ?_⟩)
  · have := length_mergeK kvs []
    rw [List.length_nil, paired_len hr] at this
    omega
  · obtain ⟨v, h1, q, rfl, h2, h3⟩ := (merge_at (acc := []) (k := Sum.inr kx.1) (P := fun kx v => ∃ p, v = .ref p ∧ B p = none ∧ H2 p = some (.tup kx.2)) hr nd).1 kx hk
    refine ⟨q, h1, h2, ?_⟩
    rw [upd_ne (ne_of h3 (e2 p _ upd_same) (by intro z; cases z))]
    exact h3
/-! ### d[k] = a tuple; several at once -/
theorem bl_tput1 {d : Addr} {kxs : List (Str × List V)} {z : Str} (F : FilT B d kxs H) (h0 : B d = none) (hv : EvN B te s H xs) (hd : Ev td s H (.ref d)) (hk : Ev tb s H (.str z)) (hn : (kxs.map (·.1)).contains z = false) (hz : kxs.length < 1000)
    (kk : ∀ H2, FilT B d ((z, xs) :: kxs) H2 → Bl tz D s H2) : Bl (tSeq (sDPut td tb te) tz) D s H := fun G e =>
  hv G e _ fun p H2 hp e2 hx => hd H2 (e.trans e2) _ fun H3 e3 => hk H3 ((e.trans e2).trans e3) _ fun H4 e4 => by
    obtain ⟨H5, dp, F5, _⟩ := (F.mono (((e.trans e2).trans e3).trans e4)).put h0 hp ((e3.trans e4) _ _ hx) hz z hn
    exact ⟨d, H5, rfl, dp, bl_go (kk H5 F5)⟩
theorem bl_tput2 {i : Nat} {d : Addr} {kxs : List (Str × List V)} {z1 z2 : Str} {x1 x2 : List V} (F : FilT B d kxs H) (h0 : B d = none) (hs : s[i]? = some (some (.ref d))) (hv : EvNs B te s H [x1, x2])
    (n1 : (kxs.map (·.1)).contains z1 = false) (n2 : (((z1, x1) :: kxs).map (·.1)).contains z2 = false) (hz : kxs.length < 900)
    (kk : ∀ H2, FilT B d ((z2, x2) :: (z1, x1) :: kxs) H2 → Bl tz D s H2) :
    Bl (tSeq (tAsg te (gTup K 2 (gCons (gSub (tVar i) (tC (.str z1)) rSetD) (gCons (gSub (tVar i) (tC (.str z2)) rSetD) gNil)))) tz) D s H := fun G e =>
  hv G e _ fun q ps H2 e2 hq hr => by
    have F2 := F.mono (e.trans e2)
    obtain ⟨kvs, hd, _⟩ := F2.at_
    match ps, hr, hq with
    | [p1, p2], .cons a1 (.cons a2 .nil), hq =>
      have nd : ∀ {q : Addr} {ys : List V}, H2 q = some (.tup ys) → q ≠ d := fun h => ne_of h hd (by intro z; cases z)
      obtain ⟨H3, dp3, F3, k3⟩ := F2.put h0 a1.1 a1.2 (by omega) z1 n1
      obtain ⟨H4, dp4, F4, k4⟩ := F3.put h0 a2.1 (k3 _ _ (nd a2.2) a2.2) (by rw [List.length_cons]; omega) z2 n2
      exact ⟨q, _, rfl, st_of hq, rfl, _, _, rfl, _, hs, d, H3, rfl, dp3, _, _, rfl, _, hs, d, H4, rfl, dp4, rfl, bl_go (kk H4 F4)⟩
theorem bl_tput3 {i : Nat} {d : Addr} {kxs : List (Str × List V)} {z1 z2 z3 : Str} {x1 x2 x3 : List V} (F : FilT B d kxs H) (h0 : B d = none) (hs : s[i]? = some (some (.ref d))) (hv : EvNs B te s H [x1, x2, x3])
    (n1 : (kxs.map (·.1)).contains z1 = false) (n2 : (((z1, x1) :: kxs).map (·.1)).contains z2 = false) (n3 : (((z2, x2) :: (z1, x1) :: kxs).map (·.1)).contains z3 = false) (hz : kxs.length < 900)
    (kk : ∀ H2, FilT B d ((z3, x3) :: (z2, x2) :: (z1, x1) :: kxs) H2 → Bl tz D s H2) :
    Bl (tSeq (tAsg te (gTup K 3 (gCons (gSub (tVar i) (tC (.str z1)) rSetD) (gCons (gSub (tVar i) (tC (.str z2)) rSetD) (gCons (gSub (tVar i) (tC (.str z3)) rSetD) gNil))))) tz) D s H := fun G e =>
  hv G e _ fun q ps H2 e2 hq hr => by
    have F2 := F.mono (e.trans e2)
    obtain ⟨kvs, hd, _⟩ := F2.at_
    match ps, hr, hq with
    | [p1, p2, p3], .cons a1 (.cons a2 (.cons a3 .nil)), hq =>
      have nd : ∀ {q : Addr} {ys : List V}, H2 q = some (.tup ys) → q ≠ d := fun h => ne_of h hd (by intro z; cases z)
      obtain ⟨H3, dp3, F3, k3⟩ := F2.put h0 a1.1 a1.2 (by omega) z1 n1
      obtain ⟨H4, dp4, F4, k4⟩ := F3.put h0 a2.1 (k3 _ _ (nd a2.2) a2.2) (by rw [List.length_cons]; omega) z2 n2
      obtain ⟨H5, dp5, F5, k5⟩ := F4.put h0 a3.1 (k4 _ _ (nd a3.2) (k3 _ _ (nd a3.2) a3.2)) (by rw [List.length_cons, List.length_cons]; omega) z3 n3
      exact ⟨q, _, rfl, st_of hq, rfl, _, _, rfl, _, hs, d, H3, rfl, dp3, _, _, rfl, _, hs, d, H4, rfl, dp4, _, _, rfl, _, hs, d, H5, rfl, dp5, rfl, bl_go (kk H5 F5)⟩
/-- {..: tuples}.get(k, a tuple) -/
theorem en_get2 {trs : List (TE × TE)} {kxs : List (Str × List V)} {z : Str} (hB : Ex B H) (h : Paired (fun a b => EvPN B a s H b) trs kxs) (hl : kxs.length ≤ 15) (nd : (kxs.map fun kx => (Sum.inr kx.1 : Key)).Nodup) (hk : Ev ty s H (.str z)) (hx : EvU tx s H ys)
    (hv : (∃ kx ∈ kxs, kx.1 = z ∧ xs = kx.2) ∨ ((∀ kx ∈ kxs, kx.1 ≠ z) ∧ xs = ys)) : EvN B (tDGet2 (tDisp trs) ty tx) s H xs := fun H1 e Q q p hp => by
  refine pairsN h (upd H1 p (.dK [])) (e.trans (Ex.new hp)) _ fun kvs H2 e2 hr => ?_
  refine ⟨e2 p _ upd_same, kvs, rfl, by rw [paired_len hr]; exact hl, ?_⟩
  have hB1 := hB.trans e
  have e3 : Ex H1 (upd H2 p (.dK (mergeK [] kvs))) := fun a o ha => by
    rw [upd_ne (ne_of_none ha hp)]
    exact e2 a o (by rw [upd_ne (ne_of_none ha hp)]; exact ha)
  refine ⟨p, rfl, .inl ⟨_, .inl upd_same⟩, hk _ (e.trans e3) _ fun H3 e4 => hx H3 ((e.trans e3).trans e4) _ fun m H4 hm e5 h4 => ?_⟩
  have hpp : H4 p = some (.dK (mergeK [] kvs)) := e5 _ _ (e4 _ _ upd_same)
  refine ⟨_, DGet.k (k := Sum.inr z) hpp, ?_⟩
  have mm := fun k => merge_at (acc := []) (k := k) (P := fun kx v => ∃ p, v = .ref p ∧ B p = none ∧ H2 p = some (.tup kx.2)) hr nd
  rcases hv with ⟨kx, hkx, rfl, rfl⟩ | ⟨hno, rfl⟩
  · obtain ⟨v, h1, a, rfl, h2, h3⟩ := (mm (Sum.inr kx.1)).1 kx hkx
    rw [h1]
    refine q a H4 h2 ((e3.trans e4).trans e5) (e5 _ _ (e4 _ _ ?_))
    rw [upd_ne (ne_of h3 (e2 p _ upd_same) (by intro z; cases z))]
    exact h3
  · rw [(mm (Sum.inr z)).2 (fun kx hkx q => hno kx hkx (Sum.inr.inj q).symm)]
    exact q m H4 (fresh_back (((hB1.trans e3).trans e4)) hm) ((e3.trans e4).trans e5) h4
/-- return d[k] -/
theorem bl_retN {d : Addr} {kxs : List (Str × List V)} {z : Str} (F : FilT B d kxs H) (hd : Ev td s H (.ref d)) (hk : Ev tb s H (.str z)) (hv : (z, xs) ∈ kxs) (k : RetU xs B D.rt) : Bl (tRet (tDGet td tb)) D s H := fun G e =>
  hd G e _ fun H2 e2 => hk H2 (e.trans e2) _ fun H3 e3 => by
    obtain ⟨kvs, h1, _, h3⟩ := (F.mono ((e.trans e2).trans e3)).at_
    obtain ⟨p, h4, h5, h6⟩ := h3 _ hv
    exact ⟨d, .ref p, rfl, by rw [← h4]; exact DGet.k (k := Sum.inr z) h1, k p H3 h5 (((F.ex.trans e).trans e2).trans e3) h6⟩
theorem ens_if2 {b : Bool} {x1 x2 y1 y2 : List V} (h : EvT t s H b) (h1 : EvNs B te s H [x1, x2]) (h2 : EvNs B tu s H [y1, y2]) : EvNs B (tIf t te tu) s H [if b = true then x1 else y1, if b = true then x2 else y2] := fun H1 e Q q =>
  h H1 e _ fun H2 e2 => by
    cases b with
    | true => exact h1 H2 (e.trans e2) _ fun p ps H3 e3 hx hr => q p ps H3 (e2.trans e3) hx hr
    | false => exact h2 H2 (e.trans e2) _ fun p ps H3 e3 hx hr => q p ps H3 (e2.trans e3) hx hr
theorem dpn_cons {t1 t2 : TE} {z : Str} {trs : List (TE × TE)} {kxs : List (Str × List V)} (h1 : Ev t1 s H (.str z)) (h2 : EvN B t2 s H xs) (r : Paired (fun a b => EvPN B a s H b) trs kxs) : Paired (fun a b => EvPN B a s H b) ((t1, t2) :: trs) ((z, xs) :: kxs) := .cons ⟨h1, h2⟩ r
theorem bl_retNE {d : Addr} {kxs : List (Str × List V)} {z : Str} (F : FilT B d kxs H) (hd : Ev td s H (.ref d)) (hk : Ev tb s H (.str z)) (hv : (z, xs) ∈ kxs) (e : xs = ys) (k : RetU ys B D.rt) : Bl (tRet (tDGet td tb)) D s H :=
  bl_retN F hd hk hv (by rw [e]; exact k)
end
end WB

set_option maxHeartbeats 4000000
/-! Numbers that break a rule: small facts of the told ones. -/
namespace WM
theorem lfac_bd {w : Nat} (h2 : 2 ≤ w) (h64 : w ≤ 64) : 1 ≤ lfac w ∧ (lfac w : Int) ≤ 18446744073709551615 := by
  cases hm : WP.mers w with
  | true =>
    rw [lfac_mers hm]
    have h1 : (2 : Nat) ^ 2 ≤ 2 ^ w := Nat.pow_le_pow_right (by decide) h2
    have h3 : (2 : Nat) ^ w ≤ 2 ^ 64 := Nat.pow_le_pow_right (by decide) h64
    have e4 : (2 : Nat) ^ 2 = 4 := rfl
    have e64 : (2 : Nat) ^ 64 = 18446744073709551616 := rfl
    omega
  | false =>
    obtain ⟨a, b, c, _⟩ := lfac_comp h2 h64 hm
    omega
theorem canc_zero {f : Fmt} (h : f.ov = .wrap) : ∃ x y, cexN f .zeroP = [x, y] ∧ cexN f .canc = [x, 0, y] := by
  obtain ⟨w, sg, ov, dv, h4, h64⟩ := f
  cases h
  cases sg
  · exact ⟨_, _, rfl, rfl⟩
  · exact ⟨_, _, rfl, rfl⟩
  · exact ⟨_, _, rfl, rfl⟩
theorem fdiv2 (w : Nat) : (w : Int).fdiv 2 = ((w / 2 : Nat) : Int) := by
  rw [Int.fdiv_eq_ediv_of_nonneg _ (by decide)]; rfl
theorem fdiv2s (w : Nat) : ((w : Int) + 1).fdiv 2 = (((w + 1) / 2 : Nat) : Int) := by
  rw [Int.fdiv_eq_ediv_of_nonneg _ (by decide)]; rfl
theorem shl_n {n : Nat} : (1 : Int) * 2 ^ ((n : Int)).toNat = p2 n := by
  rw [Int.one_mul, Int.toNat_natCast]; rfl
theorem par_w (w : Nat) : ((w : Int).fmod 2 = 0) ↔ w % 2 = 0 := by
  rw [Int.fmod_eq_emod_of_nonneg _ (by decide)]
  omega
end WM

set_option maxHeartbeats 4000000
namespace K1
open PySem PySem.Spec PyProof.Rows L2 Evl WM WL WLam WX WT WU StX LamX
theorem rv_isN {s : L2.St} {H : Hp} {x : V} : RV (fun x y H Q => y = .non ∧ Q (.bl (decide (x = .non))) H) x .non H (.bl (decide (x = .non))) := fun H1 _ _ q => ⟨rfl, q H1 (Ex.refl H1)⟩
theorem kitAny_no {K : PySem.W.Frag} {n : String} (h1 : kitB n "tuple" = some false) (h2 : kitB n "list" = some false) : PySem.W.kitAny K (.type n) [.type "tuple", .type "list"] = some false :=
  kitAny_cons (b := false) (kit_ty h1) (fun _ => kitAny_cons (b := false) (kit_ty h2) (fun _ => kitAny_nil) (fun z => by cases z)) (fun z => by cases z)
def nm_CHECKS : Rl → Str
  | .sumG => "sum_grouping_rules"
  | .prodG => "product_grouping_rules"
  | .dist => "distribution_rules"
  | .dneg => "double_negation_rules"
  | .diff => "difference_rules"
  | .addB => "add_back_rules"
  | .divi => "division_rules"
  | .remR => "remainder_range_rules"
  | .negQ => "negated_quotient_rules"
  | .shift => "shift_rules"
  | .absV => "absolute_value_rules"
  | .ordD => "order_by_difference_rules"
  | .monoS => "monotone_sum_rules"
  | .aver => "average_rules"
  | .squa => "square_rules"
  | .zeroP => "zero_product_rules"
  | .canc => "cancellation_rules"
def nm_CONDITIONS : Rl → Str
  | .sumG => "sum_grouping_conditions"
  | .prodG => "product_grouping_conditions"
  | .dist => "distribution_conditions"
  | .dneg => "_negatives"
  | .diff => "_negatives"
  | .addB => "add_back_conditions"
  | .divi => "division_conditions"
  | .remR => "remainder_range_conditions"
  | .negQ => "negated_quotient_conditions"
  | .shift => "shift_conditions"
  | .absV => "absolute_value_conditions"
  | .ordD => "order_by_difference_conditions"
  | .monoS => "monotone_sum_conditions"
  | .aver => "average_conditions"
  | .squa => "square_conditions"
  | .zeroP => "zero_product_conditions"
  | .canc => "cancellation_conditions"
def nm_BREACHES : Rl → Str
  | .sumG => "sum_grouping_breaches"
  | .prodG => "product_grouping_breaches"
  | .dist => "distribution_breaches"
  | .dneg => "double_negation_breaches"
  | .diff => "difference_breaches"
  | .addB => "_lowest_and_one"
  | .divi => "division_breaches"
  | .remR => "remainder_range_breaches"
  | .negQ => "negated_quotient_breaches"
  | .shift => "shift_breaches"
  | .absV => "absolute_value_breaches"
  | .ordD => "_lowest_and_one"
  | .monoS => "monotone_sum_breaches"
  | .aver => "_lowest_and_one"
  | .squa => "square_breaches"
  | .zeroP => "zero_product_breaches"
  | .canc => "cancellation_breaches"
structure Txt (w : World) (K : PySem.W.Frag) (mg : Str → Option Value) : Prop where
  n_isinstance : mg "isinstance" = none
  n_int : mg "int" = none
  n_bool : mg "bool" = none
  n_tuple : mg "tuple" = none
  n_str : mg "str" = none
  n_list : mg "list" = none
  n_len : mg "len" = none
  n_abs : mg "abs" = none
  n_min : mg "min" = none
  n_max : mg "max" = none
  n_range : mg "range" = none
  n_sorted : mg "sorted" = none
  g_LEAST_WIDTH : ∃ t, mg "LEAST_WIDTH" = some (.int 4 t)
  g_GREATEST_WIDTH : ∃ t, mg "GREATEST_WIDTH" = some (.int 64 t)
  g_LEAST_EXPONENT : ∃ t, mg "LEAST_EXPONENT" = some (.int 2 t)
  g_GREATEST_EXPONENT : ∃ t, mg "GREATEST_EXPONENT" = some (.int 64 t)
  g_TRAP : ∃ t, mg "TRAP" = some (.str "trap" t)
  g_SIGNS : mg "SIGNS" = some (.ref (He.ga K "SIGNS"))
  t_SIGNS : ∀ H, SqT K H (He.ga K "SIGNS") [.str "symmetric", .str "twos", .str "unsigned"]
  g_OVERFLOWS : mg "OVERFLOWS" = some (.ref (He.ga K "OVERFLOWS"))
  t_OVERFLOWS : ∀ H, SqT K H (He.ga K "OVERFLOWS") [.str "saturate", .str "trap", .str "wrap"]
  g_DIVISIONS : mg "DIVISIONS" = some (.ref (He.ga K "DIVISIONS"))
  t_DIVISIONS : ∀ H, SqT K H (He.ga K "DIVISIONS") [.str "ceiling", .str "euclid", .str "even", .str "floor", .str "zero"]
  g_ARITIES : mg "ARITIES" = some (.ref (He.ga K "ARITIES"))
  k_ARITIES : KDE K w (He.ga K "ARITIES")
  q_ARITIES : ∃ es n, KDict K w (He.ga K "ARITIES") es n ∧ es.toList.map He.keyOf = He.keysIn w.params tk_ARITIES
  v_ARITIES : ∀ r : Rl, KDct K w (He.ga K "ARITIES") (rlS r) (V.int r.ar)
  g_CHECKS : mg "CHECKS" = some (.ref (He.ga K "CHECKS"))
  k_CHECKS : KDE K w (He.ga K "CHECKS")
  v_CHECKS : ∀ r : Rl, KDct K w (He.ga K "CHECKS") (rlS r) (.ref (He.ga K (nm_CHECKS r)))
  g_CONDITIONS : mg "CONDITIONS" = some (.ref (He.ga K "CONDITIONS"))
  k_CONDITIONS : KDE K w (He.ga K "CONDITIONS")
  v_CONDITIONS : ∀ r : Rl, KDct K w (He.ga K "CONDITIONS") (rlS r) (.ref (He.ga K (nm_CONDITIONS r)))
  g_BREACHES : mg "BREACHES" = some (.ref (He.ga K "BREACHES"))
  k_BREACHES : KDE K w (He.ga K "BREACHES")
  v_BREACHES : ∀ r : Rl, KDct K w (He.ga K "BREACHES") (rlS r) (.ref (He.ga K (nm_BREACHES r)))
local macro_rules | `(tactic| walk_at "ev") => `(tactic| first
  | exact ev_c
  | exact ev_var rfl
  | ((with_reducible apply ev_op); (walk_at "ev"); (walk_at "ev"); (walk_at "rv"))
  | ((with_reducible apply ev_un); (walk_at "ev"); exact ru_neg)
  | ((with_reducible apply ev_notV); (walk_at "ev"))
  | ((with_reducible apply ev_andV); (walk_at "ev"); (intro _; walk_at "ev"))
  | ((with_reducible apply ev_orV); (walk_at "ev"); (intro _; walk_at "ev"))
  | ((with_reducible apply ev_ifT); (walk_at "et"); (exact rfl); (walk_at "ev"))
  | ((with_reducible apply ev_ifF); (walk_at "et"); (exact rfl); (walk_at "ev"))
  | ((with_reducible apply ev_ifB); (walk_at "et"); (intro _; walk_at "ev"); (intro _; walk_at "ev"))
  | ((with_reducible apply ev_chainI); (walk_at "ev"); (walk_at "ev"); (walk_at "ev"))
  | ((with_reducible apply ev_own); (walk_at "ea"); (intro _ _; walk_at "own"))
  | ((with_reducible apply ev_ddS); (walk_at "dp"); (exact Nat.le_of_ble_eq_true rfl); (walk_at "ev"); (exact rfl))
  | ((with_reducible apply ev_isiT); (walk_at "ev"); (walk_at "ea"); (walk_at "isiT"))
  | ((with_reducible apply ev_cb); (walk_at "ea"); (walk_at "rc")))
local macro_rules | `(tactic| walk_at "dp") => `(tactic| first
  | exact Paired.nil
  | ((with_reducible apply dp_cons); (exact ev_c); (walk_at "ev"); (walk_at "dp")))
local macro_rules | `(tactic| walk_at "ea") => `(tactic| first
  | exact ea_nil
  | ((with_reducible apply ea_cons); (walk_at "ev"); (walk_at "ea")))
local macro_rules | `(tactic| walk_at "et") => `(tactic| first
  | ((with_reducible apply et_test); (walk_at "ev"))
  | ((with_reducible apply et_B); (walk_at "ev"))
  | ((with_reducible apply et_not); (walk_at "et"))
  | ((with_reducible apply et_and); (walk_at "et"); (intro _; walk_at "et"))
  | ((with_reducible apply et_or); (walk_at "et"); (intro _; walk_at "et")))
local macro_rules | `(tactic| walk_at "rv") => `(tactic| first
  | exact rv_I0
  | exact rv_eq rfl
  | exact rv_ne rfl
  | exact rv_isT (by assumption) rfl rfl
  | exact rv_niT (by assumption) rfl rfl
  | exact rv_isL (by assumption) rfl rfl
  | exact rv_niL (by assumption) rfl rfl
  | exact rv_ixT (by assumption) rfl
  | exact rv_ixL (by assumption) rfl
  | exact rv_ixL (by assumption) (by assumption)
  | (apply rv_I; (walk_at "side")))
local macro_rules | `(tactic| walk_at "side") => `(tactic| first
  | assumption
  | (refine And.intro ?_ (And.intro ?_ ?_) <;> (try dsimp only) <;> first | omega | decide)
  | (dsimp only; omega)
  | omega)
local macro_rules | `(tactic| walk_at "rc") => `(tactic| first
  | exact rc_abs | exact rc_max2 | exact rc_min2 | exact rc_int | exact rc_intB
  | exact rc_isi_int (b := true) (by decide +kernel)
  | exact rc_isi_int (b := false) (by decide +kernel)
  | exact rc_isi_bl (b := true) (by decide +kernel)
  | exact rc_isi_bl (b := false) (by decide +kernel)
  | exact rc_isi_str (b := true) (by decide +kernel)
  | exact rc_isi_str (b := false) (by decide +kernel)
  | exact rc_isi_T (b := true) (by assumption) (by decide +kernel)
  | exact rc_isi_T (b := false) (by assumption) (by decide +kernel)
  | exact rc_lenT (by assumption)
  | exact rc_lenL (by assumption))
local macro_rules | `(tactic| walk_at "set") => `(tactic| ((with_reducible apply bl_set); (walk_at "ev")))
local macro_rules | `(tactic| walk_at "drop") => `(tactic| ((with_reducible apply bl_drop); (walk_at "ev")))
local macro_rules | `(tactic| walk_at "par") => `(tactic| ((with_reducible apply bl_par); (walk_at "ea")))
local macro_rules | `(tactic| walk_at "if") => `(tactic| ((with_reducible apply bl_when); (walk_at "et")))
local macro_rules | `(tactic| walk_at "no") => `(tactic| ((with_reducible apply bl_when); (walk_at "et"); (intro h; exact absurd (show false = true from h) (by decide)); (intro _)))
local macro_rules | `(tactic| walk_at "yes") => `(tactic| ((with_reducible apply bl_when); (walk_at "et"); rotate_left; (intro h; exact absurd (show true = false from h) (by decide)); (intro _)))
local macro_rules | `(tactic| walk_at "ret") => `(tactic| ((with_reducible apply bl_retE); rotate_left; assumption; rotate_right; (walk_at "ev")))
local macro_rules | `(tactic| walk_at "absurd") => `(tactic| first | exact absurd (show false = true from (by assumption)) (by decide) | exact absurd (show true = false from (by assumption)) (by decide))
local macro_rules | `(tactic| walk_at "rv") => `(tactic| first | exact rv_isN (s := []) | exact rv_notKD (by assumption) | exact rv_inKD (by assumption) | exact rv_ixKD (by assumption))
local macro_rules | `(tactic| walk_at "isiT") => `(tactic| ((exact Nat.le_of_ble_eq_true rfl); (exact .cons (.ty _) (.cons (.ty _) .nil)); (first | exact fun _ _ => .base (.int _) | exact fun _ _ => .base (.bl _) | exact fun _ _ => .base (.str _) | exact fun _ _ => .base .non); (exact kitAny_no (by decide +kernel) (by decide +kernel))))
local macro_rules | `(tactic| walk_at "rc") => `(tactic| first | exact rc_isi_non (b := true) (by decide +kernel) | exact rc_isi_non (b := false) (by decide +kernel))
local macro_rules | `(tactic| walk_at "eu") => `(tactic| first
  | ((with_reducible apply eu_own); (walk_at "ea"); (intro _ _; walk_at "own"))
  | ((with_reducible apply eu_tup); (walk_at "ea"); (exact Nat.le_of_ble_eq_true rfl)))
local macro_rules | `(tactic| walk_at "ev") => `(tactic| ((with_reducible apply ev_own1U); (walk_at "eu"); (walk_at "ea"); (intro _ _ _ _; walk_at "own1")))
local macro_rules | `(tactic| walk_at "isr") => `(tactic| first | with_reducible exact isr_r | with_reducible exact isr_i | ((with_reducible apply isr_if) <;> (walk_at "isr")))
local macro_rules | `(tactic| walk_at "osm") => `(tactic| first | with_reducible assumption | with_reducible exact osm_add | with_reducible exact osm_sub | with_reducible exact osm_mul | with_reducible exact osm_dvo | with_reducible exact osm_neg | with_reducible exact osm_rem | with_reducible exact osm_do | with_reducible exact osm_div | with_reducible exact osm_fit | ((with_reducible apply osm); assumption) | ((with_reducible apply osm); exact (show (0 : Int).natAbs < 2 ^ 70 by decide)) | ((with_reducible apply osm); exact (show (2 : Int).natAbs < 2 ^ 70 by decide)) | ((with_reducible apply osm_if) <;> (walk_at "osm")))
local macro_rules | `(tactic| walk_at "ev") => `(tactic| first
  | ((with_reducible apply ev_inLst); (walk_at "ev"); (walk_at "ea"); (exact Nat.le_of_ble_eq_true rfl); (exact rfl); (first | exact rfl | simp [flatV])))
local macro_rules | `(tactic| walk_at "rv") => `(tactic| first | exact rv_eq scal_rv | exact rv_ne scal_rv | exact rv_eq (scal_rv (y := some _)) | exact rv_ne (scal_rv (y := some _)) | exact rv_eq (scal_rv (y := none)) | exact rv_ne (scal_rv (y := none)))
local macro_rules | `(tactic| walk_at "nz") => `(tactic| first | with_reducible assumption | ((with_reducible apply nz_i); (first | assumption | decide)))
local macro_rules | `(tactic| walk_at "ev") => `(tactic| ((with_reducible apply ev_inU); (walk_at "ev"); (walk_at "eu"); (exact rfl); (exact rfl)))
local macro_rules | `(tactic| walk_at "eu") => `(tactic| ((with_reducible apply WB.eu_ifB); (walk_at "et"); (walk_at "eu"); (walk_at "eu")))
section
variable {P : Program} {w : World} {K : PySem.W.Frag} {mg : Str → Option Value} {base : Heap}
def R_is_whole (K : PySem.W.Frag) : List V → Hp → V → Prop := fun vs H v => ∃ (u : V) (b : Bool), vs = [u] ∧ (Wh K H u b) ∧ v = .bl b
theorem r_is_whole {K : PySem.W.Frag} {H : Hp} {u : V} {b : Bool} (h0 : Wh K H u b) : R_is_whole K [u] H (.bl b) := ⟨_, _, rfl, h0, rfl⟩
def R_are_choices (K : PySem.W.Frag) : List V → Hp → V → Prop := fun vs H v => ∃ (sg : Sg) (ov : Ov) (dv : Dv), vs = [.str (sgS sg), .str (ovS ov), .str (dvS dv)] ∧ v = .bl true
theorem r_are_choices {K : PySem.W.Frag} {H : Hp} {sg : Sg} {ov : Ov} {dv : Dv}  : R_are_choices K [.str (sgS sg), .str (ovS ov), .str (dvS dv)] H (.bl true) := ⟨_, _, _, rfl, rfl⟩
def R_is_format (K : PySem.W.Frag) : List V → Hp → V → Prop := fun vs H v => ∃ (p : Addr) (f : Fmt), vs = [.ref p] ∧ (SqT K H p (fV f)) ∧ v = .bl true
theorem r_is_format {K : PySem.W.Frag} {H : Hp} {p : Addr} {f : Fmt} (h0 : SqT K H p (fV f)) : R_is_format K [.ref p] H (.bl true) := ⟨_, _, rfl, h0, rfl⟩
def R_check_format (K : PySem.W.Frag) : List V → Hp → V → Prop := fun vs H v => ∃ (p : Addr) (f : Fmt), vs = [.ref p] ∧ (SqT K H p (fV f)) ∧ v = V.non
theorem r_check_format {K : PySem.W.Frag} {H : Hp} {p : Addr} {f : Fmt} (h0 : SqT K H p (fV f)) : R_check_format K [.ref p] H (V.non) := ⟨_, _, rfl, h0, rfl⟩
def R_ends (K : PySem.W.Frag) : List V → Hp → List V → Prop := fun vs H xs => ∃ (p : Addr) (f : Fmt), vs = [.ref p] ∧ (SqT K H p (fV f)) ∧ xs = [V.int (lo f), V.int (hi f)]
theorem r_ends {K : PySem.W.Frag} {H : Hp} {p : Addr} {f : Fmt} (h0 : SqT K H p (fV f)) : R_ends K [.ref p] H ([V.int (lo f), V.int (hi f)]) := ⟨_, _, rfl, h0, rfl⟩
def R_lowest (K : PySem.W.Frag) : List V → Hp → V → Prop := fun vs H v => ∃ (p : Addr) (f : Fmt), vs = [.ref p] ∧ (SqT K H p (fV f)) ∧ v = .int (lo f)
theorem r_lowest {K : PySem.W.Frag} {H : Hp} {p : Addr} {f : Fmt} (h0 : SqT K H p (fV f)) : R_lowest K [.ref p] H (.int (lo f)) := ⟨_, _, rfl, h0, rfl⟩
def R_highest (K : PySem.W.Frag) : List V → Hp → V → Prop := fun vs H v => ∃ (p : Addr) (f : Fmt), vs = [.ref p] ∧ (SqT K H p (fV f)) ∧ v = .int (hi f)
theorem r_highest {K : PySem.W.Frag} {H : Hp} {p : Addr} {f : Fmt} (h0 : SqT K H p (fV f)) : R_highest K [.ref p] H (.int (hi f)) := ⟨_, _, rfl, h0, rfl⟩
def R_terms_of (K : PySem.W.Frag) : List V → Hp → List V → Prop := fun vs H xs => ∃ (p : Addr) (f : Fmt), vs = [.ref p] ∧ (SqT K H p (fV f)) ∧ xs = tV f
theorem r_terms_of {K : PySem.W.Frag} {H : Hp} {p : Addr} {f : Fmt} (h0 : SqT K H p (fV f)) : R_terms_of K [.ref p] H (tV f) := ⟨_, _, rfl, h0, rfl⟩
def R_fitted (K : PySem.W.Frag) : List V → Hp → V → Prop := fun vs H v => ∃ (q : Addr) (f : Fmt) (e : Int), vs = [.ref q, .int e] ∧ (SqT K H q (tV f)) ∧ v = rv (fitR f e)
theorem r_fitted {K : PySem.W.Frag} {H : Hp} {q : Addr} {f : Fmt} {e : Int} (h0 : SqT K H q (tV f)) : R_fitted K [.ref q, .int e] H (rv (fitR f e)) := ⟨_, _, _, rfl, h0, rfl⟩
def R__quotient_to_zero (K : PySem.W.Frag) : List V → Hp → V → Prop := fun vs H v => ∃ (a : Int) (b : Int), vs = [.int a, .int b] ∧ (b ≠ 0) ∧ (Sm a) ∧ (Sm b) ∧ v = .int (quo .zero a b)
theorem r__quotient_to_zero {K : PySem.W.Frag} {H : Hp} {a : Int} {b : Int} (h0 : b ≠ 0) (h1 : Sm a) (h2 : Sm b) : R__quotient_to_zero K [.int a, .int b] H (.int (quo .zero a b)) := ⟨_, _, rfl, h0, h1, h2, rfl⟩
def R__quotient_to_even (K : PySem.W.Frag) : List V → Hp → V → Prop := fun vs H v => ∃ (a : Int) (b : Int), vs = [.int a, .int b] ∧ (b ≠ 0) ∧ (Sm a) ∧ (Sm b) ∧ v = .int (quo .even a b)
theorem r__quotient_to_even {K : PySem.W.Frag} {H : Hp} {a : Int} {b : Int} (h0 : b ≠ 0) (h1 : Sm a) (h2 : Sm b) : R__quotient_to_even K [.int a, .int b] H (.int (quo .even a b)) := ⟨_, _, rfl, h0, h1, h2, rfl⟩
def R__quotient_of_euclid (K : PySem.W.Frag) : List V → Hp → V → Prop := fun vs H v => ∃ (a : Int) (b : Int), vs = [.int a, .int b] ∧ (b ≠ 0) ∧ (Sm a) ∧ (Sm b) ∧ v = .int (quo .euc a b)
theorem r__quotient_of_euclid {K : PySem.W.Frag} {H : Hp} {a : Int} {b : Int} (h0 : b ≠ 0) (h1 : Sm a) (h2 : Sm b) : R__quotient_of_euclid K [.int a, .int b] H (.int (quo .euc a b)) := ⟨_, _, rfl, h0, h1, h2, rfl⟩
def R__exact_quotient (K : PySem.W.Frag) : List V → Hp → V → Prop := fun vs H v => ∃ (d : Dv) (a : Int) (b : Int), vs = [.str (dvS d), .int a, .int b] ∧ (b ≠ 0) ∧ (Sm a) ∧ (Sm b) ∧ v = .int (quo d a b)
theorem r__exact_quotient {K : PySem.W.Frag} {H : Hp} {d : Dv} {a : Int} {b : Int} (h0 : b ≠ 0) (h1 : Sm a) (h2 : Sm b) : R__exact_quotient K [.str (dvS d), .int a, .int b] H (.int (quo d a b)) := ⟨_, _, _, rfl, h0, h1, h2, rfl⟩
def R_plus (K : PySem.W.Frag) : List V → Hp → V → Prop := fun vs H v => ∃ (q : Addr) (f : Fmt) (x : Option Int) (y : Option Int), vs = [.ref q, rv x, rv y] ∧ (SqT K H q (tV f)) ∧ v = rv (addO f x y)
theorem r_plus {K : PySem.W.Frag} {H : Hp} {q : Addr} {f : Fmt} {x : Option Int} {y : Option Int} (h0 : SqT K H q (tV f)) : R_plus K [.ref q, rv x, rv y] H (rv (addO f x y)) := ⟨_, _, _, _, rfl, h0, rfl⟩
theorem r_plus_G {K : PySem.W.Frag} {H : Hp} {q : Addr} {f : Fmt} {va vb : V} {x y : Option Int} (h : SqT K H q (tV f)) (ea : IsR va x) (eb : IsR vb y)  : R_plus K [.ref q, va, vb] H (rv (addO f x y)) := ⟨q, f, x, y, by rw [ea, eb], h,  rfl⟩
def R_minus (K : PySem.W.Frag) : List V → Hp → V → Prop := fun vs H v => ∃ (q : Addr) (f : Fmt) (x : Option Int) (y : Option Int), vs = [.ref q, rv x, rv y] ∧ (SqT K H q (tV f)) ∧ v = rv (subO f x y)
theorem r_minus {K : PySem.W.Frag} {H : Hp} {q : Addr} {f : Fmt} {x : Option Int} {y : Option Int} (h0 : SqT K H q (tV f)) : R_minus K [.ref q, rv x, rv y] H (rv (subO f x y)) := ⟨_, _, _, _, rfl, h0, rfl⟩
theorem r_minus_G {K : PySem.W.Frag} {H : Hp} {q : Addr} {f : Fmt} {va vb : V} {x y : Option Int} (h : SqT K H q (tV f)) (ea : IsR va x) (eb : IsR vb y)  : R_minus K [.ref q, va, vb] H (rv (subO f x y)) := ⟨q, f, x, y, by rw [ea, eb], h,  rfl⟩
def R_times (K : PySem.W.Frag) : List V → Hp → V → Prop := fun vs H v => ∃ (q : Addr) (f : Fmt) (x : Option Int) (y : Option Int), vs = [.ref q, rv x, rv y] ∧ (SqT K H q (tV f)) ∧ (OSm x) ∧ (OSm y) ∧ v = rv (mulO f x y)
theorem r_times {K : PySem.W.Frag} {H : Hp} {q : Addr} {f : Fmt} {x : Option Int} {y : Option Int} (h0 : SqT K H q (tV f)) (h1 : OSm x) (h2 : OSm y) : R_times K [.ref q, rv x, rv y] H (rv (mulO f x y)) := ⟨_, _, _, _, rfl, h0, h1, h2, rfl⟩
theorem r_times_G {K : PySem.W.Frag} {H : Hp} {q : Addr} {f : Fmt} {va vb : V} {x y : Option Int} (h : SqT K H q (tV f)) (ea : IsR va x) (eb : IsR vb y) (h0 : OSm x) (h1 : OSm y) : R_times K [.ref q, va, vb] H (rv (mulO f x y)) := ⟨q, f, x, y, by rw [ea, eb], h, h0, h1, rfl⟩
def R_quotient (K : PySem.W.Frag) : List V → Hp → V → Prop := fun vs H v => ∃ (q : Addr) (f : Fmt) (x : Option Int) (y : Option Int), vs = [.ref q, rv x, rv y] ∧ (SqT K H q (tV f)) ∧ (OSm x) ∧ (OSm y) ∧ (NZ y) ∧ v = rv (divO f x y)
theorem r_quotient {K : PySem.W.Frag} {H : Hp} {q : Addr} {f : Fmt} {x : Option Int} {y : Option Int} (h0 : SqT K H q (tV f)) (h1 : OSm x) (h2 : OSm y) (h3 : NZ y) : R_quotient K [.ref q, rv x, rv y] H (rv (divO f x y)) := ⟨_, _, _, _, rfl, h0, h1, h2, h3, rfl⟩
theorem r_quotient_G {K : PySem.W.Frag} {H : Hp} {q : Addr} {f : Fmt} {va vb : V} {x y : Option Int} (h : SqT K H q (tV f)) (ea : IsR va x) (eb : IsR vb y) (h0 : OSm x) (h1 : OSm y) (h2 : NZ y) : R_quotient K [.ref q, va, vb] H (rv (divO f x y)) := ⟨q, f, x, y, by rw [ea, eb], h, h0, h1, h2, rfl⟩
def R_opposite (K : PySem.W.Frag) : List V → Hp → V → Prop := fun vs H v => ∃ (q : Addr) (f : Fmt) (x : Option Int), vs = [.ref q, rv x] ∧ (SqT K H q (tV f)) ∧ v = rv (negO f x)
theorem r_opposite {K : PySem.W.Frag} {H : Hp} {q : Addr} {f : Fmt} {x : Option Int} (h0 : SqT K H q (tV f)) : R_opposite K [.ref q, rv x] H (rv (negO f x)) := ⟨_, _, _, rfl, h0, rfl⟩
theorem r_opposite_G {K : PySem.W.Frag} {H : Hp} {q : Addr} {f : Fmt} {va : V} {x : Option Int} (h : SqT K H q (tV f)) (ea : IsR va x) : R_opposite K [.ref q, va] H (rv (negO f x)) := ⟨q, f, x, by rw [ea], h, rfl⟩
def R_rest (K : PySem.W.Frag) : List V → Hp → V → Prop := fun vs H v => ∃ (q : Addr) (f : Fmt) (a : Int) (b : Int), vs = [.ref q, .int a, .int b] ∧ (SqT K H q (tV f)) ∧ (Sm a) ∧ (Sm b) ∧ (b ≠ 0) ∧ v = rv (remO f a b)
theorem r_rest {K : PySem.W.Frag} {H : Hp} {q : Addr} {f : Fmt} {a : Int} {b : Int} (h0 : SqT K H q (tV f)) (h1 : Sm a) (h2 : Sm b) (h3 : b ≠ 0) : R_rest K [.ref q, .int a, .int b] H (rv (remO f a b)) := ⟨_, _, _, _, rfl, h0, h1, h2, h3, rfl⟩
local macro_rules | `(tactic| walk_at "own") => `(tactic| first
  | exact r_is_whole (by first | assumption | exact .int _ | exact Wh.ex (by assumption) (by assumption))
  | exact r_are_choices 
  | exact r_is_format (ex_t (by assumption) (by assumption))
  | exact r_check_format (ex_t (by assumption) (by assumption))
  | exact r_ends (ex_t (by assumption) (by assumption))
  | exact r_lowest (ex_t (by assumption) (by assumption))
  | exact r_highest (ex_t (by assumption) (by assumption))
  | exact r_terms_of (ex_t (by assumption) (by assumption))
  | exact r_fitted (ex_t (by assumption) (by assumption))
  | exact r__quotient_to_zero (by assumption) (by assumption) (by assumption)
  | exact r__quotient_to_even (by assumption) (by assumption) (by assumption)
  | exact r__quotient_of_euclid (by assumption) (by assumption) (by assumption)
  | exact r__exact_quotient (by assumption) (by assumption) (by assumption)
  | ((with_reducible apply r_plus_G); (exact (ex_t (by assumption) (by assumption))); (walk_at "isr"); (walk_at "isr"))
  | ((with_reducible apply r_minus_G); (exact (ex_t (by assumption) (by assumption))); (walk_at "isr"); (walk_at "isr"))
  | ((with_reducible apply r_times_G); (exact (ex_t (by assumption) (by assumption))); (walk_at "isr"); (walk_at "isr"); (walk_at "osm"); (walk_at "osm"))
  | ((with_reducible apply r_quotient_G); (exact (ex_t (by assumption) (by assumption))); (walk_at "isr"); (walk_at "isr"); (walk_at "osm"); (walk_at "osm"); (walk_at "nz"))
  | ((with_reducible apply r_opposite_G); (exact (ex_t (by assumption) (by assumption))); (walk_at "isr"))
  | exact r_rest (ex_t (by assumption) (by assumption)) (by assumption) (by assumption) (by assumption))
local macro_rules | `(tactic| walk_at "own1") => `(tactic| first
  | ((with_reducible apply r_plus_G); (exact st_of (by assumption)); (walk_at "isr"); (walk_at "isr"))
  | ((with_reducible apply r_minus_G); (exact st_of (by assumption)); (walk_at "isr"); (walk_at "isr"))
  | ((with_reducible apply r_times_G); (exact st_of (by assumption)); (walk_at "isr"); (walk_at "isr"); (walk_at "osm"); (walk_at "osm"))
  | ((with_reducible apply r_quotient_G); (exact st_of (by assumption)); (walk_at "isr"); (walk_at "isr"); (walk_at "osm"); (walk_at "osm"); (walk_at "nz"))
  | ((with_reducible apply r_opposite_G); (exact st_of (by assumption)); (walk_at "isr"))
  | ((with_reducible apply r_rest); (exact st_of (by assumption)); assumption; assumption; assumption)
  | ((with_reducible apply r_fitted); (exact st_of (by assumption))))
abbrev s_is_whole : Stmt := top 7
abbrev N_is_whole : List Str := ["value"]
theorem sc_is_whole : FnScope N_is_whole ["value"] (defScope s_is_whole) := ⟨rfl, rfl, rfl, by decide +kernel, rfl, by decide +kernel, by decide +kernel⟩
theorem ok_is_whole (T : Txt w K mg) (D0 : DefAt K mg "is_whole" s_is_whole)   : Cal P w K mg base CX0 1 "is_whole" ["value"] (Pu (R_is_whole K)) := by
  refine D0.cal sc_is_whole (fun vs H Q E h => by obtain ⟨v, ⟨_, _, rfl, _⟩, _⟩ := h; rfl) (fun _ _ _ _ _ _ us hl => match us, hl with | [_], _ => rfl) (fun f cdv A outer s H vs Q E hr h => ?_)
  obtain ⟨v, ⟨u, b, rfl, hw, rfl⟩, k⟩ := h
  have hu := hu_of hr
  refine ⟨_, (pss_one (ps_ret (pe_and (pe_callB call_isi (by rfl) T.n_isinstance (by decide +kernel) (pa_cons (pv 0) (pa_cons (pe_bltn (v := .ty "int") (by rfl) T.n_int (by decide +kernel) rfl) pa_nil))) (pe_one (pe_not (pe_callB call_isi (by rfl) T.n_isinstance (by decide +kernel) (pa_cons (pv 0) (pa_cons (pe_bltn (v := .ty "bool") (by rfl) T.n_bool (by decide +kernel) rfl) pa_nil)))))))), bl_go ?_⟩
  cases hw <;> (walk_at "ret") <;> rfl
abbrev s_are_choices : Stmt := top 15
abbrev N_are_choices : List Str := ["signs", "overflow", "division"]
theorem sc_are_choices : FnScope N_are_choices ["signs", "overflow", "division"] (defScope s_are_choices) := ⟨rfl, rfl, rfl, by decide +kernel, rfl, by decide +kernel, by decide +kernel⟩
theorem ok_are_choices (T : Txt w K mg) (D0 : DefAt K mg "are_choices" s_are_choices)   : Cal P w K mg base CX0 1 "are_choices" ["signs", "overflow", "division"] (Pu (R_are_choices K)) := by
  refine D0.cal sc_are_choices (fun vs H Q E h => by obtain ⟨v, ⟨_, _, _, rfl, _⟩, _⟩ := h; rfl) (fun _ _ _ _ _ _ us hl => match us, hl with | [_, _, _], _ => rfl) (fun f cdv A outer s H vs Q E hr h => ?_)
  obtain ⟨v, ⟨sg, ov, dv, rfl, rfl⟩, k⟩ := h
  have hu := hu_of hr
  refine ⟨_, (pss_one (ps_ret (pe_and (pe_cmpR op_in_seq (pv 0) (pe_glob (v := .ref _) rfl T.g_SIGNS rfl) (by rfl)) (pe_and (pe_cmpR op_in_seq (pv 1) (pe_glob (v := .ref _) rfl T.g_OVERFLOWS rfl) (by rfl)) (pe_one (pe_cmpR op_in_seq (pv 2) (pe_glob (v := .ref _) rfl T.g_DIVISIONS rfl) (by rfl))))))), bl_go ?_⟩
  have t1 := T.t_SIGNS H
  have t2 := T.t_OVERFLOWS H
  have t3 := T.t_DIVISIONS H
  walk_at "ret"
  rw [in_sg, in_ov, in_dv]
  rfl
abbrev s_is_format : Stmt := top 14
abbrev N_is_format : List Str := ["value", "width", "signs", "overflow", "division"]
theorem sc_is_format : FnScope N_is_format ["value"] (defScope s_is_format) := ⟨rfl, rfl, rfl, by decide +kernel, rfl, by decide +kernel, by decide +kernel⟩
theorem ok_is_format (T : Txt w K mg) (D0 : DefAt K mg "is_format" s_is_format) (c_are_choices : Cal P w K mg base CX0 1 "are_choices" ["signs", "overflow", "division"] (Pu (R_are_choices K))) (c_is_whole : Cal P w K mg base CX0 1 "is_whole" ["value"] (Pu (R_is_whole K)))  : Cal P w K mg base CX0 2 "is_format" ["value"] (Pu (R_is_format K)) := by
  refine D0.cal sc_is_format (fun vs H Q E h => by obtain ⟨v, ⟨_, _, rfl, _⟩, _⟩ := h; rfl) (fun _ _ _ _ _ _ us hl => match us, hl with | [_], _ => rfl) (fun f cdv A outer s H vs Q E hr h => ?_)
  obtain ⟨v, ⟨p, ⟨w0, sg, ov, dv, h4, h64⟩, rfl, hf, rfl⟩, k⟩ := h
  have hu := hu_of hr
  refine ⟨_, (pss_cons (ps_if (PW.pt (pw_or (pt_not (pt_val (pe_callB call_isi (by rfl) T.n_isinstance (by decide +kernel) (pa_cons (pv 0) (pa_cons (pe_bltn (v := .ty "tuple") (by rfl) T.n_tuple (by decide +kernel) rfl) pa_nil))))) (pw_or1 (pt_cmpR op_ne (pe_callB call_len_seq (by rfl) T.n_len (by decide +kernel) (pa_cons (pv 0) pa_nil)) pe_int (nomark _))))) (pss_one (ps_ret pe_bl)) pss_nil)
      (pss_cons (ps_asg (pv 0) (pg_tup (by rfl) (pgs_cons (pg_name (i := 1) sc_is_format.nd rfl (Or.inl rfl)) (pgs_cons (pg_name (i := 2) sc_is_format.nd rfl (Or.inl rfl)) (pgs_cons (pg_name (i := 3) sc_is_format.nd rfl (Or.inl rfl)) (pgs_cons (pg_name (i := 4) sc_is_format.nd rfl (Or.inl rfl)) pgs_nil))))))
      (pss_cons (ps_if (PW.pt (pw_or (pt_not (pt_val (pe_own c_is_whole (hr.mono (by decide)) rfl pass0 (pa_cons (pv 1) pa_nil)))) (pw_or1 (pt_not (pt_chain op_le op_le (pe_globI rfl T.g_LEAST_WIDTH) (pv 1) (pe_globI rfl T.g_GREATEST_WIDTH)))))) (pss_one (ps_ret pe_bl)) pss_nil)
      (pss_one (ps_ret (pe_own c_are_choices (hr.mono (by decide)) rfl pass0 (pa_cons (pv 2) (pa_cons (pv 3) (pa_cons (pv 4) pa_nil))))))))), bl_go ?_⟩
  walk_at "no"
  apply bl_unp4 (hx := hf)
  · walk_at "ev"
  · rfl
  walk_at "if"
  · intro h
    simp only [Bool.or_eq_true, Bool.not_eq_true', Bool.and_eq_false_iff, decide_eq_false_iff_not, Bool.true_eq_false, false_or] at h
    omega
  · intro _
    walk_at "ret"
    rfl
abbrev s_check_format : Stmt := top 16
abbrev N_check_format : List Str := ["form"]
theorem sc_check_format : FnScope N_check_format ["form"] (defScope s_check_format) := ⟨rfl, rfl, rfl, by decide +kernel, rfl, by decide +kernel, by decide +kernel⟩
theorem ok_check_format (T : Txt w K mg) (D0 : DefAt K mg "check_format" s_check_format) (c_is_format : Cal P w K mg base CX0 2 "is_format" ["value"] (Pu (R_is_format K)))  : Cal P w K mg base CX0 3 "check_format" ["form"] (Pu (R_check_format K)) := by
  refine D0.cal sc_check_format (fun vs H Q E h => by obtain ⟨v, ⟨_, _, rfl, _⟩, _⟩ := h; rfl) (fun _ _ _ _ _ _ us hl => match us, hl with | [_], _ => rfl) (fun f cdv A outer s H vs Q E hr h => ?_)
  obtain ⟨v, ⟨p, f, rfl, hf, rfl⟩, k⟩ := h
  have hu := hu_of hr
  refine ⟨_, (pss_one (ps_if (pt_not (pt_val (pe_own c_is_format (hr.mono (by decide)) rfl pass0 (pa_cons (pv 0) pa_nil)))) (pss_one ps_never) pss_nil)), bl_go ?_⟩
  (with_reducible apply bl_ifLast); (walk_at "et")
  · intro h
    walk_at "absurd"
  · intro _ H1 e1
    exact k H1 e1
abbrev s_ends : Stmt := top 17
abbrev N_ends : List Str := ["form", "width", "signs", "half"]
theorem sc_ends : FnScope N_ends ["form"] (defScope s_ends) := ⟨rfl, rfl, rfl, by decide +kernel, rfl, by decide +kernel, by decide +kernel⟩
theorem ok_ends (T : Txt w K mg) (D0 : DefAt K mg "ends" s_ends)   : Cal P w K mg base CX0 1 "ends" ["form"] (PuT (R_ends K)) := by
  refine D0.cal sc_ends (fun vs H Q E h => by obtain ⟨xs, ⟨_, _, rfl, _⟩, _⟩ := h; rfl) (fun _ _ _ _ _ _ us hl => match us, hl with | [_], _ => rfl) (fun f cdv A outer s H vs Q E hr h => ?_)
  obtain ⟨v, ⟨p, ⟨w0, sg, ov, dv, h4, h64⟩, rfl, hf, rfl⟩, k⟩ := h
  have hu := hu_of hr
  refine ⟨_, (pss_cons (ps_set (i := 1) sc_ends.nd rfl (Or.inl rfl) (pe_ix ix_tup (pv 0) pe_int (fun _ _ => rfl)))
      (pss_cons (ps_set (i := 2) sc_ends.nd rfl (Or.inl rfl) (pe_ix ix_tup (pv 0) pe_int (fun _ _ => rfl)))
      (pss_cons (ps_if (pt_cmpR op_eq (pv 2) pe_str (nomark _)) (pss_one (ps_ret (pe_tup (pa_cons pe_int (pa_cons (pe_op op_sub (pe_op op_shl pe_int (pv 1)) pe_int) pa_nil))))) pss_nil)
      (pss_cons (ps_set (i := 3) sc_ends.nd rfl (Or.inl rfl) (pe_op op_shl pe_int (pe_op op_sub (pv 1) pe_int)))
      (pss_one (ps_ret (pe_tup (pa_cons (pe_ifExp (pt_cmpR op_eq (pv 2) pe_str (nomark _)) (pe_un un_neg (pv 3)) (pe_op op_sub pe_int (pv 3))) (pa_cons (pe_op op_sub (pv 3) pe_int) pa_nil))))))))), bl_go ?_⟩
  walk_at "set"
  walk_at "set"
  cases sg
  · walk_at "no"
    walk_at "set"
    refine bl_retUE (by walk_at "eu") k ?_
    rw [shl_w1]
    simp only [WM.lo, WM.hi, bnd]
    first | done | (congr 2; omega) | (congr 1; congr 1; omega)
  · walk_at "no"
    walk_at "set"
    refine bl_retUE (by walk_at "eu") k ?_
    rw [shl_w1]
    rfl
  · walk_at "yes"
    refine bl_retUE (by walk_at "eu") k ?_
    rw [shl_w]
    rfl
abbrev s_lowest : Stmt := top 18
abbrev N_lowest : List Str := ["form", "low", "_"]
theorem sc_lowest : FnScope N_lowest ["form"] (defScope s_lowest) := ⟨rfl, rfl, rfl, by decide +kernel, rfl, by decide +kernel, by decide +kernel⟩
theorem ok_lowest (T : Txt w K mg) (D0 : DefAt K mg "lowest" s_lowest) (c_check_format : Cal P w K mg base CX0 3 "check_format" ["form"] (Pu (R_check_format K))) (c_ends : Cal P w K mg base CX0 1 "ends" ["form"] (PuT (R_ends K)))  : Cal P w K mg base CX0 4 "lowest" ["form"] (Pu (R_lowest K)) := by
  refine D0.cal sc_lowest (fun vs H Q E h => by obtain ⟨v, ⟨_, _, rfl, _⟩, _⟩ := h; rfl) (fun _ _ _ _ _ _ us hl => match us, hl with | [_], _ => rfl) (fun f cdv A outer s H vs Q E hr h => ?_)
  obtain ⟨v, ⟨p, f, rfl, hf, rfl⟩, k⟩ := h
  have hu := hu_of hr
  refine ⟨_, (pss_cons (ps_expr (pe_own c_check_format (hr.mono (by decide)) rfl pass0 (pa_cons (pv 0) pa_nil)))
      (pss_cons (ps_asg (pe_own c_ends (hr.mono (by decide)) rfl pass0 (pa_cons (pv 0) pa_nil)) (pg_tup (by rfl) (pgs_cons (pg_name (i := 1) sc_lowest.nd rfl (Or.inl rfl)) (pgs_cons (pg_name (i := 2) sc_lowest.nd rfl (Or.inl rfl)) pgs_nil))))
      (pss_one (ps_ret (pv 1))))), bl_go ?_⟩
  walk_at "drop"
  refine bl_unp2U (a := V.int (lo f)) (b := V.int (hi f)) (by walk_at "eu") rfl (fun H1 e1 => ?_)
  refine bl_retE (by walk_at "ev") (fun H2 e2 => k H2 (e1.trans e2)) rfl
abbrev s_highest : Stmt := top 19
abbrev N_highest : List Str := ["form", "_", "high"]
theorem sc_highest : FnScope N_highest ["form"] (defScope s_highest) := ⟨rfl, rfl, rfl, by decide +kernel, rfl, by decide +kernel, by decide +kernel⟩
theorem ok_highest (T : Txt w K mg) (D0 : DefAt K mg "highest" s_highest) (c_check_format : Cal P w K mg base CX0 3 "check_format" ["form"] (Pu (R_check_format K))) (c_ends : Cal P w K mg base CX0 1 "ends" ["form"] (PuT (R_ends K)))  : Cal P w K mg base CX0 4 "highest" ["form"] (Pu (R_highest K)) := by
  refine D0.cal sc_highest (fun vs H Q E h => by obtain ⟨v, ⟨_, _, rfl, _⟩, _⟩ := h; rfl) (fun _ _ _ _ _ _ us hl => match us, hl with | [_], _ => rfl) (fun f cdv A outer s H vs Q E hr h => ?_)
  obtain ⟨v, ⟨p, f, rfl, hf, rfl⟩, k⟩ := h
  have hu := hu_of hr
  refine ⟨_, (pss_cons (ps_expr (pe_own c_check_format (hr.mono (by decide)) rfl pass0 (pa_cons (pv 0) pa_nil)))
      (pss_cons (ps_asg (pe_own c_ends (hr.mono (by decide)) rfl pass0 (pa_cons (pv 0) pa_nil)) (pg_tup (by rfl) (pgs_cons (pg_name (i := 1) sc_highest.nd rfl (Or.inl rfl)) (pgs_cons (pg_name (i := 2) sc_highest.nd rfl (Or.inl rfl)) pgs_nil))))
      (pss_one (ps_ret (pv 2))))), bl_go ?_⟩
  walk_at "drop"
  refine bl_unp2U (a := V.int (lo f)) (b := V.int (hi f)) (by walk_at "eu") rfl (fun H1 e1 => ?_)
  refine bl_retE (by walk_at "ev") (fun H2 e2 => k H2 (e1.trans e2)) rfl
abbrev s_terms_of : Stmt := top 98
abbrev N_terms_of : List Str := ["form", "low", "high"]
theorem sc_terms_of : FnScope N_terms_of ["form"] (defScope s_terms_of) := ⟨rfl, rfl, rfl, by decide +kernel, rfl, by decide +kernel, by decide +kernel⟩
theorem ok_terms_of (T : Txt w K mg) (D0 : DefAt K mg "terms_of" s_terms_of) (c_ends : Cal P w K mg base CX0 1 "ends" ["form"] (PuT (R_ends K)))  : Cal P w K mg base CX0 2 "terms_of" ["form"] (PuT (R_terms_of K)) := by
  refine D0.cal sc_terms_of (fun vs H Q E h => by obtain ⟨xs, ⟨_, _, rfl, _⟩, _⟩ := h; rfl) (fun _ _ _ _ _ _ us hl => match us, hl with | [_], _ => rfl) (fun f cdv A outer s H vs Q E hr h => ?_)
  obtain ⟨v, ⟨p, f, rfl, hf, rfl⟩, k⟩ := h
  have hu := hu_of hr
  refine ⟨_, (pss_cons (ps_asg (pe_own c_ends (hr.mono (by decide)) rfl pass0 (pa_cons (pv 0) pa_nil)) (pg_tup (by rfl) (pgs_cons (pg_name (i := 1) sc_terms_of.nd rfl (Or.inl rfl)) (pgs_cons (pg_name (i := 2) sc_terms_of.nd rfl (Or.inl rfl)) pgs_nil))))
      (pss_one (ps_ret (pe_tup (pa_cons (pv 1) (pa_cons (pv 2) (pa_cons (pe_ix ix_tup (pv 0) pe_int (fun _ _ => rfl)) (pa_cons (pe_ix ix_tup (pv 0) pe_int (fun _ _ => rfl)) pa_nil)))))))), bl_go ?_⟩
  refine bl_unp2U (a := V.int (lo f)) (b := V.int (hi f)) (by walk_at "eu") rfl (fun H1 e1 => ?_)
  have hf1 : SqT K H1 p (fV f) := ex_t e1 hf
  refine bl_retUE (by walk_at "eu") (fun p1 H2 hp e2 hx => k p1 H2 (fresh_back e1 hp) (e1.trans e2) hx) ?_
  rfl
abbrev s_fitted : Stmt := top 99
abbrev N_fitted : List Str := ["terms", "exact", "low", "high", "overflow", "_"]
theorem sc_fitted : FnScope N_fitted ["terms", "exact"] (defScope s_fitted) := ⟨rfl, rfl, rfl, by decide +kernel, rfl, by decide +kernel, by decide +kernel⟩
theorem ok_fitted (T : Txt w K mg) (D0 : DefAt K mg "fitted" s_fitted)   : Cal P w K mg base CX0 1 "fitted" ["terms", "exact"] (Pu (R_fitted K)) := by
  refine D0.cal sc_fitted (fun vs H Q E h => by obtain ⟨v, ⟨_, _, _, rfl, _⟩, _⟩ := h; rfl) (fun _ _ _ _ _ _ us hl => match us, hl with | [_, _], _ => rfl) (fun f cdv A outer s H vs Q E hr h => ?_)
  obtain ⟨v, ⟨q, f, e, rfl, hq, rfl⟩, k⟩ := h
  have hu := hu_of hr
  refine ⟨_, (pss_cons (ps_asg (pv 0) (pg_tup (by rfl) (pgs_cons (pg_name (i := 2) sc_fitted.nd rfl (Or.inl rfl)) (pgs_cons (pg_name (i := 3) sc_fitted.nd rfl (Or.inl rfl)) (pgs_cons (pg_name (i := 4) sc_fitted.nd rfl (Or.inl rfl)) (pgs_cons (pg_name (i := 5) sc_fitted.nd rfl (Or.inl rfl)) pgs_nil))))))
      (pss_cons (ps_if (pt_chain op_le op_le (pv 2) (pv 1) (pv 3)) (pss_one (ps_ret (pv 1))) pss_nil)
      (pss_cons (ps_if (pt_cmpR op_eq (pv 4) pe_str (nomark _)) (pss_one (ps_ret (pe_op op_add (pv 2) (pe_op op_modN (pe_op op_sub (pv 1) (pv 2)) (pe_op op_add (pe_op op_sub (pv 3) (pv 2)) pe_int))))) pss_nil)
      (pss_cons (ps_if (pt_cmpR op_eq (pv 4) pe_str (nomark _)) (pss_one (ps_ret (pe_ifExp (pt_cmpR op_lt (pv 1) (pv 2) (nomark _)) (pv 2) (pv 3)))) pss_nil)
      (pss_one (ps_ret (pe_globS rfl T.g_TRAP))))))), bl_go ?_⟩
  have mn : many f ≠ 0 := manyNe
  apply bl_unp4 (hx := hq)
  · walk_at "ev"
  · rfl
  walk_at "if"
  · intro h
    walk_at "ret"
    exact fit_yes h
  intro h
  have nf := not_fits h
  obtain ⟨w0, sg, ov, dv, h4, h64⟩ := f
  cases ov
  · walk_at "no"
    walk_at "yes"
    walk_at "ret"
    exact fit_sat nf rfl
  · walk_at "no"
    walk_at "no"
    walk_at "ret"
    exact fit_trap nf rfl
  · walk_at "yes"
    walk_at "ret"
    exact fit_wrap nf rfl
abbrev s__quotient_to_zero : Stmt := top 107
abbrev N__quotient_to_zero : List Str := ["a", "b", "size"]
theorem sc__quotient_to_zero : FnScope N__quotient_to_zero ["a", "b"] (defScope s__quotient_to_zero) := ⟨rfl, rfl, rfl, by decide +kernel, rfl, by decide +kernel, by decide +kernel⟩
theorem ok__quotient_to_zero (T : Txt w K mg) (D0 : DefAt K mg "_quotient_to_zero" s__quotient_to_zero)   : Cal P w K mg base CX0 1 "_quotient_to_zero" ["a", "b"] (Pu (R__quotient_to_zero K)) := by
  refine D0.cal sc__quotient_to_zero (fun vs H Q E h => by obtain ⟨v, ⟨_, _, rfl, _⟩, _⟩ := h; rfl) (fun _ _ _ _ _ _ us hl => match us, hl with | [_, _], _ => rfl) (fun f cdv A outer s H vs Q E hr h => ?_)
  obtain ⟨v, ⟨a, b, rfl, h1, h2, h3, rfl⟩, k⟩ := h
  have hu := hu_of hr
  refine ⟨_, (pss_cons (ps_set (i := 2) sc__quotient_to_zero.nd rfl (Or.inl rfl) (pe_op op_fdivB (pe_callB call_abs (by rfl) T.n_abs (by decide +kernel) (pa_cons (pv 0) pa_nil)) (pe_callB call_abs (by rfl) T.n_abs (by decide +kernel) (pa_cons (pv 1) pa_nil))))
      (pss_one (ps_ret (pe_ifExp (pt_cmpR op_eq (pe_cmpR op_lt (pv 0) pe_int (nomark _)) (pe_cmpR op_lt (pv 1) pe_int (nomark _)) (nomark _)) (pv 2) (pe_un un_neg (pv 2)))))), bl_go ?_⟩
  have d1 : CDivB (a.natAbs : Int) (b.natAbs : Int) := sm_div (sm_abs h3) (by omega)
  walk_at "set"
  walk_at "ret"
  exact v_zero
abbrev s__quotient_to_even : Stmt := top 108
abbrev N__quotient_to_even : List Str := ["a", "b", "below", "doubled", "size"]
theorem sc__quotient_to_even : FnScope N__quotient_to_even ["a", "b"] (defScope s__quotient_to_even) := ⟨rfl, rfl, rfl, by decide +kernel, rfl, by decide +kernel, by decide +kernel⟩
theorem ok__quotient_to_even (T : Txt w K mg) (D0 : DefAt K mg "_quotient_to_even" s__quotient_to_even)   : Cal P w K mg base CX0 1 "_quotient_to_even" ["a", "b"] (Pu (R__quotient_to_even K)) := by
  refine D0.cal sc__quotient_to_even (fun vs H Q E h => by obtain ⟨v, ⟨_, _, rfl, _⟩, _⟩ := h; rfl) (fun _ _ _ _ _ _ us hl => match us, hl with | [_, _], _ => rfl) (fun f cdv A outer s H vs Q E hr h => ?_)
  obtain ⟨v, ⟨a, b, rfl, h1, h2, h3, rfl⟩, k⟩ := h
  have hu := hu_of hr
  refine ⟨_, (pss_cons (ps_set (i := 2) sc__quotient_to_even.nd rfl (Or.inl rfl) (pe_op op_fdivB (pv 0) (pv 1)))
      (pss_cons (ps_set (i := 3) sc__quotient_to_even.nd rfl (Or.inl rfl) (pe_op op_mulW pe_int (pe_callB call_abs (by rfl) T.n_abs (by decide +kernel) (pa_cons (pe_op op_sub (pv 0) (pe_op op_mulW (pv 1) (pv 2))) pa_nil))))
      (pss_cons (ps_set (i := 4) sc__quotient_to_even.nd rfl (Or.inl rfl) (pe_callB call_abs (by rfl) T.n_abs (by decide +kernel) (pa_cons (pv 1) pa_nil)))
      (pss_cons (ps_if (PW.pt (pw_or (pt_cmpR op_gt (pv 3) (pv 4) (nomark _)) (pw_or1 (PW.pt (pw_and (pt_cmpR op_eq (pv 3) (pv 4) (nomark _)) (pw_and1 (pt_cmpR op_eq (pe_op op_modN (pv 2) pe_int) pe_int (nomark _)))))))) (pss_one (ps_ret (pe_op op_add (pv 2) pe_int))) pss_nil)
      (pss_one (ps_ret (pv 2))))))), bl_go ?_⟩
  have d1 : CDivB a b := sm_div h3 h1
  have m1 : CMulW b (a.fdiv b) := sm_mul h3 (sm_fdiv h2)
  have m2 : CMulW 2 ((a - b * a.fdiv b).natAbs : Int) := bg_mul (show (2 : Int).natAbs < 2 ^ 250 by decide) (bg_abs (bg_left h2 h3 (nat_mono (sm_fdiv h2) (by decide))))
  walk_at "set"
  walk_at "set"
  walk_at "set"
  walk_at "if"
  · intro h
    walk_at "ret"
    exact even_up h
  · intro h
    walk_at "ret"
    exact even_no h
abbrev s__quotient_of_euclid : Stmt := top 109
abbrev N__quotient_of_euclid : List Str := ["a", "b"]
theorem sc__quotient_of_euclid : FnScope N__quotient_of_euclid ["a", "b"] (defScope s__quotient_of_euclid) := ⟨rfl, rfl, rfl, by decide +kernel, rfl, by decide +kernel, by decide +kernel⟩
theorem ok__quotient_of_euclid (T : Txt w K mg) (D0 : DefAt K mg "_quotient_of_euclid" s__quotient_of_euclid)   : Cal P w K mg base CX0 1 "_quotient_of_euclid" ["a", "b"] (Pu (R__quotient_of_euclid K)) := by
  refine D0.cal sc__quotient_of_euclid (fun vs H Q E h => by obtain ⟨v, ⟨_, _, rfl, _⟩, _⟩ := h; rfl) (fun _ _ _ _ _ _ us hl => match us, hl with | [_, _], _ => rfl) (fun f cdv A outer s H vs Q E hr h => ?_)
  obtain ⟨v, ⟨a, b, rfl, h1, h2, h3, rfl⟩, k⟩ := h
  have hu := hu_of hr
  refine ⟨_, (pss_one (ps_ret (pe_ifExp (pt_cmpR op_gt (pv 1) pe_int (nomark _)) (pe_op op_fdivB (pv 0) (pv 1)) (pe_un un_neg (pe_op op_fdivB (pv 0) (pe_un un_neg (pv 1))))))), bl_go ?_⟩
  have d1 : CDivB a b := sm_div h3 h1
  have d2 : CDivB a (-b) := sm_div (sm_neg h3) (by omega)
  walk_at "ret"
  exact v_euc
abbrev s__exact_quotient : Stmt := top 106
abbrev N__exact_quotient : List Str := ["division", "a", "b"]
theorem sc__exact_quotient : FnScope N__exact_quotient ["division", "a", "b"] (defScope s__exact_quotient) := ⟨rfl, rfl, rfl, by decide +kernel, rfl, by decide +kernel, by decide +kernel⟩
theorem ok__exact_quotient (T : Txt w K mg) (D0 : DefAt K mg "_exact_quotient" s__exact_quotient) (c__quotient_of_euclid : Cal P w K mg base CX0 1 "_quotient_of_euclid" ["a", "b"] (Pu (R__quotient_of_euclid K))) (c__quotient_to_even : Cal P w K mg base CX0 1 "_quotient_to_even" ["a", "b"] (Pu (R__quotient_to_even K))) (c__quotient_to_zero : Cal P w K mg base CX0 1 "_quotient_to_zero" ["a", "b"] (Pu (R__quotient_to_zero K)))  : Cal P w K mg base CX0 2 "_exact_quotient" ["division", "a", "b"] (Pu (R__exact_quotient K)) := by
  refine D0.cal sc__exact_quotient (fun vs H Q E h => by obtain ⟨v, ⟨_, _, _, rfl, _⟩, _⟩ := h; rfl) (fun _ _ _ _ _ _ us hl => match us, hl with | [_, _, _], _ => rfl) (fun f cdv A outer s H vs Q E hr h => ?_)
  obtain ⟨v, ⟨d, a, b, rfl, h1, h2, h3, rfl⟩, k⟩ := h
  have hu := hu_of hr
  refine ⟨_, (pss_cons (ps_if (pt_cmpR op_eq (pv 0) pe_str (nomark _)) (pss_one (ps_ret (pe_op op_fdivB (pv 1) (pv 2)))) pss_nil)
      (pss_cons (ps_if (pt_cmpR op_eq (pv 0) pe_str (nomark _)) (pss_one (ps_ret (pe_un un_neg (pe_op op_fdivB (pe_un un_neg (pv 1)) (pv 2))))) pss_nil)
      (pss_cons (ps_if (pt_cmpR op_eq (pv 0) pe_str (nomark _)) (pss_one (ps_ret (pe_own c__quotient_to_zero (hr.mono (by decide)) rfl pass0 (pa_cons (pv 1) (pa_cons (pv 2) pa_nil))))) pss_nil)
      (pss_cons (ps_if (pt_cmpR op_eq (pv 0) pe_str (nomark _)) (pss_one (ps_ret (pe_own c__quotient_to_even (hr.mono (by decide)) rfl pass0 (pa_cons (pv 1) (pa_cons (pv 2) pa_nil))))) pss_nil)
      (pss_one (ps_ret (pe_own c__quotient_of_euclid (hr.mono (by decide)) rfl pass0 (pa_cons (pv 1) (pa_cons (pv 2) pa_nil))))))))), bl_go ?_⟩
  have d1 : CDivB a b := sm_div h3 h1
  have d2 : CDivB (-a) b := sm_div h3 h1
  cases d
  · walk_at "no"
    walk_at "yes"
    walk_at "ret"
    rfl
  · walk_at "no"
    walk_at "no"
    walk_at "no"
    walk_at "no"
    walk_at "ret"
    rfl
  · walk_at "no"
    walk_at "no"
    walk_at "no"
    walk_at "yes"
    walk_at "ret"
    rfl
  · walk_at "yes"
    walk_at "ret"
    rfl
  · walk_at "no"
    walk_at "no"
    walk_at "yes"
    walk_at "ret"
    rfl
abbrev s_plus : Stmt := top 100
abbrev N_plus : List Str := ["terms", "a", "b"]
theorem sc_plus : FnScope N_plus ["terms", "a", "b"] (defScope s_plus) := ⟨rfl, rfl, rfl, by decide +kernel, rfl, by decide +kernel, by decide +kernel⟩
theorem ok_plus (T : Txt w K mg) (D0 : DefAt K mg "plus" s_plus) (c_fitted : Cal P w K mg base CX0 1 "fitted" ["terms", "exact"] (Pu (R_fitted K)))  : Cal P w K mg base CX0 2 "plus" ["terms", "a", "b"] (Pu (R_plus K)) := by
  refine D0.cal sc_plus (fun vs H Q E h => by obtain ⟨v, ⟨_, _, _, _, rfl, _⟩, _⟩ := h; rfl) (fun _ _ _ _ _ _ us hl => match us, hl with | [_, _, _], _ => rfl) (fun f cdv A outer s H vs Q E hr h => ?_)
  obtain ⟨v, ⟨q, f, x, y, rfl, hq, rfl⟩, k⟩ := h
  have hu := hu_of hr
  refine ⟨_, (pss_cons (ps_if (PW.pt (pw_or (pt_cmpR op_eq (pv 1) (pe_globS rfl T.g_TRAP) (nomark _)) (pw_or1 (pt_cmpR op_eq (pv 2) (pe_globS rfl T.g_TRAP) (nomark _))))) (pss_one (ps_ret (pe_globS rfl T.g_TRAP))) pss_nil)
      (pss_one (ps_ret (pe_own c_fitted (hr.mono (by decide)) rfl pass0 (pa_cons (pv 0) (pa_cons (pe_op op_add (pv 1) (pv 2)) pa_nil)))))), bl_go ?_⟩
  cases x with
  | none => cases y <;> (walk_at "yes") <;> (walk_at "ret") <;> rfl
  | some a =>
    cases y with
    | none =>
      walk_at "yes"
      walk_at "ret"
      rfl
    | some b =>
      walk_at "no"
      walk_at "ret"
      rfl
abbrev s_minus : Stmt := top 101
abbrev N_minus : List Str := ["terms", "a", "b"]
theorem sc_minus : FnScope N_minus ["terms", "a", "b"] (defScope s_minus) := ⟨rfl, rfl, rfl, by decide +kernel, rfl, by decide +kernel, by decide +kernel⟩
theorem ok_minus (T : Txt w K mg) (D0 : DefAt K mg "minus" s_minus) (c_fitted : Cal P w K mg base CX0 1 "fitted" ["terms", "exact"] (Pu (R_fitted K)))  : Cal P w K mg base CX0 2 "minus" ["terms", "a", "b"] (Pu (R_minus K)) := by
  refine D0.cal sc_minus (fun vs H Q E h => by obtain ⟨v, ⟨_, _, _, _, rfl, _⟩, _⟩ := h; rfl) (fun _ _ _ _ _ _ us hl => match us, hl with | [_, _, _], _ => rfl) (fun f cdv A outer s H vs Q E hr h => ?_)
  obtain ⟨v, ⟨q, f, x, y, rfl, hq, rfl⟩, k⟩ := h
  have hu := hu_of hr
  refine ⟨_, (pss_cons (ps_if (PW.pt (pw_or (pt_cmpR op_eq (pv 1) (pe_globS rfl T.g_TRAP) (nomark _)) (pw_or1 (pt_cmpR op_eq (pv 2) (pe_globS rfl T.g_TRAP) (nomark _))))) (pss_one (ps_ret (pe_globS rfl T.g_TRAP))) pss_nil)
      (pss_one (ps_ret (pe_own c_fitted (hr.mono (by decide)) rfl pass0 (pa_cons (pv 0) (pa_cons (pe_op op_sub (pv 1) (pv 2)) pa_nil)))))), bl_go ?_⟩
  cases x with
  | none => cases y <;> (walk_at "yes") <;> (walk_at "ret") <;> rfl
  | some a =>
    cases y with
    | none =>
      walk_at "yes"
      walk_at "ret"
      rfl
    | some b =>
      walk_at "no"
      walk_at "ret"
      rfl
abbrev s_times : Stmt := top 102
abbrev N_times : List Str := ["terms", "a", "b"]
theorem sc_times : FnScope N_times ["terms", "a", "b"] (defScope s_times) := ⟨rfl, rfl, rfl, by decide +kernel, rfl, by decide +kernel, by decide +kernel⟩
theorem ok_times (T : Txt w K mg) (D0 : DefAt K mg "times" s_times) (c_fitted : Cal P w K mg base CX0 1 "fitted" ["terms", "exact"] (Pu (R_fitted K)))  : Cal P w K mg base CX0 2 "times" ["terms", "a", "b"] (Pu (R_times K)) := by
  refine D0.cal sc_times (fun vs H Q E h => by obtain ⟨v, ⟨_, _, _, _, rfl, _⟩, _⟩ := h; rfl) (fun _ _ _ _ _ _ us hl => match us, hl with | [_, _, _], _ => rfl) (fun f cdv A outer s H vs Q E hr h => ?_)
  obtain ⟨v, ⟨q, f, x, y, rfl, hq, hx, hy, rfl⟩, k⟩ := h
  have hu := hu_of hr
  refine ⟨_, (pss_cons (ps_if (PW.pt (pw_or (pt_cmpR op_eq (pv 1) (pe_globS rfl T.g_TRAP) (nomark _)) (pw_or1 (pt_cmpR op_eq (pv 2) (pe_globS rfl T.g_TRAP) (nomark _))))) (pss_one (ps_ret (pe_globS rfl T.g_TRAP))) pss_nil)
      (pss_one (ps_ret (pe_own c_fitted (hr.mono (by decide)) rfl pass0 (pa_cons (pv 0) (pa_cons (pe_op op_mulW (pv 1) (pv 2)) pa_nil)))))), bl_go ?_⟩
  cases x with
  | none => cases y <;> (walk_at "yes") <;> (walk_at "ret") <;> rfl
  | some a =>
    cases y with
    | none =>
      walk_at "yes"
      walk_at "ret"
      rfl
    | some b =>
      have m1 : CMulW a b := sm_mul (hx a rfl) (hy b rfl)
      walk_at "no"
      walk_at "ret"
      rfl
abbrev s_opposite : Stmt := top 103
abbrev N_opposite : List Str := ["terms", "a"]
theorem sc_opposite : FnScope N_opposite ["terms", "a"] (defScope s_opposite) := ⟨rfl, rfl, rfl, by decide +kernel, rfl, by decide +kernel, by decide +kernel⟩
theorem ok_opposite (T : Txt w K mg) (D0 : DefAt K mg "opposite" s_opposite) (c_fitted : Cal P w K mg base CX0 1 "fitted" ["terms", "exact"] (Pu (R_fitted K)))  : Cal P w K mg base CX0 2 "opposite" ["terms", "a"] (Pu (R_opposite K)) := by
  refine D0.cal sc_opposite (fun vs H Q E h => by obtain ⟨v, ⟨_, _, _, rfl, _⟩, _⟩ := h; rfl) (fun _ _ _ _ _ _ us hl => match us, hl with | [_, _], _ => rfl) (fun f cdv A outer s H vs Q E hr h => ?_)
  obtain ⟨v, ⟨q, f, x, rfl, hq, rfl⟩, k⟩ := h
  have hu := hu_of hr
  refine ⟨_, (pss_cons (ps_if (pt_cmpR op_eq (pv 1) (pe_globS rfl T.g_TRAP) (nomark _)) (pss_one (ps_ret (pe_globS rfl T.g_TRAP))) pss_nil)
      (pss_one (ps_ret (pe_own c_fitted (hr.mono (by decide)) rfl pass0 (pa_cons (pv 0) (pa_cons (pe_un un_neg (pv 1)) pa_nil)))))), bl_go ?_⟩
  cases x with
  | none =>
    walk_at "yes"
    walk_at "ret"
    rfl
  | some a =>
    walk_at "no"
    walk_at "ret"
    rfl
abbrev s_quotient : Stmt := top 104
abbrev N_quotient : List Str := ["terms", "a", "b"]
theorem sc_quotient : FnScope N_quotient ["terms", "a", "b"] (defScope s_quotient) := ⟨rfl, rfl, rfl, by decide +kernel, rfl, by decide +kernel, by decide +kernel⟩
theorem ok_quotient (T : Txt w K mg) (D0 : DefAt K mg "quotient" s_quotient) (c__exact_quotient : Cal P w K mg base CX0 2 "_exact_quotient" ["division", "a", "b"] (Pu (R__exact_quotient K))) (c_fitted : Cal P w K mg base CX0 1 "fitted" ["terms", "exact"] (Pu (R_fitted K)))  : Cal P w K mg base CX0 3 "quotient" ["terms", "a", "b"] (Pu (R_quotient K)) := by
  refine D0.cal sc_quotient (fun vs H Q E h => by obtain ⟨v, ⟨_, _, _, _, rfl, _⟩, _⟩ := h; rfl) (fun _ _ _ _ _ _ us hl => match us, hl with | [_, _, _], _ => rfl) (fun f cdv A outer s H vs Q E hr h => ?_)
  obtain ⟨v, ⟨q, f, x, y, rfl, hq, hx, hy, hz, rfl⟩, k⟩ := h
  have hu := hu_of hr
  refine ⟨_, (pss_cons (ps_if (PW.pt (pw_or (pt_cmpR op_eq (pv 1) (pe_globS rfl T.g_TRAP) (nomark _)) (pw_or1 (pt_cmpR op_eq (pv 2) (pe_globS rfl T.g_TRAP) (nomark _))))) (pss_one (ps_ret (pe_globS rfl T.g_TRAP))) pss_nil)
      (pss_one (ps_ret (pe_own c_fitted (hr.mono (by decide)) rfl pass0 (pa_cons (pv 0) (pa_cons (pe_own c__exact_quotient (hr.mono (by decide)) rfl pass0 (pa_cons (pe_ix ix_tup (pv 0) pe_int (fun _ _ => rfl)) (pa_cons (pv 1) (pa_cons (pv 2) pa_nil)))) pa_nil)))))), bl_go ?_⟩
  cases x with
  | none => cases y <;> (walk_at "yes") <;> (walk_at "ret") <;> rfl
  | some a =>
    cases y with
    | none =>
      walk_at "yes"
      walk_at "ret"
      rfl
    | some b =>
      have sa : Sm a := hx a rfl
      have sb : Sm b := hy b rfl
      have b0 : b ≠ 0 := fun z => hz (by rw [z])
      walk_at "no"
      walk_at "ret"
      rfl
abbrev s_rest : Stmt := top 105
abbrev N_rest : List Str := ["terms", "a", "b"]
theorem sc_rest : FnScope N_rest ["terms", "a", "b"] (defScope s_rest) := ⟨rfl, rfl, rfl, by decide +kernel, rfl, by decide +kernel, by decide +kernel⟩
theorem ok_rest (T : Txt w K mg) (D0 : DefAt K mg "rest" s_rest) (c__exact_quotient : Cal P w K mg base CX0 2 "_exact_quotient" ["division", "a", "b"] (Pu (R__exact_quotient K))) (c_fitted : Cal P w K mg base CX0 1 "fitted" ["terms", "exact"] (Pu (R_fitted K)))  : Cal P w K mg base CX0 3 "rest" ["terms", "a", "b"] (Pu (R_rest K)) := by
  refine D0.cal sc_rest (fun vs H Q E h => by obtain ⟨v, ⟨_, _, _, _, rfl, _⟩, _⟩ := h; rfl) (fun _ _ _ _ _ _ us hl => match us, hl with | [_, _, _], _ => rfl) (fun f cdv A outer s H vs Q E hr h => ?_)
  obtain ⟨v, ⟨q, f, a, b, rfl, hq, h2, h3, h0, rfl⟩, k⟩ := h
  have hu := hu_of hr
  refine ⟨_, (pss_cons (ps_if (PW.pt (pw_or (pt_cmpR op_eq (pv 1) (pe_globS rfl T.g_TRAP) (nomark _)) (pw_or1 (pt_cmpR op_eq (pv 2) (pe_globS rfl T.g_TRAP) (nomark _))))) (pss_one (ps_ret (pe_globS rfl T.g_TRAP))) pss_nil)
      (pss_one (ps_ret (pe_own c_fitted (hr.mono (by decide)) rfl pass0 (pa_cons (pv 0) (pa_cons (pe_op op_sub (pv 1) (pe_op op_mulW (pv 2) (pe_own c__exact_quotient (hr.mono (by decide)) rfl pass0 (pa_cons (pe_ix ix_tup (pv 0) pe_int (fun _ _ => rfl)) (pa_cons (pv 1) (pa_cons (pv 2) pa_nil)))))) pa_nil)))))), bl_go ?_⟩
  have m1 : CMulW b (quo f.dv a b) := bg_mul h3.bg (bg_quo h2)
  walk_at "no"
  walk_at "ret"
  rfl
end
end K1

set_option maxHeartbeats 4000000
namespace K1
open PySem PySem.Spec PyProof.Rows L2 Evl WM WL WLam WX WT WU StX LamX
local macro_rules | `(tactic| walk_at "ev") => `(tactic| first
  | exact ev_c
  | exact ev_var rfl
  | ((with_reducible apply ev_op); (walk_at "ev"); (walk_at "ev"); (walk_at "rv"))
  | ((with_reducible apply ev_un); (walk_at "ev"); exact ru_neg)
  | ((with_reducible apply ev_notV); (walk_at "ev"))
  | ((with_reducible apply ev_andV); (walk_at "ev"); (intro _; walk_at "ev"))
  | ((with_reducible apply ev_orV); (walk_at "ev"); (intro _; walk_at "ev"))
  | ((with_reducible apply ev_ifT); (walk_at "et"); (exact rfl); (walk_at "ev"))
  | ((with_reducible apply ev_ifF); (walk_at "et"); (exact rfl); (walk_at "ev"))
  | ((with_reducible apply ev_ifB); (walk_at "et"); (intro _; walk_at "ev"); (intro _; walk_at "ev"))
  | ((with_reducible apply ev_chainI); (walk_at "ev"); (walk_at "ev"); (walk_at "ev"))
  | ((with_reducible apply ev_own); (walk_at "ea"); (intro _ _; walk_at "own"))
  | ((with_reducible apply ev_ddS); (walk_at "dp"); (exact Nat.le_of_ble_eq_true rfl); (walk_at "ev"); (exact rfl))
  | ((with_reducible apply ev_isiT); (walk_at "ev"); (walk_at "ea"); (walk_at "isiT"))
  | ((with_reducible apply ev_cb); (walk_at "ea"); (walk_at "rc")))
local macro_rules | `(tactic| walk_at "dp") => `(tactic| first
  | exact Paired.nil
  | ((with_reducible apply dp_cons); (exact ev_c); (walk_at "ev"); (walk_at "dp")))
local macro_rules | `(tactic| walk_at "ea") => `(tactic| first
  | exact ea_nil
  | ((with_reducible apply ea_cons); (walk_at "ev"); (walk_at "ea")))
local macro_rules | `(tactic| walk_at "et") => `(tactic| first
  | ((with_reducible apply et_test); (walk_at "ev"))
  | ((with_reducible apply et_B); (walk_at "ev"))
  | ((with_reducible apply et_not); (walk_at "et"))
  | ((with_reducible apply et_and); (walk_at "et"); (intro _; walk_at "et"))
  | ((with_reducible apply et_or); (walk_at "et"); (intro _; walk_at "et")))
local macro_rules | `(tactic| walk_at "rv") => `(tactic| first
  | exact rv_I0
  | exact rv_eq rfl
  | exact rv_ne rfl
  | exact rv_isT (by assumption) rfl rfl
  | exact rv_niT (by assumption) rfl rfl
  | exact rv_isL (by assumption) rfl rfl
  | exact rv_niL (by assumption) rfl rfl
  | exact rv_ixT (by assumption) rfl
  | exact rv_ixL (by assumption) rfl
  | exact rv_ixL (by assumption) (by assumption)
  | (apply rv_I; (walk_at "side")))
local macro_rules | `(tactic| walk_at "side") => `(tactic| first
  | assumption
  | (refine And.intro ?_ (And.intro ?_ ?_) <;> (try dsimp only) <;> first | omega | decide)
  | (dsimp only; omega)
  | omega)
local macro_rules | `(tactic| walk_at "rc") => `(tactic| first
  | exact rc_abs | exact rc_max2 | exact rc_min2 | exact rc_int | exact rc_intB
  | exact rc_isi_int (b := true) (by decide +kernel)
  | exact rc_isi_int (b := false) (by decide +kernel)
  | exact rc_isi_bl (b := true) (by decide +kernel)
  | exact rc_isi_bl (b := false) (by decide +kernel)
  | exact rc_isi_str (b := true) (by decide +kernel)
  | exact rc_isi_str (b := false) (by decide +kernel)
  | exact rc_isi_T (b := true) (by assumption) (by decide +kernel)
  | exact rc_isi_T (b := false) (by assumption) (by decide +kernel)
  | exact rc_lenT (by assumption)
  | exact rc_lenL (by assumption))
local macro_rules | `(tactic| walk_at "set") => `(tactic| ((with_reducible apply bl_set); (walk_at "ev")))
local macro_rules | `(tactic| walk_at "drop") => `(tactic| ((with_reducible apply bl_drop); (walk_at "ev")))
local macro_rules | `(tactic| walk_at "par") => `(tactic| ((with_reducible apply bl_par); (walk_at "ea")))
local macro_rules | `(tactic| walk_at "if") => `(tactic| ((with_reducible apply bl_when); (walk_at "et")))
local macro_rules | `(tactic| walk_at "no") => `(tactic| ((with_reducible apply bl_when); (walk_at "et"); (intro h; exact absurd (show false = true from h) (by decide)); (intro _)))
local macro_rules | `(tactic| walk_at "yes") => `(tactic| ((with_reducible apply bl_when); (walk_at "et"); rotate_left; (intro h; exact absurd (show true = false from h) (by decide)); (intro _)))
local macro_rules | `(tactic| walk_at "ret") => `(tactic| ((with_reducible apply bl_retE); rotate_left; assumption; rotate_right; (walk_at "ev")))
local macro_rules | `(tactic| walk_at "absurd") => `(tactic| first | exact absurd (show false = true from (by assumption)) (by decide) | exact absurd (show true = false from (by assumption)) (by decide))
local macro_rules | `(tactic| walk_at "rv") => `(tactic| first | exact rv_isN (s := []) | exact rv_notKD (by assumption) | exact rv_inKD (by assumption) | exact rv_ixKD (by assumption))
local macro_rules | `(tactic| walk_at "isiT") => `(tactic| ((exact Nat.le_of_ble_eq_true rfl); (exact .cons (.ty _) (.cons (.ty _) .nil)); (first | exact fun _ _ => .base (.int _) | exact fun _ _ => .base (.bl _) | exact fun _ _ => .base (.str _) | exact fun _ _ => .base .non); (exact kitAny_no (by decide +kernel) (by decide +kernel))))
local macro_rules | `(tactic| walk_at "rc") => `(tactic| first | exact rc_isi_non (b := true) (by decide +kernel) | exact rc_isi_non (b := false) (by decide +kernel))
local macro_rules | `(tactic| walk_at "eu") => `(tactic| first
  | ((with_reducible apply eu_own); (walk_at "ea"); (intro _ _; walk_at "own"))
  | ((with_reducible apply eu_tup); (walk_at "ea"); (exact Nat.le_of_ble_eq_true rfl)))
local macro_rules | `(tactic| walk_at "ev") => `(tactic| ((with_reducible apply ev_own1U); (walk_at "eu"); (walk_at "ea"); (intro _ _ _ _; walk_at "own1")))
local macro_rules | `(tactic| walk_at "isr") => `(tactic| first | with_reducible exact isr_r | with_reducible exact isr_i | ((with_reducible apply isr_if) <;> (walk_at "isr")))
local macro_rules | `(tactic| walk_at "osm") => `(tactic| first | with_reducible assumption | with_reducible exact osm_add | with_reducible exact osm_sub | with_reducible exact osm_mul | with_reducible exact osm_dvo | with_reducible exact osm_neg | with_reducible exact osm_rem | with_reducible exact osm_do | with_reducible exact osm_div | with_reducible exact osm_fit | ((with_reducible apply osm); assumption) | ((with_reducible apply osm); exact (show (0 : Int).natAbs < 2 ^ 70 by decide)) | ((with_reducible apply osm); exact (show (2 : Int).natAbs < 2 ^ 70 by decide)) | ((with_reducible apply osm_if) <;> (walk_at "osm")))
local macro_rules | `(tactic| walk_at "ev") => `(tactic| first
  | ((with_reducible apply ev_inLst); (walk_at "ev"); (walk_at "ea"); (exact Nat.le_of_ble_eq_true rfl); (exact rfl); (first | exact rfl | simp [flatV])))
local macro_rules | `(tactic| walk_at "rv") => `(tactic| first | exact rv_eq scal_rv | exact rv_ne scal_rv | exact rv_eq (scal_rv (y := some _)) | exact rv_ne (scal_rv (y := some _)) | exact rv_eq (scal_rv (y := none)) | exact rv_ne (scal_rv (y := none)))
local macro_rules | `(tactic| walk_at "nz") => `(tactic| first | with_reducible assumption | ((with_reducible apply nz_i); (first | assumption | decide)))
local macro_rules | `(tactic| walk_at "ev") => `(tactic| ((with_reducible apply ev_inU); (walk_at "ev"); (walk_at "eu"); (exact rfl); (exact rfl)))
local macro_rules | `(tactic| walk_at "eu") => `(tactic| ((with_reducible apply WB.eu_ifB); (walk_at "et"); (walk_at "eu"); (walk_at "eu")))
section
variable {P : Program} {w : World} {K : PySem.W.Frag} {mg : Str → Option Value} {base : Heap}
def R__at_most (K : PySem.W.Frag) : List V → Hp → V → Prop := fun vs H v => ∃ (x : Option Int) (y : Option Int), vs = [rv x, rv y] ∧ v = .bl (leO x y)
theorem r__at_most {K : PySem.W.Frag} {H : Hp} {x : Option Int} {y : Option Int}  : R__at_most K [rv x, rv y] H (.bl (leO x y)) := ⟨_, _, rfl, rfl⟩
theorem r__at_most_G {K : PySem.W.Frag} {H : Hp} {va vb : V} {x y : Option Int} (ea : IsR va x) (eb : IsR vb y) : R__at_most K [va, vb] H (.bl (leO x y)) := ⟨x, y, by rw [ea, eb], rfl⟩
def R__below (K : PySem.W.Frag) : List V → Hp → V → Prop := fun vs H v => ∃ (x : Option Int) (y : Option Int), vs = [rv x, rv y] ∧ v = .bl (ltO x y)
theorem r__below {K : PySem.W.Frag} {H : Hp} {x : Option Int} {y : Option Int}  : R__below K [rv x, rv y] H (.bl (ltO x y)) := ⟨_, _, rfl, rfl⟩
theorem r__below_G {K : PySem.W.Frag} {H : Hp} {va vb : V} {x y : Option Int} (ea : IsR va x) (eb : IsR vb y) : R__below K [va, vb] H (.bl (ltO x y)) := ⟨x, y, by rw [ea, eb], rfl⟩
def R_sum_grouping_rules (K : PySem.W.Frag) : List V → Hp → V → Prop := fun vs H v => ∃ (q : Addr) (f : Fmt) (a : Int) (b : Int) (c : Int), vs = [.ref q, .int a, .int b, .int c] ∧ (SqT K H q (tV f)) ∧ (fits f a) ∧ (fits f b) ∧ (fits f c) ∧ v = .bl (ruleB f .sumG a b c)
theorem r_sum_grouping_rules {K : PySem.W.Frag} {H : Hp} {q : Addr} {f : Fmt} {a : Int} {b : Int} {c : Int} (h0 : SqT K H q (tV f)) (h1 : fits f a) (h2 : fits f b) (h3 : fits f c) : R_sum_grouping_rules K [.ref q, .int a, .int b, .int c] H (.bl (ruleB f .sumG a b c)) := ⟨_, _, _, _, _, rfl, h0, h1, h2, h3, rfl⟩
def R_product_grouping_rules (K : PySem.W.Frag) : List V → Hp → V → Prop := fun vs H v => ∃ (q : Addr) (f : Fmt) (a : Int) (b : Int) (c : Int), vs = [.ref q, .int a, .int b, .int c] ∧ (SqT K H q (tV f)) ∧ (fits f a) ∧ (fits f b) ∧ (fits f c) ∧ v = .bl (ruleB f .prodG a b c)
theorem r_product_grouping_rules {K : PySem.W.Frag} {H : Hp} {q : Addr} {f : Fmt} {a : Int} {b : Int} {c : Int} (h0 : SqT K H q (tV f)) (h1 : fits f a) (h2 : fits f b) (h3 : fits f c) : R_product_grouping_rules K [.ref q, .int a, .int b, .int c] H (.bl (ruleB f .prodG a b c)) := ⟨_, _, _, _, _, rfl, h0, h1, h2, h3, rfl⟩
def R_distribution_rules (K : PySem.W.Frag) : List V → Hp → V → Prop := fun vs H v => ∃ (q : Addr) (f : Fmt) (a : Int) (b : Int) (c : Int), vs = [.ref q, .int a, .int b, .int c] ∧ (SqT K H q (tV f)) ∧ (fits f a) ∧ (fits f b) ∧ (fits f c) ∧ v = .bl (ruleB f .dist a b c)
theorem r_distribution_rules {K : PySem.W.Frag} {H : Hp} {q : Addr} {f : Fmt} {a : Int} {b : Int} {c : Int} (h0 : SqT K H q (tV f)) (h1 : fits f a) (h2 : fits f b) (h3 : fits f c) : R_distribution_rules K [.ref q, .int a, .int b, .int c] H (.bl (ruleB f .dist a b c)) := ⟨_, _, _, _, _, rfl, h0, h1, h2, h3, rfl⟩
def R_double_negation_rules (K : PySem.W.Frag) : List V → Hp → V → Prop := fun vs H v => ∃ (q : Addr) (f : Fmt) (a : Int), vs = [.ref q, .int a] ∧ (SqT K H q (tV f)) ∧ (fits f a) ∧ v = .bl (ruleB f .dneg a 0 0)
theorem r_double_negation_rules {K : PySem.W.Frag} {H : Hp} {q : Addr} {f : Fmt} {a : Int} (h0 : SqT K H q (tV f)) (h1 : fits f a) : R_double_negation_rules K [.ref q, .int a] H (.bl (ruleB f .dneg a 0 0)) := ⟨_, _, _, rfl, h0, h1, rfl⟩
def R_difference_rules (K : PySem.W.Frag) : List V → Hp → V → Prop := fun vs H v => ∃ (q : Addr) (f : Fmt) (a : Int) (b : Int), vs = [.ref q, .int a, .int b] ∧ (SqT K H q (tV f)) ∧ (fits f a) ∧ (fits f b) ∧ v = .bl (ruleB f .diff a b 0)
theorem r_difference_rules {K : PySem.W.Frag} {H : Hp} {q : Addr} {f : Fmt} {a : Int} {b : Int} (h0 : SqT K H q (tV f)) (h1 : fits f a) (h2 : fits f b) : R_difference_rules K [.ref q, .int a, .int b] H (.bl (ruleB f .diff a b 0)) := ⟨_, _, _, _, rfl, h0, h1, h2, rfl⟩
def R_add_back_rules (K : PySem.W.Frag) : List V → Hp → V → Prop := fun vs H v => ∃ (q : Addr) (f : Fmt) (a : Int) (b : Int), vs = [.ref q, .int a, .int b] ∧ (SqT K H q (tV f)) ∧ (fits f a) ∧ (fits f b) ∧ v = .bl (ruleB f .addB a b 0)
theorem r_add_back_rules {K : PySem.W.Frag} {H : Hp} {q : Addr} {f : Fmt} {a : Int} {b : Int} (h0 : SqT K H q (tV f)) (h1 : fits f a) (h2 : fits f b) : R_add_back_rules K [.ref q, .int a, .int b] H (.bl (ruleB f .addB a b 0)) := ⟨_, _, _, _, rfl, h0, h1, h2, rfl⟩
def R_division_rules (K : PySem.W.Frag) : List V → Hp → V → Prop := fun vs H v => ∃ (q : Addr) (f : Fmt) (a : Int) (b : Int), vs = [.ref q, .int a, .int b] ∧ (SqT K H q (tV f)) ∧ (fits f a) ∧ (fits f b) ∧ v = .bl (ruleB f .divi a b 0)
theorem r_division_rules {K : PySem.W.Frag} {H : Hp} {q : Addr} {f : Fmt} {a : Int} {b : Int} (h0 : SqT K H q (tV f)) (h1 : fits f a) (h2 : fits f b) : R_division_rules K [.ref q, .int a, .int b] H (.bl (ruleB f .divi a b 0)) := ⟨_, _, _, _, rfl, h0, h1, h2, rfl⟩
def R_remainder_range_rules (K : PySem.W.Frag) : List V → Hp → V → Prop := fun vs H v => ∃ (q : Addr) (f : Fmt) (a : Int) (b : Int), vs = [.ref q, .int a, .int b] ∧ (SqT K H q (tV f)) ∧ (fits f a) ∧ (fits f b) ∧ v = .bl (ruleB f .remR a b 0)
theorem r_remainder_range_rules {K : PySem.W.Frag} {H : Hp} {q : Addr} {f : Fmt} {a : Int} {b : Int} (h0 : SqT K H q (tV f)) (h1 : fits f a) (h2 : fits f b) : R_remainder_range_rules K [.ref q, .int a, .int b] H (.bl (ruleB f .remR a b 0)) := ⟨_, _, _, _, rfl, h0, h1, h2, rfl⟩
def R_negated_quotient_rules (K : PySem.W.Frag) : List V → Hp → V → Prop := fun vs H v => ∃ (q : Addr) (f : Fmt) (a : Int) (b : Int), vs = [.ref q, .int a, .int b] ∧ (SqT K H q (tV f)) ∧ (fits f a) ∧ (fits f b) ∧ v = .bl (ruleB f .negQ a b 0)
theorem r_negated_quotient_rules {K : PySem.W.Frag} {H : Hp} {q : Addr} {f : Fmt} {a : Int} {b : Int} (h0 : SqT K H q (tV f)) (h1 : fits f a) (h2 : fits f b) : R_negated_quotient_rules K [.ref q, .int a, .int b] H (.bl (ruleB f .negQ a b 0)) := ⟨_, _, _, _, rfl, h0, h1, h2, rfl⟩
def R_shift_rules (K : PySem.W.Frag) : List V → Hp → V → Prop := fun vs H v => ∃ (q : Addr) (f : Fmt) (a : Int), vs = [.ref q, .int a] ∧ (SqT K H q (tV f)) ∧ (fits f a) ∧ v = .bl (ruleB f .shift a 0 0)
theorem r_shift_rules {K : PySem.W.Frag} {H : Hp} {q : Addr} {f : Fmt} {a : Int} (h0 : SqT K H q (tV f)) (h1 : fits f a) : R_shift_rules K [.ref q, .int a] H (.bl (ruleB f .shift a 0 0)) := ⟨_, _, _, rfl, h0, h1, rfl⟩
def R_absolute_value_rules (K : PySem.W.Frag) : List V → Hp → V → Prop := fun vs H v => ∃ (q : Addr) (f : Fmt) (a : Int), vs = [.ref q, .int a] ∧ (SqT K H q (tV f)) ∧ (fits f a) ∧ v = .bl (ruleB f .absV a 0 0)
theorem r_absolute_value_rules {K : PySem.W.Frag} {H : Hp} {q : Addr} {f : Fmt} {a : Int} (h0 : SqT K H q (tV f)) (h1 : fits f a) : R_absolute_value_rules K [.ref q, .int a] H (.bl (ruleB f .absV a 0 0)) := ⟨_, _, _, rfl, h0, h1, rfl⟩
def R_order_by_difference_rules (K : PySem.W.Frag) : List V → Hp → V → Prop := fun vs H v => ∃ (q : Addr) (f : Fmt) (a : Int) (b : Int), vs = [.ref q, .int a, .int b] ∧ (SqT K H q (tV f)) ∧ (fits f a) ∧ (fits f b) ∧ v = .bl (ruleB f .ordD a b 0)
theorem r_order_by_difference_rules {K : PySem.W.Frag} {H : Hp} {q : Addr} {f : Fmt} {a : Int} {b : Int} (h0 : SqT K H q (tV f)) (h1 : fits f a) (h2 : fits f b) : R_order_by_difference_rules K [.ref q, .int a, .int b] H (.bl (ruleB f .ordD a b 0)) := ⟨_, _, _, _, rfl, h0, h1, h2, rfl⟩
def R_monotone_sum_rules (K : PySem.W.Frag) : List V → Hp → V → Prop := fun vs H v => ∃ (q : Addr) (f : Fmt) (a : Int) (b : Int) (c : Int), vs = [.ref q, .int a, .int b, .int c] ∧ (SqT K H q (tV f)) ∧ (fits f a) ∧ (fits f b) ∧ (fits f c) ∧ v = .bl (ruleB f .monoS a b c)
theorem r_monotone_sum_rules {K : PySem.W.Frag} {H : Hp} {q : Addr} {f : Fmt} {a : Int} {b : Int} {c : Int} (h0 : SqT K H q (tV f)) (h1 : fits f a) (h2 : fits f b) (h3 : fits f c) : R_monotone_sum_rules K [.ref q, .int a, .int b, .int c] H (.bl (ruleB f .monoS a b c)) := ⟨_, _, _, _, _, rfl, h0, h1, h2, h3, rfl⟩
def R_average_rules (K : PySem.W.Frag) : List V → Hp → V → Prop := fun vs H v => ∃ (q : Addr) (f : Fmt) (a : Int) (b : Int), vs = [.ref q, .int a, .int b] ∧ (SqT K H q (tV f)) ∧ (fits f a) ∧ (fits f b) ∧ v = .bl (ruleB f .aver a b 0)
theorem r_average_rules {K : PySem.W.Frag} {H : Hp} {q : Addr} {f : Fmt} {a : Int} {b : Int} (h0 : SqT K H q (tV f)) (h1 : fits f a) (h2 : fits f b) : R_average_rules K [.ref q, .int a, .int b] H (.bl (ruleB f .aver a b 0)) := ⟨_, _, _, _, rfl, h0, h1, h2, rfl⟩
def R_square_rules (K : PySem.W.Frag) : List V → Hp → V → Prop := fun vs H v => ∃ (q : Addr) (f : Fmt) (a : Int), vs = [.ref q, .int a] ∧ (SqT K H q (tV f)) ∧ (fits f a) ∧ v = .bl (ruleB f .squa a 0 0)
theorem r_square_rules {K : PySem.W.Frag} {H : Hp} {q : Addr} {f : Fmt} {a : Int} (h0 : SqT K H q (tV f)) (h1 : fits f a) : R_square_rules K [.ref q, .int a] H (.bl (ruleB f .squa a 0 0)) := ⟨_, _, _, rfl, h0, h1, rfl⟩
def R_zero_product_rules (K : PySem.W.Frag) : List V → Hp → V → Prop := fun vs H v => ∃ (q : Addr) (f : Fmt) (a : Int) (b : Int), vs = [.ref q, .int a, .int b] ∧ (SqT K H q (tV f)) ∧ (fits f a) ∧ (fits f b) ∧ v = .bl (ruleB f .zeroP a b 0)
theorem r_zero_product_rules {K : PySem.W.Frag} {H : Hp} {q : Addr} {f : Fmt} {a : Int} {b : Int} (h0 : SqT K H q (tV f)) (h1 : fits f a) (h2 : fits f b) : R_zero_product_rules K [.ref q, .int a, .int b] H (.bl (ruleB f .zeroP a b 0)) := ⟨_, _, _, _, rfl, h0, h1, h2, rfl⟩
def R_cancellation_rules (K : PySem.W.Frag) : List V → Hp → V → Prop := fun vs H v => ∃ (q : Addr) (f : Fmt) (a : Int) (b : Int) (c : Int), vs = [.ref q, .int a, .int b, .int c] ∧ (SqT K H q (tV f)) ∧ (fits f a) ∧ (fits f b) ∧ (fits f c) ∧ v = .bl (ruleB f .canc a b c)
theorem r_cancellation_rules {K : PySem.W.Frag} {H : Hp} {q : Addr} {f : Fmt} {a : Int} {b : Int} {c : Int} (h0 : SqT K H q (tV f)) (h1 : fits f a) (h2 : fits f b) (h3 : fits f c) : R_cancellation_rules K [.ref q, .int a, .int b, .int c] H (.bl (ruleB f .canc a b c)) := ⟨_, _, _, _, _, rfl, h0, h1, h2, h3, rfl⟩
local macro_rules | `(tactic| walk_at "own") => `(tactic| first
  | exact r_is_whole (by first | assumption | exact .int _ | exact Wh.ex (by assumption) (by assumption))
  | exact r_are_choices 
  | exact r_is_format (ex_t (by assumption) (by assumption))
  | exact r_check_format (ex_t (by assumption) (by assumption))
  | exact r_ends (ex_t (by assumption) (by assumption))
  | exact r_lowest (ex_t (by assumption) (by assumption))
  | exact r_highest (ex_t (by assumption) (by assumption))
  | exact r_terms_of (ex_t (by assumption) (by assumption))
  | exact r_fitted (ex_t (by assumption) (by assumption))
  | exact r__quotient_to_zero (by assumption) (by assumption) (by assumption)
  | exact r__quotient_to_even (by assumption) (by assumption) (by assumption)
  | exact r__quotient_of_euclid (by assumption) (by assumption) (by assumption)
  | exact r__exact_quotient (by assumption) (by assumption) (by assumption)
  | ((with_reducible apply r_plus_G); (exact (ex_t (by assumption) (by assumption))); (walk_at "isr"); (walk_at "isr"))
  | ((with_reducible apply r_minus_G); (exact (ex_t (by assumption) (by assumption))); (walk_at "isr"); (walk_at "isr"))
  | ((with_reducible apply r_times_G); (exact (ex_t (by assumption) (by assumption))); (walk_at "isr"); (walk_at "isr"); (walk_at "osm"); (walk_at "osm"))
  | ((with_reducible apply r_quotient_G); (exact (ex_t (by assumption) (by assumption))); (walk_at "isr"); (walk_at "isr"); (walk_at "osm"); (walk_at "osm"); (walk_at "nz"))
  | ((with_reducible apply r_opposite_G); (exact (ex_t (by assumption) (by assumption))); (walk_at "isr"))
  | exact r_rest (ex_t (by assumption) (by assumption)) (by assumption) (by assumption) (by assumption)
  | ((with_reducible apply r__at_most_G); (walk_at "isr"); (walk_at "isr"))
  | ((with_reducible apply r__below_G); (walk_at "isr"); (walk_at "isr"))
  | exact r_sum_grouping_rules (ex_t (by assumption) (by assumption)) (by assumption) (by assumption) (by assumption)
  | exact r_product_grouping_rules (ex_t (by assumption) (by assumption)) (by assumption) (by assumption) (by assumption)
  | exact r_distribution_rules (ex_t (by assumption) (by assumption)) (by assumption) (by assumption) (by assumption)
  | exact r_double_negation_rules (ex_t (by assumption) (by assumption)) (by assumption)
  | exact r_difference_rules (ex_t (by assumption) (by assumption)) (by assumption) (by assumption)
  | exact r_add_back_rules (ex_t (by assumption) (by assumption)) (by assumption) (by assumption)
  | exact r_division_rules (ex_t (by assumption) (by assumption)) (by assumption) (by assumption)
  | exact r_remainder_range_rules (ex_t (by assumption) (by assumption)) (by assumption) (by assumption)
  | exact r_negated_quotient_rules (ex_t (by assumption) (by assumption)) (by assumption) (by assumption)
  | exact r_shift_rules (ex_t (by assumption) (by assumption)) (by assumption)
  | exact r_absolute_value_rules (ex_t (by assumption) (by assumption)) (by assumption)
  | exact r_order_by_difference_rules (ex_t (by assumption) (by assumption)) (by assumption) (by assumption)
  | exact r_monotone_sum_rules (ex_t (by assumption) (by assumption)) (by assumption) (by assumption) (by assumption)
  | exact r_average_rules (ex_t (by assumption) (by assumption)) (by assumption) (by assumption)
  | exact r_square_rules (ex_t (by assumption) (by assumption)) (by assumption)
  | exact r_zero_product_rules (ex_t (by assumption) (by assumption)) (by assumption) (by assumption)
  | exact r_cancellation_rules (ex_t (by assumption) (by assumption)) (by assumption) (by assumption) (by assumption))
local macro_rules | `(tactic| walk_at "own1") => `(tactic| first
  | ((with_reducible apply r_plus_G); (exact st_of (by assumption)); (walk_at "isr"); (walk_at "isr"))
  | ((with_reducible apply r_minus_G); (exact st_of (by assumption)); (walk_at "isr"); (walk_at "isr"))
  | ((with_reducible apply r_times_G); (exact st_of (by assumption)); (walk_at "isr"); (walk_at "isr"); (walk_at "osm"); (walk_at "osm"))
  | ((with_reducible apply r_quotient_G); (exact st_of (by assumption)); (walk_at "isr"); (walk_at "isr"); (walk_at "osm"); (walk_at "osm"); (walk_at "nz"))
  | ((with_reducible apply r_opposite_G); (exact st_of (by assumption)); (walk_at "isr"))
  | ((with_reducible apply r_rest); (exact st_of (by assumption)); assumption; assumption; assumption)
  | ((with_reducible apply r_fitted); (exact st_of (by assumption))))
abbrev s__at_most : Stmt := top 116
abbrev N__at_most : List Str := ["a", "b"]
theorem sc__at_most : FnScope N__at_most ["a", "b"] (defScope s__at_most) := ⟨rfl, rfl, rfl, by decide +kernel, rfl, by decide +kernel, by decide +kernel⟩
theorem ok__at_most (T : Txt w K mg) (D0 : DefAt K mg "_at_most" s__at_most)   : Cal P w K mg base CX0 1 "_at_most" ["a", "b"] (Pu (R__at_most K)) := by
  refine D0.cal sc__at_most (fun vs H Q E h => by obtain ⟨v, ⟨_, _, rfl, _⟩, _⟩ := h; rfl) (fun _ _ _ _ _ _ us hl => match us, hl with | [_, _], _ => rfl) (fun f cdv A outer s H vs Q E hr h => ?_)
  obtain ⟨v, ⟨x, y, rfl, rfl⟩, k⟩ := h
  have hu := hu_of hr
  refine ⟨_, (pss_one (ps_ret (pe_and (pe_cmpR op_ne (pv 0) (pe_globS rfl T.g_TRAP) (nomark _)) (pe_and (pe_cmpR op_ne (pv 1) (pe_globS rfl T.g_TRAP) (nomark _)) (pe_one (pe_cmpR op_le (pv 0) (pv 1) (nomark _))))))), bl_go ?_⟩
  cases x with
  | none =>
    refine bl_retE (v := .bl (false && false)) (ev_andV (ev_is (v := .bl (!decide (rv none = V.str "trap"))) (by walk_at "ev") (by rw [dec_rvt]; rfl)) (fun z => by cases z)) k rfl
  | some a =>
    cases y with
    | none =>
      refine bl_retE (v := .bl (true && (false && false))) (ev_andV (ev_is (v := .bl (!decide (rv (some a) = V.str "trap"))) (by walk_at "ev") (by rw [dec_rvt]; rfl)) (fun _ => ev_andV (ev_is (v := .bl (!decide (rv none = V.str "trap"))) (by walk_at "ev") (by rw [dec_rvt]; rfl)) (fun z => by cases z))) k rfl
    | some b =>
      refine bl_retE (v := .bl (true && (true && decide (a ≤ b)))) (ev_andV (ev_is (v := .bl (!decide (rv (some a) = V.str "trap"))) (by walk_at "ev") (by rw [dec_rvt]; rfl)) (fun _ => ev_andV (ev_is (v := .bl (!decide (rv (some b) = V.str "trap"))) (by walk_at "ev") (by rw [dec_rvt]; rfl)) (fun _ => ?_))) k rfl
      walk_at "ev"
abbrev s__below : Stmt := top 117
abbrev N__below : List Str := ["a", "b"]
theorem sc__below : FnScope N__below ["a", "b"] (defScope s__below) := ⟨rfl, rfl, rfl, by decide +kernel, rfl, by decide +kernel, by decide +kernel⟩
theorem ok__below (T : Txt w K mg) (D0 : DefAt K mg "_below" s__below)   : Cal P w K mg base CX0 1 "_below" ["a", "b"] (Pu (R__below K)) := by
  refine D0.cal sc__below (fun vs H Q E h => by obtain ⟨v, ⟨_, _, rfl, _⟩, _⟩ := h; rfl) (fun _ _ _ _ _ _ us hl => match us, hl with | [_, _], _ => rfl) (fun f cdv A outer s H vs Q E hr h => ?_)
  obtain ⟨v, ⟨x, y, rfl, rfl⟩, k⟩ := h
  have hu := hu_of hr
  refine ⟨_, (pss_one (ps_ret (pe_and (pe_cmpR op_ne (pv 0) (pe_globS rfl T.g_TRAP) (nomark _)) (pe_and (pe_cmpR op_ne (pv 1) (pe_globS rfl T.g_TRAP) (nomark _)) (pe_one (pe_cmpR op_lt (pv 0) (pv 1) (nomark _))))))), bl_go ?_⟩
  cases x with
  | none =>
    refine bl_retE (v := .bl (false && false)) (ev_andV (ev_is (v := .bl (!decide (rv none = V.str "trap"))) (by walk_at "ev") (by rw [dec_rvt]; rfl)) (fun z => by cases z)) k rfl
  | some a =>
    cases y with
    | none =>
      refine bl_retE (v := .bl (true && (false && false))) (ev_andV (ev_is (v := .bl (!decide (rv (some a) = V.str "trap"))) (by walk_at "ev") (by rw [dec_rvt]; rfl)) (fun _ => ev_andV (ev_is (v := .bl (!decide (rv none = V.str "trap"))) (by walk_at "ev") (by rw [dec_rvt]; rfl)) (fun z => by cases z))) k rfl
    | some b =>
      refine bl_retE (v := .bl (true && (true && decide (a < b)))) (ev_andV (ev_is (v := .bl (!decide (rv (some a) = V.str "trap"))) (by walk_at "ev") (by rw [dec_rvt]; rfl)) (fun _ => ev_andV (ev_is (v := .bl (!decide (rv (some b) = V.str "trap"))) (by walk_at "ev") (by rw [dec_rvt]; rfl)) (fun _ => ?_))) k rfl
      walk_at "ev"
abbrev s_sum_grouping_rules : Stmt := top 118
abbrev N_sum_grouping_rules : List Str := ["terms", "a", "b", "c"]
theorem sc_sum_grouping_rules : FnScope N_sum_grouping_rules ["terms", "a", "b", "c"] (defScope s_sum_grouping_rules) := ⟨rfl, rfl, rfl, by decide +kernel, rfl, by decide +kernel, by decide +kernel⟩
theorem ok_sum_grouping_rules (T : Txt w K mg) (D0 : DefAtN K mg "sum_grouping_rules" "_sum_grouping" s_sum_grouping_rules) (c_plus : Cal P w K mg base CX0 2 "plus" ["terms", "a", "b"] (Pu (R_plus K)))  : Cal P w K mg base CX0 3 "sum_grouping_rules" ["terms", "a", "b", "c"] (Pu (R_sum_grouping_rules K)) := by
  refine D0.cal sc_sum_grouping_rules (fun vs H Q E h => by obtain ⟨v, ⟨_, _, _, _, _, rfl, _⟩, _⟩ := h; rfl) (fun _ _ _ _ _ _ us hl => match us, hl with | [_, _, _, _], _ => rfl) (fun f cdv A outer s H vs Q E hr h => ?_)
  obtain ⟨v, ⟨q, f, a, b, c, rfl, hq, ha, hb, hc, rfl⟩, k⟩ := h
  have hu := hu_of hr
  refine ⟨_, (pss_one (ps_ret (pe_cmpR op_eq (pe_own c_plus (hr.mono (by decide)) rfl pass0 (pa_cons (pv 0) (pa_cons (pe_own c_plus (hr.mono (by decide)) rfl pass0 (pa_cons (pv 0) (pa_cons (pv 1) (pa_cons (pv 2) pa_nil)))) (pa_cons (pv 3) pa_nil)))) (pe_own c_plus (hr.mono (by decide)) rfl pass0 (pa_cons (pv 0) (pa_cons (pv 1) (pa_cons (pe_own c_plus (hr.mono (by decide)) rfl pass0 (pa_cons (pv 0) (pa_cons (pv 2) (pa_cons (pv 3) pa_nil)))) pa_nil)))) (nomark _)))), bl_go ?_⟩
  have sa : Sm a := sm_fits ha
  have sb : Sm b := sm_fits hb
  have sc : Sm c := sm_fits hc
  walk_at "ret"
  simp only [ruleB, dec_rv]
abbrev s_product_grouping_rules : Stmt := top 120
abbrev N_product_grouping_rules : List Str := ["terms", "a", "b", "c"]
theorem sc_product_grouping_rules : FnScope N_product_grouping_rules ["terms", "a", "b", "c"] (defScope s_product_grouping_rules) := ⟨rfl, rfl, rfl, by decide +kernel, rfl, by decide +kernel, by decide +kernel⟩
theorem ok_product_grouping_rules (T : Txt w K mg) (D0 : DefAtN K mg "product_grouping_rules" "_product_grouping" s_product_grouping_rules) (c_times : Cal P w K mg base CX0 2 "times" ["terms", "a", "b"] (Pu (R_times K)))  : Cal P w K mg base CX0 3 "product_grouping_rules" ["terms", "a", "b", "c"] (Pu (R_product_grouping_rules K)) := by
  refine D0.cal sc_product_grouping_rules (fun vs H Q E h => by obtain ⟨v, ⟨_, _, _, _, _, rfl, _⟩, _⟩ := h; rfl) (fun _ _ _ _ _ _ us hl => match us, hl with | [_, _, _, _], _ => rfl) (fun f cdv A outer s H vs Q E hr h => ?_)
  obtain ⟨v, ⟨q, f, a, b, c, rfl, hq, ha, hb, hc, rfl⟩, k⟩ := h
  have hu := hu_of hr
  refine ⟨_, (pss_one (ps_ret (pe_cmpR op_eq (pe_own c_times (hr.mono (by decide)) rfl pass0 (pa_cons (pv 0) (pa_cons (pe_own c_times (hr.mono (by decide)) rfl pass0 (pa_cons (pv 0) (pa_cons (pv 1) (pa_cons (pv 2) pa_nil)))) (pa_cons (pv 3) pa_nil)))) (pe_own c_times (hr.mono (by decide)) rfl pass0 (pa_cons (pv 0) (pa_cons (pv 1) (pa_cons (pe_own c_times (hr.mono (by decide)) rfl pass0 (pa_cons (pv 0) (pa_cons (pv 2) (pa_cons (pv 3) pa_nil)))) pa_nil)))) (nomark _)))), bl_go ?_⟩
  have sa : Sm a := sm_fits ha
  have sb : Sm b := sm_fits hb
  have sc : Sm c := sm_fits hc
  walk_at "ret"
  simp only [ruleB, dec_rv]
abbrev s_distribution_rules : Stmt := top 122
abbrev N_distribution_rules : List Str := ["terms", "a", "b", "c"]
theorem sc_distribution_rules : FnScope N_distribution_rules ["terms", "a", "b", "c"] (defScope s_distribution_rules) := ⟨rfl, rfl, rfl, by decide +kernel, rfl, by decide +kernel, by decide +kernel⟩
theorem ok_distribution_rules (T : Txt w K mg) (D0 : DefAtN K mg "distribution_rules" "_distribution" s_distribution_rules) (c_plus : Cal P w K mg base CX0 2 "plus" ["terms", "a", "b"] (Pu (R_plus K))) (c_times : Cal P w K mg base CX0 2 "times" ["terms", "a", "b"] (Pu (R_times K)))  : Cal P w K mg base CX0 3 "distribution_rules" ["terms", "a", "b", "c"] (Pu (R_distribution_rules K)) := by
  refine D0.cal sc_distribution_rules (fun vs H Q E h => by obtain ⟨v, ⟨_, _, _, _, _, rfl, _⟩, _⟩ := h; rfl) (fun _ _ _ _ _ _ us hl => match us, hl with | [_, _, _, _], _ => rfl) (fun f cdv A outer s H vs Q E hr h => ?_)
  obtain ⟨v, ⟨q, f, a, b, c, rfl, hq, ha, hb, hc, rfl⟩, k⟩ := h
  have hu := hu_of hr
  refine ⟨_, (pss_one (ps_ret (pe_cmpR op_eq (pe_own c_times (hr.mono (by decide)) rfl pass0 (pa_cons (pv 0) (pa_cons (pv 1) (pa_cons (pe_own c_plus (hr.mono (by decide)) rfl pass0 (pa_cons (pv 0) (pa_cons (pv 2) (pa_cons (pv 3) pa_nil)))) pa_nil)))) (pe_own c_plus (hr.mono (by decide)) rfl pass0 (pa_cons (pv 0) (pa_cons (pe_own c_times (hr.mono (by decide)) rfl pass0 (pa_cons (pv 0) (pa_cons (pv 1) (pa_cons (pv 2) pa_nil)))) (pa_cons (pe_own c_times (hr.mono (by decide)) rfl pass0 (pa_cons (pv 0) (pa_cons (pv 1) (pa_cons (pv 3) pa_nil)))) pa_nil)))) (nomark _)))), bl_go ?_⟩
  have sa : Sm a := sm_fits ha
  have sb : Sm b := sm_fits hb
  have sc : Sm c := sm_fits hc
  walk_at "ret"
  simp only [ruleB, dec_rv]
abbrev s_double_negation_rules : Stmt := top 124
abbrev N_double_negation_rules : List Str := ["terms", "a"]
theorem sc_double_negation_rules : FnScope N_double_negation_rules ["terms", "a"] (defScope s_double_negation_rules) := ⟨rfl, rfl, rfl, by decide +kernel, rfl, by decide +kernel, by decide +kernel⟩
theorem ok_double_negation_rules (T : Txt w K mg) (D0 : DefAtN K mg "double_negation_rules" "_double_negation" s_double_negation_rules) (c_opposite : Cal P w K mg base CX0 2 "opposite" ["terms", "a"] (Pu (R_opposite K)))  : Cal P w K mg base CX0 3 "double_negation_rules" ["terms", "a"] (Pu (R_double_negation_rules K)) := by
  refine D0.cal sc_double_negation_rules (fun vs H Q E h => by obtain ⟨v, ⟨_, _, _, rfl, _⟩, _⟩ := h; rfl) (fun _ _ _ _ _ _ us hl => match us, hl with | [_, _], _ => rfl) (fun f cdv A outer s H vs Q E hr h => ?_)
  obtain ⟨v, ⟨q, f, a, rfl, hq, ha, rfl⟩, k⟩ := h
  have hu := hu_of hr
  refine ⟨_, (pss_one (ps_ret (pe_cmpR op_eq (pe_own c_opposite (hr.mono (by decide)) rfl pass0 (pa_cons (pv 0) (pa_cons (pe_own c_opposite (hr.mono (by decide)) rfl pass0 (pa_cons (pv 0) (pa_cons (pv 1) pa_nil))) pa_nil))) (pv 1) (nomark _)))), bl_go ?_⟩
  have sa : Sm a := sm_fits ha
  walk_at "ret"
  simp only [ruleB, dec_rvi]
abbrev s_difference_rules : Stmt := top 126
abbrev N_difference_rules : List Str := ["terms", "a", "b"]
theorem sc_difference_rules : FnScope N_difference_rules ["terms", "a", "b"] (defScope s_difference_rules) := ⟨rfl, rfl, rfl, by decide +kernel, rfl, by decide +kernel, by decide +kernel⟩
theorem ok_difference_rules (T : Txt w K mg) (D0 : DefAtN K mg "difference_rules" "_difference" s_difference_rules) (c_minus : Cal P w K mg base CX0 2 "minus" ["terms", "a", "b"] (Pu (R_minus K))) (c_opposite : Cal P w K mg base CX0 2 "opposite" ["terms", "a"] (Pu (R_opposite K))) (c_plus : Cal P w K mg base CX0 2 "plus" ["terms", "a", "b"] (Pu (R_plus K)))  : Cal P w K mg base CX0 3 "difference_rules" ["terms", "a", "b"] (Pu (R_difference_rules K)) := by
  refine D0.cal sc_difference_rules (fun vs H Q E h => by obtain ⟨v, ⟨_, _, _, _, rfl, _⟩, _⟩ := h; rfl) (fun _ _ _ _ _ _ us hl => match us, hl with | [_, _, _], _ => rfl) (fun f cdv A outer s H vs Q E hr h => ?_)
  obtain ⟨v, ⟨q, f, a, b, rfl, hq, ha, hb, rfl⟩, k⟩ := h
  have hu := hu_of hr
  refine ⟨_, (pss_one (ps_ret (pe_cmpR op_eq (pe_own c_minus (hr.mono (by decide)) rfl pass0 (pa_cons (pv 0) (pa_cons (pv 1) (pa_cons (pv 2) pa_nil)))) (pe_own c_plus (hr.mono (by decide)) rfl pass0 (pa_cons (pv 0) (pa_cons (pv 1) (pa_cons (pe_own c_opposite (hr.mono (by decide)) rfl pass0 (pa_cons (pv 0) (pa_cons (pv 2) pa_nil))) pa_nil)))) (nomark _)))), bl_go ?_⟩
  have sa : Sm a := sm_fits ha
  have sb : Sm b := sm_fits hb
  walk_at "ret"
  simp only [ruleB, dec_rv]
abbrev s_add_back_rules : Stmt := top 128
abbrev N_add_back_rules : List Str := ["terms", "a", "b"]
theorem sc_add_back_rules : FnScope N_add_back_rules ["terms", "a", "b"] (defScope s_add_back_rules) := ⟨rfl, rfl, rfl, by decide +kernel, rfl, by decide +kernel, by decide +kernel⟩
theorem ok_add_back_rules (T : Txt w K mg) (D0 : DefAtN K mg "add_back_rules" "_add_back" s_add_back_rules) (c_minus : Cal P w K mg base CX0 2 "minus" ["terms", "a", "b"] (Pu (R_minus K))) (c_plus : Cal P w K mg base CX0 2 "plus" ["terms", "a", "b"] (Pu (R_plus K)))  : Cal P w K mg base CX0 3 "add_back_rules" ["terms", "a", "b"] (Pu (R_add_back_rules K)) := by
  refine D0.cal sc_add_back_rules (fun vs H Q E h => by obtain ⟨v, ⟨_, _, _, _, rfl, _⟩, _⟩ := h; rfl) (fun _ _ _ _ _ _ us hl => match us, hl with | [_, _, _], _ => rfl) (fun f cdv A outer s H vs Q E hr h => ?_)
  obtain ⟨v, ⟨q, f, a, b, rfl, hq, ha, hb, rfl⟩, k⟩ := h
  have hu := hu_of hr
  refine ⟨_, (pss_one (ps_ret (pe_cmpR op_eq (pe_own c_plus (hr.mono (by decide)) rfl pass0 (pa_cons (pv 0) (pa_cons (pe_own c_minus (hr.mono (by decide)) rfl pass0 (pa_cons (pv 0) (pa_cons (pv 1) (pa_cons (pv 2) pa_nil)))) (pa_cons (pv 2) pa_nil)))) (pv 1) (nomark _)))), bl_go ?_⟩
  have sa : Sm a := sm_fits ha
  have sb : Sm b := sm_fits hb
  walk_at "ret"
  simp only [ruleB, dec_rvi]
abbrev s_division_rules : Stmt := top 130
abbrev N_division_rules : List Str := ["terms", "a", "b"]
theorem sc_division_rules : FnScope N_division_rules ["terms", "a", "b"] (defScope s_division_rules) := ⟨rfl, rfl, rfl, by decide +kernel, rfl, by decide +kernel, by decide +kernel⟩
theorem ok_division_rules (T : Txt w K mg) (D0 : DefAtN K mg "division_rules" "_division" s_division_rules) (c_plus : Cal P w K mg base CX0 2 "plus" ["terms", "a", "b"] (Pu (R_plus K))) (c_quotient : Cal P w K mg base CX0 3 "quotient" ["terms", "a", "b"] (Pu (R_quotient K))) (c_rest : Cal P w K mg base CX0 3 "rest" ["terms", "a", "b"] (Pu (R_rest K))) (c_times : Cal P w K mg base CX0 2 "times" ["terms", "a", "b"] (Pu (R_times K)))  : Cal P w K mg base CX0 4 "division_rules" ["terms", "a", "b"] (Pu (R_division_rules K)) := by
  refine D0.cal sc_division_rules (fun vs H Q E h => by obtain ⟨v, ⟨_, _, _, _, rfl, _⟩, _⟩ := h; rfl) (fun _ _ _ _ _ _ us hl => match us, hl with | [_, _, _], _ => rfl) (fun f cdv A outer s H vs Q E hr h => ?_)
  obtain ⟨v, ⟨q, f, a, b, rfl, hq, ha, hb, rfl⟩, k⟩ := h
  have hu := hu_of hr
  refine ⟨_, (pss_cons (ps_if (pt_cmpR op_eq (pv 2) pe_int (nomark _)) (pss_one (ps_ret pe_bl)) pss_nil)
      (pss_one (ps_ret (pe_cmpR op_eq (pe_own c_plus (hr.mono (by decide)) rfl pass0 (pa_cons (pv 0) (pa_cons (pe_own c_times (hr.mono (by decide)) rfl pass0 (pa_cons (pv 0) (pa_cons (pe_own c_quotient (hr.mono (by decide)) rfl pass0 (pa_cons (pv 0) (pa_cons (pv 1) (pa_cons (pv 2) pa_nil)))) (pa_cons (pv 2) pa_nil)))) (pa_cons (pe_own c_rest (hr.mono (by decide)) rfl pass0 (pa_cons (pv 0) (pa_cons (pv 1) (pa_cons (pv 2) pa_nil)))) pa_nil)))) (pv 1) (nomark _))))), bl_go ?_⟩
  have sa : Sm a := sm_fits ha
  have sb : Sm b := sm_fits hb
  walk_at "if"
  · intro h
    walk_at "ret"
    rw [dec_i, decide_eq_true_eq] at h
    simp only [ruleB, decide_eq_true h, Bool.true_or]
  intro h
  rw [dec_i, decide_eq_false_iff_not] at h
  walk_at "ret"
  simp only [ruleB, dec_rvi, decide_eq_false h, Bool.false_or]
abbrev s_remainder_range_rules : Stmt := top 132
abbrev N_remainder_range_rules : List Str := ["terms", "a", "b", "left"]
theorem sc_remainder_range_rules : FnScope N_remainder_range_rules ["terms", "a", "b"] (defScope s_remainder_range_rules) := ⟨rfl, rfl, rfl, by decide +kernel, rfl, by decide +kernel, by decide +kernel⟩
theorem ok_remainder_range_rules (T : Txt w K mg) (D0 : DefAtN K mg "remainder_range_rules" "_remainder_range" s_remainder_range_rules) (c__at_most : Cal P w K mg base CX0 1 "_at_most" ["a", "b"] (Pu (R__at_most K))) (c__below : Cal P w K mg base CX0 1 "_below" ["a", "b"] (Pu (R__below K))) (c_rest : Cal P w K mg base CX0 3 "rest" ["terms", "a", "b"] (Pu (R_rest K)))  : Cal P w K mg base CX0 4 "remainder_range_rules" ["terms", "a", "b"] (Pu (R_remainder_range_rules K)) := by
  refine D0.cal sc_remainder_range_rules (fun vs H Q E h => by obtain ⟨v, ⟨_, _, _, _, rfl, _⟩, _⟩ := h; rfl) (fun _ _ _ _ _ _ us hl => match us, hl with | [_, _, _], _ => rfl) (fun f cdv A outer s H vs Q E hr h => ?_)
  obtain ⟨v, ⟨q, f, a, b, rfl, hq, ha, hb, rfl⟩, k⟩ := h
  have hu := hu_of hr
  refine ⟨_, (pss_cons (ps_if (pt_cmpR op_eq (pv 2) pe_int (nomark _)) (pss_one (ps_ret pe_bl)) pss_nil)
      (pss_cons (ps_set (i := 3) sc_remainder_range_rules.nd rfl (Or.inl rfl) (pe_own c_rest (hr.mono (by decide)) rfl pass0 (pa_cons (pv 0) (pa_cons (pv 1) (pa_cons (pv 2) pa_nil)))))
      (pss_one (ps_ret (pe_and (pe_own c__at_most (hr.mono (by decide)) rfl pass0 (pa_cons pe_int (pa_cons (pv 3) pa_nil))) (pe_one (pe_own c__below (hr.mono (by decide)) rfl pass0 (pa_cons (pv 3) (pa_cons (pe_callB call_abs (by rfl) T.n_abs (by decide +kernel) (pa_cons (pv 2) pa_nil)) pa_nil))))))))), bl_go ?_⟩
  have sa : Sm a := sm_fits ha
  have sb : Sm b := sm_fits hb
  walk_at "if"
  · intro h
    walk_at "ret"
    rw [dec_i, decide_eq_true_eq] at h
    simp only [ruleB, decide_eq_true h, Bool.true_or]
  intro h
  rw [dec_i, decide_eq_false_iff_not] at h
  walk_at "set"
  walk_at "ret"
  simp only [ruleB, decide_eq_false h, Bool.false_or]
abbrev s_negated_quotient_rules : Stmt := top 134
abbrev N_negated_quotient_rules : List Str := ["terms", "a", "b"]
theorem sc_negated_quotient_rules : FnScope N_negated_quotient_rules ["terms", "a", "b"] (defScope s_negated_quotient_rules) := ⟨rfl, rfl, rfl, by decide +kernel, rfl, by decide +kernel, by decide +kernel⟩
theorem ok_negated_quotient_rules (T : Txt w K mg) (D0 : DefAtN K mg "negated_quotient_rules" "_negated_quotient" s_negated_quotient_rules) (c_opposite : Cal P w K mg base CX0 2 "opposite" ["terms", "a"] (Pu (R_opposite K))) (c_quotient : Cal P w K mg base CX0 3 "quotient" ["terms", "a", "b"] (Pu (R_quotient K)))  : Cal P w K mg base CX0 4 "negated_quotient_rules" ["terms", "a", "b"] (Pu (R_negated_quotient_rules K)) := by
  refine D0.cal sc_negated_quotient_rules (fun vs H Q E h => by obtain ⟨v, ⟨_, _, _, _, rfl, _⟩, _⟩ := h; rfl) (fun _ _ _ _ _ _ us hl => match us, hl with | [_, _, _], _ => rfl) (fun f cdv A outer s H vs Q E hr h => ?_)
  obtain ⟨v, ⟨q, f, a, b, rfl, hq, ha, hb, rfl⟩, k⟩ := h
  have hu := hu_of hr
  refine ⟨_, (pss_cons (ps_if (pt_cmpR op_eq (pv 2) pe_int (nomark _)) (pss_one (ps_ret pe_bl)) pss_nil)
      (pss_one (ps_ret (pe_cmpR op_eq (pe_own c_quotient (hr.mono (by decide)) rfl pass0 (pa_cons (pv 0) (pa_cons (pe_own c_opposite (hr.mono (by decide)) rfl pass0 (pa_cons (pv 0) (pa_cons (pv 1) pa_nil))) (pa_cons (pv 2) pa_nil)))) (pe_own c_opposite (hr.mono (by decide)) rfl pass0 (pa_cons (pv 0) (pa_cons (pe_own c_quotient (hr.mono (by decide)) rfl pass0 (pa_cons (pv 0) (pa_cons (pv 1) (pa_cons (pv 2) pa_nil)))) pa_nil))) (nomark _))))), bl_go ?_⟩
  have sa : Sm a := sm_fits ha
  have sb : Sm b := sm_fits hb
  walk_at "if"
  · intro h
    walk_at "ret"
    rw [dec_i, decide_eq_true_eq] at h
    simp only [ruleB, decide_eq_true h, Bool.true_or]
  intro h
  rw [dec_i, decide_eq_false_iff_not] at h
  walk_at "ret"
  simp only [ruleB, dec_rv, decide_eq_false h, Bool.false_or]
abbrev s_shift_rules : Stmt := top 136
abbrev N_shift_rules : List Str := ["terms", "a"]
theorem sc_shift_rules : FnScope N_shift_rules ["terms", "a"] (defScope s_shift_rules) := ⟨rfl, rfl, rfl, by decide +kernel, rfl, by decide +kernel, by decide +kernel⟩
theorem ok_shift_rules (T : Txt w K mg) (D0 : DefAtN K mg "shift_rules" "_shift" s_shift_rules) (c_quotient : Cal P w K mg base CX0 3 "quotient" ["terms", "a", "b"] (Pu (R_quotient K)))  : Cal P w K mg base CX0 4 "shift_rules" ["terms", "a"] (Pu (R_shift_rules K)) := by
  refine D0.cal sc_shift_rules (fun vs H Q E h => by obtain ⟨v, ⟨_, _, _, rfl, _⟩, _⟩ := h; rfl) (fun _ _ _ _ _ _ us hl => match us, hl with | [_, _], _ => rfl) (fun f cdv A outer s H vs Q E hr h => ?_)
  obtain ⟨v, ⟨q, f, a, rfl, hq, ha, rfl⟩, k⟩ := h
  have hu := hu_of hr
  refine ⟨_, (pss_one (ps_ret (pe_cmpR op_eq (pe_own c_quotient (hr.mono (by decide)) rfl pass0 (pa_cons (pv 0) (pa_cons (pv 1) (pa_cons pe_int pa_nil)))) (pe_op op_fdivB (pv 1) pe_int) (nomark _)))), bl_go ?_⟩
  have sa : Sm a := sm_fits ha
  have d2 : CDivB a 2 := sm_div (show (2 : Int).natAbs < 2 ^ 70 by decide) (by decide)
  walk_at "ret"
  simp only [ruleB, dec_rvi]
abbrev s_absolute_value_rules : Stmt := top 138
abbrev N_absolute_value_rules : List Str := ["terms", "a"]
theorem sc_absolute_value_rules : FnScope N_absolute_value_rules ["terms", "a"] (defScope s_absolute_value_rules) := ⟨rfl, rfl, rfl, by decide +kernel, rfl, by decide +kernel, by decide +kernel⟩
theorem ok_absolute_value_rules (T : Txt w K mg) (D0 : DefAtN K mg "absolute_value_rules" "_absolute_value" s_absolute_value_rules) (c__at_most : Cal P w K mg base CX0 1 "_at_most" ["a", "b"] (Pu (R__at_most K))) (c_opposite : Cal P w K mg base CX0 2 "opposite" ["terms", "a"] (Pu (R_opposite K)))  : Cal P w K mg base CX0 3 "absolute_value_rules" ["terms", "a"] (Pu (R_absolute_value_rules K)) := by
  refine D0.cal sc_absolute_value_rules (fun vs H Q E h => by obtain ⟨v, ⟨_, _, _, rfl, _⟩, _⟩ := h; rfl) (fun _ _ _ _ _ _ us hl => match us, hl with | [_, _], _ => rfl) (fun f cdv A outer s H vs Q E hr h => ?_)
  obtain ⟨v, ⟨q, f, a, rfl, hq, ha, rfl⟩, k⟩ := h
  have hu := hu_of hr
  refine ⟨_, (pss_one (ps_ret (pe_own c__at_most (hr.mono (by decide)) rfl pass0 (pa_cons pe_int (pa_cons (pe_ifExp (pt_cmpR op_ge (pv 1) pe_int (nomark _)) (pv 1) (pe_own c_opposite (hr.mono (by decide)) rfl pass0 (pa_cons (pv 0) (pa_cons (pv 1) pa_nil)))) pa_nil))))), bl_go ?_⟩
  have sa : Sm a := sm_fits ha
  walk_at "ret"
  simp only [ruleB, decide_eq_true_eq]
  try rfl
abbrev s_order_by_difference_rules : Stmt := top 140
abbrev N_order_by_difference_rules : List Str := ["terms", "a", "b", "difference"]
theorem sc_order_by_difference_rules : FnScope N_order_by_difference_rules ["terms", "a", "b"] (defScope s_order_by_difference_rules) := ⟨rfl, rfl, rfl, by decide +kernel, rfl, by decide +kernel, by decide +kernel⟩
theorem ok_order_by_difference_rules (T : Txt w K mg) (D0 : DefAtN K mg "order_by_difference_rules" "_order_by_difference" s_order_by_difference_rules) (c_minus : Cal P w K mg base CX0 2 "minus" ["terms", "a", "b"] (Pu (R_minus K)))  : Cal P w K mg base CX0 3 "order_by_difference_rules" ["terms", "a", "b"] (Pu (R_order_by_difference_rules K)) := by
  refine D0.cal sc_order_by_difference_rules (fun vs H Q E h => by obtain ⟨v, ⟨_, _, _, _, rfl, _⟩, _⟩ := h; rfl) (fun _ _ _ _ _ _ us hl => match us, hl with | [_, _, _], _ => rfl) (fun f cdv A outer s H vs Q E hr h => ?_)
  obtain ⟨v, ⟨q, f, a, b, rfl, hq, ha, hb, rfl⟩, k⟩ := h
  have hu := hu_of hr
  refine ⟨_, (pss_cons (ps_set (i := 3) sc_order_by_difference_rules.nd rfl (Or.inl rfl) (pe_own c_minus (hr.mono (by decide)) rfl pass0 (pa_cons (pv 0) (pa_cons (pv 1) (pa_cons (pv 2) pa_nil)))))
      (pss_cons (ps_if (pt_cmpR op_eq (pv 3) (pe_globS rfl T.g_TRAP) (nomark _)) (pss_one (ps_ret pe_bl)) pss_nil)
      (pss_one (ps_ret (pe_cmpR op_eq (pe_cmpR op_lt (pv 1) (pv 2) (nomark _)) (pe_cmpR op_lt (pv 3) pe_int (nomark _)) (nomark _)))))), bl_go ?_⟩
  have sa : Sm a := sm_fits ha
  have sb : Sm b := sm_fits hb
  walk_at "set"
  simp only [ruleB] at k
  generalize subO f (some a) (some b) = z at k ⊢
  cases z with
  | none =>
    walk_at "yes"
    walk_at "ret"
    rfl
  | some z =>
    walk_at "no"
    walk_at "ret"
    rw [dec_b]
    rfl
abbrev s_monotone_sum_rules : Stmt := top 142
abbrev N_monotone_sum_rules : List Str := ["terms", "a", "b", "c"]
theorem sc_monotone_sum_rules : FnScope N_monotone_sum_rules ["terms", "a", "b", "c"] (defScope s_monotone_sum_rules) := ⟨rfl, rfl, rfl, by decide +kernel, rfl, by decide +kernel, by decide +kernel⟩
theorem ok_monotone_sum_rules (T : Txt w K mg) (D0 : DefAtN K mg "monotone_sum_rules" "_monotone_sum" s_monotone_sum_rules) (c__at_most : Cal P w K mg base CX0 1 "_at_most" ["a", "b"] (Pu (R__at_most K))) (c_plus : Cal P w K mg base CX0 2 "plus" ["terms", "a", "b"] (Pu (R_plus K)))  : Cal P w K mg base CX0 3 "monotone_sum_rules" ["terms", "a", "b", "c"] (Pu (R_monotone_sum_rules K)) := by
  refine D0.cal sc_monotone_sum_rules (fun vs H Q E h => by obtain ⟨v, ⟨_, _, _, _, _, rfl, _⟩, _⟩ := h; rfl) (fun _ _ _ _ _ _ us hl => match us, hl with | [_, _, _, _], _ => rfl) (fun f cdv A outer s H vs Q E hr h => ?_)
  obtain ⟨v, ⟨q, f, a, b, c, rfl, hq, ha, hb, hc, rfl⟩, k⟩ := h
  have hu := hu_of hr
  refine ⟨_, (pss_one (ps_ret (pe_or (pe_cmpR op_gt (pv 1) (pv 2) (nomark _)) (pe_one (pe_own c__at_most (hr.mono (by decide)) rfl pass0 (pa_cons (pe_own c_plus (hr.mono (by decide)) rfl pass0 (pa_cons (pv 0) (pa_cons (pv 1) (pa_cons (pv 3) pa_nil)))) (pa_cons (pe_own c_plus (hr.mono (by decide)) rfl pass0 (pa_cons (pv 0) (pa_cons (pv 2) (pa_cons (pv 3) pa_nil)))) pa_nil))))))), bl_go ?_⟩
  have sa : Sm a := sm_fits ha
  have sb : Sm b := sm_fits hb
  have sc : Sm c := sm_fits hc
  walk_at "ret"
  simp only [ruleB]
  try rfl
abbrev s_average_rules : Stmt := top 144
abbrev N_average_rules : List Str := ["terms", "a", "b", "middle"]
theorem sc_average_rules : FnScope N_average_rules ["terms", "a", "b"] (defScope s_average_rules) := ⟨rfl, rfl, rfl, by decide +kernel, rfl, by decide +kernel, by decide +kernel⟩
theorem ok_average_rules (T : Txt w K mg) (D0 : DefAtN K mg "average_rules" "_average" s_average_rules) (c__at_most : Cal P w K mg base CX0 1 "_at_most" ["a", "b"] (Pu (R__at_most K))) (c_minus : Cal P w K mg base CX0 2 "minus" ["terms", "a", "b"] (Pu (R_minus K))) (c_plus : Cal P w K mg base CX0 2 "plus" ["terms", "a", "b"] (Pu (R_plus K))) (c_quotient : Cal P w K mg base CX0 3 "quotient" ["terms", "a", "b"] (Pu (R_quotient K)))  : Cal P w K mg base CX0 4 "average_rules" ["terms", "a", "b"] (Pu (R_average_rules K)) := by
  refine D0.cal sc_average_rules (fun vs H Q E h => by obtain ⟨v, ⟨_, _, _, _, rfl, _⟩, _⟩ := h; rfl) (fun _ _ _ _ _ _ us hl => match us, hl with | [_, _, _], _ => rfl) (fun f cdv A outer s H vs Q E hr h => ?_)
  obtain ⟨v, ⟨q, f, a, b, rfl, hq, ha, hb, rfl⟩, k⟩ := h
  have hu := hu_of hr
  refine ⟨_, (pss_cons (ps_if (pt_cmpR op_gt (pv 1) (pv 2) (nomark _)) (pss_one (ps_ret pe_bl)) pss_nil)
      (pss_cons (ps_set (i := 3) sc_average_rules.nd rfl (Or.inl rfl) (pe_own c_plus (hr.mono (by decide)) rfl pass0 (pa_cons (pv 0) (pa_cons (pv 1) (pa_cons (pe_own c_quotient (hr.mono (by decide)) rfl pass0 (pa_cons (pv 0) (pa_cons (pe_own c_minus (hr.mono (by decide)) rfl pass0 (pa_cons (pv 0) (pa_cons (pv 2) (pa_cons (pv 1) pa_nil)))) (pa_cons pe_int pa_nil)))) pa_nil)))))
      (pss_one (ps_ret (pe_and (pe_own c__at_most (hr.mono (by decide)) rfl pass0 (pa_cons (pv 1) (pa_cons (pv 3) pa_nil))) (pe_one (pe_own c__at_most (hr.mono (by decide)) rfl pass0 (pa_cons (pv 3) (pa_cons (pv 2) pa_nil))))))))), bl_go ?_⟩
  have sa : Sm a := sm_fits ha
  have sb : Sm b := sm_fits hb
  walk_at "if"
  · intro h
    walk_at "ret"
    rw [decide_eq_true_eq] at h
    simp only [ruleB, decide_eq_true (show b < a from h), Bool.true_or]
  intro h
  rw [decide_eq_false_iff_not] at h
  walk_at "set"
  walk_at "ret"
  simp only [ruleB, decide_eq_false (show ¬ b < a from h), Bool.false_or]
abbrev s_square_rules : Stmt := top 146
abbrev N_square_rules : List Str := ["terms", "a"]
theorem sc_square_rules : FnScope N_square_rules ["terms", "a"] (defScope s_square_rules) := ⟨rfl, rfl, rfl, by decide +kernel, rfl, by decide +kernel, by decide +kernel⟩
theorem ok_square_rules (T : Txt w K mg) (D0 : DefAtN K mg "square_rules" "_square" s_square_rules) (c__at_most : Cal P w K mg base CX0 1 "_at_most" ["a", "b"] (Pu (R__at_most K))) (c_times : Cal P w K mg base CX0 2 "times" ["terms", "a", "b"] (Pu (R_times K)))  : Cal P w K mg base CX0 3 "square_rules" ["terms", "a"] (Pu (R_square_rules K)) := by
  refine D0.cal sc_square_rules (fun vs H Q E h => by obtain ⟨v, ⟨_, _, _, rfl, _⟩, _⟩ := h; rfl) (fun _ _ _ _ _ _ us hl => match us, hl with | [_, _], _ => rfl) (fun f cdv A outer s H vs Q E hr h => ?_)
  obtain ⟨v, ⟨q, f, a, rfl, hq, ha, rfl⟩, k⟩ := h
  have hu := hu_of hr
  refine ⟨_, (pss_one (ps_ret (pe_own c__at_most (hr.mono (by decide)) rfl pass0 (pa_cons pe_int (pa_cons (pe_own c_times (hr.mono (by decide)) rfl pass0 (pa_cons (pv 0) (pa_cons (pv 1) (pa_cons (pv 1) pa_nil)))) pa_nil))))), bl_go ?_⟩
  have sa : Sm a := sm_fits ha
  walk_at "ret"
  simp only [ruleB]
abbrev s_zero_product_rules : Stmt := top 148
abbrev N_zero_product_rules : List Str := ["terms", "a", "b"]
theorem sc_zero_product_rules : FnScope N_zero_product_rules ["terms", "a", "b"] (defScope s_zero_product_rules) := ⟨rfl, rfl, rfl, by decide +kernel, rfl, by decide +kernel, by decide +kernel⟩
theorem ok_zero_product_rules (T : Txt w K mg) (D0 : DefAtN K mg "zero_product_rules" "_zero_product" s_zero_product_rules) (c_times : Cal P w K mg base CX0 2 "times" ["terms", "a", "b"] (Pu (R_times K)))  : Cal P w K mg base CX0 3 "zero_product_rules" ["terms", "a", "b"] (Pu (R_zero_product_rules K)) := by
  refine D0.cal sc_zero_product_rules (fun vs H Q E h => by obtain ⟨v, ⟨_, _, _, _, rfl, _⟩, _⟩ := h; rfl) (fun _ _ _ _ _ _ us hl => match us, hl with | [_, _, _], _ => rfl) (fun f cdv A outer s H vs Q E hr h => ?_)
  obtain ⟨v, ⟨q, f, a, b, rfl, hq, ha, hb, rfl⟩, k⟩ := h
  have hu := hu_of hr
  refine ⟨_, (pss_one (ps_ret (pe_or (pe_cmpR op_eq (pv 1) pe_int (nomark _)) (pe_or (pe_cmpR op_eq (pv 2) pe_int (nomark _)) (pe_one (pe_cmpR op_ne (pe_own c_times (hr.mono (by decide)) rfl pass0 (pa_cons (pv 0) (pa_cons (pv 1) (pa_cons (pv 2) pa_nil)))) pe_int (nomark _))))))), bl_go ?_⟩
  have sa : Sm a := sm_fits ha
  have sb : Sm b := sm_fits hb
  walk_at "ret"
  simp only [ruleB, dec_i, dec_rvi, dec_not, Bool.or_assoc, ne_eq]
abbrev s_cancellation_rules : Stmt := top 150
abbrev N_cancellation_rules : List Str := ["terms", "a", "b", "c"]
theorem sc_cancellation_rules : FnScope N_cancellation_rules ["terms", "a", "b", "c"] (defScope s_cancellation_rules) := ⟨rfl, rfl, rfl, by decide +kernel, rfl, by decide +kernel, by decide +kernel⟩
theorem ok_cancellation_rules (T : Txt w K mg) (D0 : DefAtN K mg "cancellation_rules" "_cancellation" s_cancellation_rules) (c_times : Cal P w K mg base CX0 2 "times" ["terms", "a", "b"] (Pu (R_times K)))  : Cal P w K mg base CX0 3 "cancellation_rules" ["terms", "a", "b", "c"] (Pu (R_cancellation_rules K)) := by
  refine D0.cal sc_cancellation_rules (fun vs H Q E h => by obtain ⟨v, ⟨_, _, _, _, _, rfl, _⟩, _⟩ := h; rfl) (fun _ _ _ _ _ _ us hl => match us, hl with | [_, _, _, _], _ => rfl) (fun f cdv A outer s H vs Q E hr h => ?_)
  obtain ⟨v, ⟨q, f, a, b, c, rfl, hq, ha, hb, hc, rfl⟩, k⟩ := h
  have hu := hu_of hr
  refine ⟨_, (pss_one (ps_ret (pe_or (pe_cmpR op_eq (pv 1) pe_int (nomark _)) (pe_or (pe_cmpR op_eq (pv 2) (pv 3) (nomark _)) (pe_one (pe_cmpR op_ne (pe_own c_times (hr.mono (by decide)) rfl pass0 (pa_cons (pv 0) (pa_cons (pv 1) (pa_cons (pv 2) pa_nil)))) (pe_own c_times (hr.mono (by decide)) rfl pass0 (pa_cons (pv 0) (pa_cons (pv 1) (pa_cons (pv 3) pa_nil)))) (nomark _))))))), bl_go ?_⟩
  have sa : Sm a := sm_fits ha
  have sb : Sm b := sm_fits hb
  have sc : Sm c := sm_fits hc
  walk_at "ret"
  simp only [ruleB, dec_i, dec_rv, dec_not, Bool.or_assoc, ne_eq]
  rw [Bool.or_comm (decide (b = c))]
def R_rule (K : PySem.W.Frag) (r : Rl) : List V → Hp → V → Prop := fun vs H v => ∃ (q : Addr) (f : Fmt) (xs : List Int), vs = .ref q :: xs.map V.int ∧ SqT K H q (tV f) ∧ xs.length = r.ar ∧ (∀ x ∈ xs, fits f x) ∧ v = .bl (ruleL f r xs)
def fam_CHECKS (K : PySem.W.Frag) : V → Sp → Prop := fun y sp => ∃ r : Rl, y = .ref (He.ga K (nm_CHECKS r)) ∧ sp = Pu (R_rule K r)
theorem famOk_CHECKS (g_sum_grouping_rules : mg "sum_grouping_rules" = some (.ref (He.ga K "sum_grouping_rules"))) (g_product_grouping_rules : mg "product_grouping_rules" = some (.ref (He.ga K "product_grouping_rules"))) (g_distribution_rules : mg "distribution_rules" = some (.ref (He.ga K "distribution_rules"))) (g_double_negation_rules : mg "double_negation_rules" = some (.ref (He.ga K "double_negation_rules"))) (g_difference_rules : mg "difference_rules" = some (.ref (He.ga K "difference_rules"))) (g_add_back_rules : mg "add_back_rules" = some (.ref (He.ga K "add_back_rules"))) (g_division_rules : mg "division_rules" = some (.ref (He.ga K "division_rules"))) (g_remainder_range_rules : mg "remainder_range_rules" = some (.ref (He.ga K "remainder_range_rules"))) (g_negated_quotient_rules : mg "negated_quotient_rules" = some (.ref (He.ga K "negated_quotient_rules"))) (g_shift_rules : mg "shift_rules" = some (.ref (He.ga K "shift_rules"))) (g_absolute_value_rules : mg "absolute_value_rules" = some (.ref (He.ga K "absolute_value_rules"))) (g_order_by_difference_rules : mg "order_by_difference_rules" = some (.ref (He.ga K "order_by_difference_rules"))) (g_monotone_sum_rules : mg "monotone_sum_rules" = some (.ref (He.ga K "monotone_sum_rules"))) (g_average_rules : mg "average_rules" = some (.ref (He.ga K "average_rules"))) (g_square_rules : mg "square_rules" = some (.ref (He.ga K "square_rules"))) (g_zero_product_rules : mg "zero_product_rules" = some (.ref (He.ga K "zero_product_rules"))) (g_cancellation_rules : mg "cancellation_rules" = some (.ref (He.ga K "cancellation_rules"))) (c_sum_grouping_rules : Cal P w K mg base CX0 3 "sum_grouping_rules" ["terms", "a", "b", "c"] (Pu (R_sum_grouping_rules K))) (c_product_grouping_rules : Cal P w K mg base CX0 3 "product_grouping_rules" ["terms", "a", "b", "c"] (Pu (R_product_grouping_rules K))) (c_distribution_rules : Cal P w K mg base CX0 3 "distribution_rules" ["terms", "a", "b", "c"] (Pu (R_distribution_rules K))) (c_double_negation_rules : Cal P w K mg base CX0 3 "double_negation_rules" ["terms", "a"] (Pu (R_double_negation_rules K))) (c_difference_rules : Cal P w K mg base CX0 3 "difference_rules" ["terms", "a", "b"] (Pu (R_difference_rules K))) (c_add_back_rules : Cal P w K mg base CX0 3 "add_back_rules" ["terms", "a", "b"] (Pu (R_add_back_rules K))) (c_division_rules : Cal P w K mg base CX0 4 "division_rules" ["terms", "a", "b"] (Pu (R_division_rules K))) (c_remainder_range_rules : Cal P w K mg base CX0 4 "remainder_range_rules" ["terms", "a", "b"] (Pu (R_remainder_range_rules K))) (c_negated_quotient_rules : Cal P w K mg base CX0 4 "negated_quotient_rules" ["terms", "a", "b"] (Pu (R_negated_quotient_rules K))) (c_shift_rules : Cal P w K mg base CX0 4 "shift_rules" ["terms", "a"] (Pu (R_shift_rules K))) (c_absolute_value_rules : Cal P w K mg base CX0 3 "absolute_value_rules" ["terms", "a"] (Pu (R_absolute_value_rules K))) (c_order_by_difference_rules : Cal P w K mg base CX0 3 "order_by_difference_rules" ["terms", "a", "b"] (Pu (R_order_by_difference_rules K))) (c_monotone_sum_rules : Cal P w K mg base CX0 3 "monotone_sum_rules" ["terms", "a", "b", "c"] (Pu (R_monotone_sum_rules K))) (c_average_rules : Cal P w K mg base CX0 4 "average_rules" ["terms", "a", "b"] (Pu (R_average_rules K))) (c_square_rules : Cal P w K mg base CX0 3 "square_rules" ["terms", "a"] (Pu (R_square_rules K))) (c_zero_product_rules : Cal P w K mg base CX0 3 "zero_product_rules" ["terms", "a", "b"] (Pu (R_zero_product_rules K))) (c_cancellation_rules : Cal P w K mg base CX0 3 "cancellation_rules" ["terms", "a", "b", "c"] (Pu (R_cancellation_rules K))) : FamOk P w K mg base CX0 4 (fam_CHECKS K) := by
  rintro y sp ⟨r, rfl, rfl⟩
  cases r
  · obtain ⟨g, hm, F, hk⟩ := c_sum_grouping_rules.raw
    rw [g_sum_grouping_rules] at hm
    cases hm
    refine ⟨_, rfl, (F.mono (by decide)).imp fun vs H Q E h => ?_, hk⟩
    obtain ⟨v, ⟨q, f, xs, rfl, hq, hl, hx, rfl⟩, k⟩ := h
    rcases shape hl with ⟨a, b, c, rfl, h3⟩ | ⟨a, b, rfl, h3⟩ | ⟨a, rfl, h3⟩
    · exact ⟨_, ⟨q, f, a, b, c, rfl, hq, hx a (List.mem_cons_self ..), hx b (List.mem_cons_of_mem _ (List.mem_cons_self ..)), hx c (List.mem_cons_of_mem _ (List.mem_cons_of_mem _ (List.mem_cons_self ..))), rfl⟩, k⟩
    · cases h3
    · cases h3
  · obtain ⟨g, hm, F, hk⟩ := c_product_grouping_rules.raw
    rw [g_product_grouping_rules] at hm
    cases hm
    refine ⟨_, rfl, (F.mono (by decide)).imp fun vs H Q E h => ?_, hk⟩
    obtain ⟨v, ⟨q, f, xs, rfl, hq, hl, hx, rfl⟩, k⟩ := h
    rcases shape hl with ⟨a, b, c, rfl, h3⟩ | ⟨a, b, rfl, h3⟩ | ⟨a, rfl, h3⟩
    · exact ⟨_, ⟨q, f, a, b, c, rfl, hq, hx a (List.mem_cons_self ..), hx b (List.mem_cons_of_mem _ (List.mem_cons_self ..)), hx c (List.mem_cons_of_mem _ (List.mem_cons_of_mem _ (List.mem_cons_self ..))), rfl⟩, k⟩
    · cases h3
    · cases h3
  · obtain ⟨g, hm, F, hk⟩ := c_distribution_rules.raw
    rw [g_distribution_rules] at hm
    cases hm
    refine ⟨_, rfl, (F.mono (by decide)).imp fun vs H Q E h => ?_, hk⟩
    obtain ⟨v, ⟨q, f, xs, rfl, hq, hl, hx, rfl⟩, k⟩ := h
    rcases shape hl with ⟨a, b, c, rfl, h3⟩ | ⟨a, b, rfl, h3⟩ | ⟨a, rfl, h3⟩
    · exact ⟨_, ⟨q, f, a, b, c, rfl, hq, hx a (List.mem_cons_self ..), hx b (List.mem_cons_of_mem _ (List.mem_cons_self ..)), hx c (List.mem_cons_of_mem _ (List.mem_cons_of_mem _ (List.mem_cons_self ..))), rfl⟩, k⟩
    · cases h3
    · cases h3
  · obtain ⟨g, hm, F, hk⟩ := c_double_negation_rules.raw
    rw [g_double_negation_rules] at hm
    cases hm
    refine ⟨_, rfl, (F.mono (by decide)).imp fun vs H Q E h => ?_, hk⟩
    obtain ⟨v, ⟨q, f, xs, rfl, hq, hl, hx, rfl⟩, k⟩ := h
    rcases shape hl with ⟨a, b, c, rfl, h3⟩ | ⟨a, b, rfl, h3⟩ | ⟨a, rfl, h3⟩
    · cases h3
    · cases h3
    · exact ⟨_, ⟨q, f, a, rfl, hq, hx a (List.mem_cons_self ..), rfl⟩, k⟩
  · obtain ⟨g, hm, F, hk⟩ := c_difference_rules.raw
    rw [g_difference_rules] at hm
    cases hm
    refine ⟨_, rfl, (F.mono (by decide)).imp fun vs H Q E h => ?_, hk⟩
    obtain ⟨v, ⟨q, f, xs, rfl, hq, hl, hx, rfl⟩, k⟩ := h
    rcases shape hl with ⟨a, b, c, rfl, h3⟩ | ⟨a, b, rfl, h3⟩ | ⟨a, rfl, h3⟩
    · cases h3
    · exact ⟨_, ⟨q, f, a, b, rfl, hq, hx a (List.mem_cons_self ..), hx b (List.mem_cons_of_mem _ (List.mem_cons_self ..)), rfl⟩, k⟩
    · cases h3
  · obtain ⟨g, hm, F, hk⟩ := c_add_back_rules.raw
    rw [g_add_back_rules] at hm
    cases hm
    refine ⟨_, rfl, (F.mono (by decide)).imp fun vs H Q E h => ?_, hk⟩
    obtain ⟨v, ⟨q, f, xs, rfl, hq, hl, hx, rfl⟩, k⟩ := h
    rcases shape hl with ⟨a, b, c, rfl, h3⟩ | ⟨a, b, rfl, h3⟩ | ⟨a, rfl, h3⟩
    · cases h3
    · exact ⟨_, ⟨q, f, a, b, rfl, hq, hx a (List.mem_cons_self ..), hx b (List.mem_cons_of_mem _ (List.mem_cons_self ..)), rfl⟩, k⟩
    · cases h3
  · obtain ⟨g, hm, F, hk⟩ := c_division_rules.raw
    rw [g_division_rules] at hm
    cases hm
    refine ⟨_, rfl, (F.mono (by decide)).imp fun vs H Q E h => ?_, hk⟩
    obtain ⟨v, ⟨q, f, xs, rfl, hq, hl, hx, rfl⟩, k⟩ := h
    rcases shape hl with ⟨a, b, c, rfl, h3⟩ | ⟨a, b, rfl, h3⟩ | ⟨a, rfl, h3⟩
    · cases h3
    · exact ⟨_, ⟨q, f, a, b, rfl, hq, hx a (List.mem_cons_self ..), hx b (List.mem_cons_of_mem _ (List.mem_cons_self ..)), rfl⟩, k⟩
    · cases h3
  · obtain ⟨g, hm, F, hk⟩ := c_remainder_range_rules.raw
    rw [g_remainder_range_rules] at hm
    cases hm
    refine ⟨_, rfl, (F.mono (by decide)).imp fun vs H Q E h => ?_, hk⟩
    obtain ⟨v, ⟨q, f, xs, rfl, hq, hl, hx, rfl⟩, k⟩ := h
    rcases shape hl with ⟨a, b, c, rfl, h3⟩ | ⟨a, b, rfl, h3⟩ | ⟨a, rfl, h3⟩
    · cases h3
    · exact ⟨_, ⟨q, f, a, b, rfl, hq, hx a (List.mem_cons_self ..), hx b (List.mem_cons_of_mem _ (List.mem_cons_self ..)), rfl⟩, k⟩
    · cases h3
  · obtain ⟨g, hm, F, hk⟩ := c_negated_quotient_rules.raw
    rw [g_negated_quotient_rules] at hm
    cases hm
    refine ⟨_, rfl, (F.mono (by decide)).imp fun vs H Q E h => ?_, hk⟩
    obtain ⟨v, ⟨q, f, xs, rfl, hq, hl, hx, rfl⟩, k⟩ := h
    rcases shape hl with ⟨a, b, c, rfl, h3⟩ | ⟨a, b, rfl, h3⟩ | ⟨a, rfl, h3⟩
    · cases h3
    · exact ⟨_, ⟨q, f, a, b, rfl, hq, hx a (List.mem_cons_self ..), hx b (List.mem_cons_of_mem _ (List.mem_cons_self ..)), rfl⟩, k⟩
    · cases h3
  · obtain ⟨g, hm, F, hk⟩ := c_shift_rules.raw
    rw [g_shift_rules] at hm
    cases hm
    refine ⟨_, rfl, (F.mono (by decide)).imp fun vs H Q E h => ?_, hk⟩
    obtain ⟨v, ⟨q, f, xs, rfl, hq, hl, hx, rfl⟩, k⟩ := h
    rcases shape hl with ⟨a, b, c, rfl, h3⟩ | ⟨a, b, rfl, h3⟩ | ⟨a, rfl, h3⟩
    · cases h3
    · cases h3
    · exact ⟨_, ⟨q, f, a, rfl, hq, hx a (List.mem_cons_self ..), rfl⟩, k⟩
  · obtain ⟨g, hm, F, hk⟩ := c_absolute_value_rules.raw
    rw [g_absolute_value_rules] at hm
    cases hm
    refine ⟨_, rfl, (F.mono (by decide)).imp fun vs H Q E h => ?_, hk⟩
    obtain ⟨v, ⟨q, f, xs, rfl, hq, hl, hx, rfl⟩, k⟩ := h
    rcases shape hl with ⟨a, b, c, rfl, h3⟩ | ⟨a, b, rfl, h3⟩ | ⟨a, rfl, h3⟩
    · cases h3
    · cases h3
    · exact ⟨_, ⟨q, f, a, rfl, hq, hx a (List.mem_cons_self ..), rfl⟩, k⟩
  · obtain ⟨g, hm, F, hk⟩ := c_order_by_difference_rules.raw
    rw [g_order_by_difference_rules] at hm
    cases hm
    refine ⟨_, rfl, (F.mono (by decide)).imp fun vs H Q E h => ?_, hk⟩
    obtain ⟨v, ⟨q, f, xs, rfl, hq, hl, hx, rfl⟩, k⟩ := h
    rcases shape hl with ⟨a, b, c, rfl, h3⟩ | ⟨a, b, rfl, h3⟩ | ⟨a, rfl, h3⟩
    · cases h3
    · exact ⟨_, ⟨q, f, a, b, rfl, hq, hx a (List.mem_cons_self ..), hx b (List.mem_cons_of_mem _ (List.mem_cons_self ..)), rfl⟩, k⟩
    · cases h3
  · obtain ⟨g, hm, F, hk⟩ := c_monotone_sum_rules.raw
    rw [g_monotone_sum_rules] at hm
    cases hm
    refine ⟨_, rfl, (F.mono (by decide)).imp fun vs H Q E h => ?_, hk⟩
    obtain ⟨v, ⟨q, f, xs, rfl, hq, hl, hx, rfl⟩, k⟩ := h
    rcases shape hl with ⟨a, b, c, rfl, h3⟩ | ⟨a, b, rfl, h3⟩ | ⟨a, rfl, h3⟩
    · exact ⟨_, ⟨q, f, a, b, c, rfl, hq, hx a (List.mem_cons_self ..), hx b (List.mem_cons_of_mem _ (List.mem_cons_self ..)), hx c (List.mem_cons_of_mem _ (List.mem_cons_of_mem _ (List.mem_cons_self ..))), rfl⟩, k⟩
    · cases h3
    · cases h3
  · obtain ⟨g, hm, F, hk⟩ := c_average_rules.raw
    rw [g_average_rules] at hm
    cases hm
    refine ⟨_, rfl, (F.mono (by decide)).imp fun vs H Q E h => ?_, hk⟩
    obtain ⟨v, ⟨q, f, xs, rfl, hq, hl, hx, rfl⟩, k⟩ := h
    rcases shape hl with ⟨a, b, c, rfl, h3⟩ | ⟨a, b, rfl, h3⟩ | ⟨a, rfl, h3⟩
    · cases h3
    · exact ⟨_, ⟨q, f, a, b, rfl, hq, hx a (List.mem_cons_self ..), hx b (List.mem_cons_of_mem _ (List.mem_cons_self ..)), rfl⟩, k⟩
    · cases h3
  · obtain ⟨g, hm, F, hk⟩ := c_square_rules.raw
    rw [g_square_rules] at hm
    cases hm
    refine ⟨_, rfl, (F.mono (by decide)).imp fun vs H Q E h => ?_, hk⟩
    obtain ⟨v, ⟨q, f, xs, rfl, hq, hl, hx, rfl⟩, k⟩ := h
    rcases shape hl with ⟨a, b, c, rfl, h3⟩ | ⟨a, b, rfl, h3⟩ | ⟨a, rfl, h3⟩
    · cases h3
    · cases h3
    · exact ⟨_, ⟨q, f, a, rfl, hq, hx a (List.mem_cons_self ..), rfl⟩, k⟩
  · obtain ⟨g, hm, F, hk⟩ := c_zero_product_rules.raw
    rw [g_zero_product_rules] at hm
    cases hm
    refine ⟨_, rfl, (F.mono (by decide)).imp fun vs H Q E h => ?_, hk⟩
    obtain ⟨v, ⟨q, f, xs, rfl, hq, hl, hx, rfl⟩, k⟩ := h
    rcases shape hl with ⟨a, b, c, rfl, h3⟩ | ⟨a, b, rfl, h3⟩ | ⟨a, rfl, h3⟩
    · cases h3
    · exact ⟨_, ⟨q, f, a, b, rfl, hq, hx a (List.mem_cons_self ..), hx b (List.mem_cons_of_mem _ (List.mem_cons_self ..)), rfl⟩, k⟩
    · cases h3
  · obtain ⟨g, hm, F, hk⟩ := c_cancellation_rules.raw
    rw [g_cancellation_rules] at hm
    cases hm
    refine ⟨_, rfl, (F.mono (by decide)).imp fun vs H Q E h => ?_, hk⟩
    obtain ⟨v, ⟨q, f, xs, rfl, hq, hl, hx, rfl⟩, k⟩ := h
    rcases shape hl with ⟨a, b, c, rfl, h3⟩ | ⟨a, b, rfl, h3⟩ | ⟨a, rfl, h3⟩
    · exact ⟨_, ⟨q, f, a, b, c, rfl, hq, hx a (List.mem_cons_self ..), hx b (List.mem_cons_of_mem _ (List.mem_cons_self ..)), hx c (List.mem_cons_of_mem _ (List.mem_cons_of_mem _ (List.mem_cons_self ..))), rfl⟩, k⟩
    · cases h3
    · cases h3
def R_is_rule (K : PySem.W.Frag) : List V → Hp → V → Prop := fun vs H v => ∃ (r : Rl), vs = [.str (rlS r)] ∧ v = .bl true
theorem r_is_rule {K : PySem.W.Frag} {H : Hp} {r : Rl}  : R_is_rule K [.str (rlS r)] H (.bl true) := ⟨_, rfl, rfl⟩
def R_check_rule (K : PySem.W.Frag) : List V → Hp → V → Prop := fun vs H v => ∃ (r : Rl), vs = [.str (rlS r)] ∧ v = V.non
theorem r_check_rule {K : PySem.W.Frag} {H : Hp} {r : Rl}  : R_check_rule K [.str (rlS r)] H (V.non) := ⟨_, rfl, rfl⟩
def R__check_numbers (K : PySem.W.Frag) : List V → Hp → V → Prop := fun vs H v => ∃ (q : Addr) (f : Fmt) (n : Nat) (l : Addr) (xs : List Int), vs = [.ref q, .int (n : Int), .ref l] ∧ (SqT K H q (tV f)) ∧ (SqT K H l (xs.map V.int)) ∧ (xs.length = n) ∧ (n ≤ 3) ∧ (∀ x ∈ xs, fits f x) ∧ v = V.non
theorem r__check_numbers {K : PySem.W.Frag} {H : Hp} {q : Addr} {f : Fmt} {n : Nat} {l : Addr} {xs : List Int} (h0 : SqT K H q (tV f)) (h1 : SqT K H l (xs.map V.int)) (h2 : xs.length = n) (h3 : n ≤ 3) (h4 : ∀ x ∈ xs, fits f x) : R__check_numbers K [.ref q, .int (n : Int), .ref l] H (V.non) := ⟨_, _, _, _, _, rfl, h0, h1, h2, h3, h4, rfl⟩
def R_holds_for (K : PySem.W.Frag) : List V → Hp → V → Prop := fun vs H v => ∃ (p : Addr) (f : Fmt) (r : Rl) (l : Addr) (xs : List Int), vs = [.ref p, .str (rlS r), .ref l] ∧ (SqT K H p (fV f)) ∧ (SqT K H l (xs.map V.int)) ∧ (xs.length = r.ar) ∧ (∀ x ∈ xs, fits f x) ∧ v = .bl (ruleL f r xs)
theorem r_holds_for {K : PySem.W.Frag} {H : Hp} {p : Addr} {f : Fmt} {r : Rl} {l : Addr} {xs : List Int} (h0 : SqT K H p (fV f)) (h1 : SqT K H l (xs.map V.int)) (h2 : xs.length = r.ar) (h3 : ∀ x ∈ xs, fits f x) : R_holds_for K [.ref p, .str (rlS r), .ref l] H (.bl (ruleL f r xs)) := ⟨_, _, _, _, _, rfl, h0, h1, h2, h3, rfl⟩
local macro_rules | `(tactic| walk_at "own") => `(tactic| first
  | exact r_is_whole (by first | assumption | exact .int _ | exact Wh.ex (by assumption) (by assumption))
  | exact r_are_choices 
  | exact r_is_format (ex_t (by assumption) (by assumption))
  | exact r_check_format (ex_t (by assumption) (by assumption))
  | exact r_ends (ex_t (by assumption) (by assumption))
  | exact r_lowest (ex_t (by assumption) (by assumption))
  | exact r_highest (ex_t (by assumption) (by assumption))
  | exact r_terms_of (ex_t (by assumption) (by assumption))
  | exact r_fitted (ex_t (by assumption) (by assumption))
  | exact r__quotient_to_zero (by assumption) (by assumption) (by assumption)
  | exact r__quotient_to_even (by assumption) (by assumption) (by assumption)
  | exact r__quotient_of_euclid (by assumption) (by assumption) (by assumption)
  | exact r__exact_quotient (by assumption) (by assumption) (by assumption)
  | ((with_reducible apply r_plus_G); (exact (ex_t (by assumption) (by assumption))); (walk_at "isr"); (walk_at "isr"))
  | ((with_reducible apply r_minus_G); (exact (ex_t (by assumption) (by assumption))); (walk_at "isr"); (walk_at "isr"))
  | ((with_reducible apply r_times_G); (exact (ex_t (by assumption) (by assumption))); (walk_at "isr"); (walk_at "isr"); (walk_at "osm"); (walk_at "osm"))
  | ((with_reducible apply r_quotient_G); (exact (ex_t (by assumption) (by assumption))); (walk_at "isr"); (walk_at "isr"); (walk_at "osm"); (walk_at "osm"); (walk_at "nz"))
  | ((with_reducible apply r_opposite_G); (exact (ex_t (by assumption) (by assumption))); (walk_at "isr"))
  | exact r_rest (ex_t (by assumption) (by assumption)) (by assumption) (by assumption) (by assumption)
  | ((with_reducible apply r__at_most_G); (walk_at "isr"); (walk_at "isr"))
  | ((with_reducible apply r__below_G); (walk_at "isr"); (walk_at "isr"))
  | exact r_sum_grouping_rules (ex_t (by assumption) (by assumption)) (by assumption) (by assumption) (by assumption)
  | exact r_product_grouping_rules (ex_t (by assumption) (by assumption)) (by assumption) (by assumption) (by assumption)
  | exact r_distribution_rules (ex_t (by assumption) (by assumption)) (by assumption) (by assumption) (by assumption)
  | exact r_double_negation_rules (ex_t (by assumption) (by assumption)) (by assumption)
  | exact r_difference_rules (ex_t (by assumption) (by assumption)) (by assumption) (by assumption)
  | exact r_add_back_rules (ex_t (by assumption) (by assumption)) (by assumption) (by assumption)
  | exact r_division_rules (ex_t (by assumption) (by assumption)) (by assumption) (by assumption)
  | exact r_remainder_range_rules (ex_t (by assumption) (by assumption)) (by assumption) (by assumption)
  | exact r_negated_quotient_rules (ex_t (by assumption) (by assumption)) (by assumption) (by assumption)
  | exact r_shift_rules (ex_t (by assumption) (by assumption)) (by assumption)
  | exact r_absolute_value_rules (ex_t (by assumption) (by assumption)) (by assumption)
  | exact r_order_by_difference_rules (ex_t (by assumption) (by assumption)) (by assumption) (by assumption)
  | exact r_monotone_sum_rules (ex_t (by assumption) (by assumption)) (by assumption) (by assumption) (by assumption)
  | exact r_average_rules (ex_t (by assumption) (by assumption)) (by assumption) (by assumption)
  | exact r_square_rules (ex_t (by assumption) (by assumption)) (by assumption)
  | exact r_zero_product_rules (ex_t (by assumption) (by assumption)) (by assumption) (by assumption)
  | exact r_cancellation_rules (ex_t (by assumption) (by assumption)) (by assumption) (by assumption) (by assumption)
  | exact r_is_rule 
  | exact r_check_rule 
  | exact r__check_numbers (ex_t (by assumption) (by assumption)) (ex_t (by assumption) (by assumption)) (by assumption) (by assumption) (by assumption)
  | exact r_holds_for (ex_t (by assumption) (by assumption)) (ex_t (by assumption) (by assumption)) (by assumption) (by assumption))
local macro_rules | `(tactic| walk_at "own1") => `(tactic| first
  | ((with_reducible apply r_plus_G); (exact st_of (by assumption)); (walk_at "isr"); (walk_at "isr"))
  | ((with_reducible apply r_minus_G); (exact st_of (by assumption)); (walk_at "isr"); (walk_at "isr"))
  | ((with_reducible apply r_times_G); (exact st_of (by assumption)); (walk_at "isr"); (walk_at "isr"); (walk_at "osm"); (walk_at "osm"))
  | ((with_reducible apply r_quotient_G); (exact st_of (by assumption)); (walk_at "isr"); (walk_at "isr"); (walk_at "osm"); (walk_at "osm"); (walk_at "nz"))
  | ((with_reducible apply r_opposite_G); (exact st_of (by assumption)); (walk_at "isr"))
  | ((with_reducible apply r_rest); (exact st_of (by assumption)); assumption; assumption; assumption)
  | ((with_reducible apply r_fitted); (exact st_of (by assumption))))
theorem ar_le (r : Rl) : r.ar ≤ 3 := by cases r <;> decide
abbrev s_is_rule : Stmt := top 113
abbrev N_is_rule : List Str := ["value"]
theorem sc_is_rule : FnScope N_is_rule ["value"] (defScope s_is_rule) := ⟨rfl, rfl, rfl, by decide +kernel, rfl, by decide +kernel, by decide +kernel⟩
theorem ok_is_rule (T : Txt w K mg) (D0 : DefAt K mg "is_rule" s_is_rule)   : Cal P w K mg base CX0 1 "is_rule" ["value"] (Pu (R_is_rule K)) := by
  refine D0.cal sc_is_rule (fun vs H Q E h => by obtain ⟨v, ⟨_, rfl, _⟩, _⟩ := h; rfl) (fun _ _ _ _ _ _ us hl => match us, hl with | [_], _ => rfl) (fun f cdv A outer s H vs Q E hr h => ?_)
  obtain ⟨v, ⟨r, rfl, rfl⟩, k⟩ := h
  have hu := hu_of hr
  refine ⟨_, (pss_one (ps_ret (pe_and (pe_callB call_isi (by rfl) T.n_isinstance (by decide +kernel) (pa_cons (pv 0) (pa_cons (pe_bltn (v := .ty "str") (by rfl) T.n_str (by decide +kernel) rfl) pa_nil))) (pe_one (pe_cmpR (op_inKD T.k_ARITIES) (pv 0) (pe_glob (v := .ref _) rfl T.g_ARITIES rfl) (by rfl)))))), bl_go ?_⟩
  have ka := T.v_ARITIES r
  walk_at "ret"
  rfl
abbrev s_check_rule : Stmt := top 114
abbrev N_check_rule : List Str := ["rule"]
theorem sc_check_rule : FnScope N_check_rule ["rule"] (defScope s_check_rule) := ⟨rfl, rfl, rfl, by decide +kernel, rfl, by decide +kernel, by decide +kernel⟩
theorem ok_check_rule (T : Txt w K mg) (D0 : DefAt K mg "check_rule" s_check_rule) (c_is_rule : Cal P w K mg base CX0 1 "is_rule" ["value"] (Pu (R_is_rule K)))  : Cal P w K mg base CX0 2 "check_rule" ["rule"] (Pu (R_check_rule K)) := by
  refine D0.cal sc_check_rule (fun vs H Q E h => by obtain ⟨v, ⟨_, rfl, _⟩, _⟩ := h; rfl) (fun _ _ _ _ _ _ us hl => match us, hl with | [_], _ => rfl) (fun f cdv A outer s H vs Q E hr h => ?_)
  obtain ⟨v, ⟨r, rfl, rfl⟩, k⟩ := h
  have hu := hu_of hr
  refine ⟨_, (pss_one (ps_if (pt_not (pt_val (pe_own c_is_rule (hr.mono (by decide)) rfl pass0 (pa_cons (pv 0) pa_nil)))) (pss_one ps_never) pss_nil)), bl_go ?_⟩
  (with_reducible apply bl_ifLast); (walk_at "et")
  · intro h
    walk_at "absurd"
  · intro _ H1 e1
    exact k H1 e1
abbrev s__check_numbers : Stmt := top 115
abbrev N__check_numbers : List Str := ["terms", "many", "numbers", "number"]
theorem sc__check_numbers : FnScope N__check_numbers ["terms", "many", "numbers"] (defScope s__check_numbers) := ⟨rfl, rfl, rfl, by decide +kernel, rfl, by decide +kernel, by decide +kernel⟩
theorem ok__check_numbers (T : Txt w K mg) (D0 : DefAt K mg "_check_numbers" s__check_numbers) (c_is_whole : Cal P w K mg base CX0 1 "is_whole" ["value"] (Pu (R_is_whole K)))  : Cal P w K mg base CX0 2 "_check_numbers" ["terms", "many", "numbers"] (Pu (R__check_numbers K)) := by
  refine D0.cal sc__check_numbers (fun vs H Q E h => by obtain ⟨v, ⟨_, _, _, _, _, rfl, _⟩, _⟩ := h; rfl) (fun _ _ _ _ _ _ us hl => match us, hl with | [_, _, _], _ => rfl) (fun f cdv A outer s H vs Q E hr h => ?_)
  obtain ⟨v, ⟨q, f, n, l, xs, rfl, hq, hn, hl, hn3, hx, rfl⟩, k⟩ := h
  have hu := hu_of hr
  refine ⟨_, (pss_cons (ps_if (PW.pt (pw_or (pt_not (pt_val (pe_callB call_isi (by rfl) T.n_isinstance (by decide +kernel) (pa_cons (pv 2) (pa_cons (pe_bltn (v := .ty "tuple") (by rfl) T.n_tuple (by decide +kernel) rfl) pa_nil))))) (pw_or1 (pt_cmpR op_ne (pe_callB call_len_seq (by rfl) T.n_len (by decide +kernel) (pa_cons (pv 2) pa_nil)) (pv 1) (nomark _))))) (pss_one ps_never) pss_nil)
      (pss_one (ps_for PassesOwn.never (by rfl) (pi_tup (pv 2)) (pg_name (i := 3) sc__check_numbers.nd rfl (Or.inl rfl)) (pss_one (ps_if (PW.pt (pw_or (pt_not (pt_val (pe_own c_is_whole (hr.mono (by decide)) rfl pass0 (pa_cons (pv 3) pa_nil)))) (pw_or1 (pt_not (pt_chain op_le op_le (pe_ix ix_tup (pv 0) pe_int (fun _ _ => rfl)) (pv 3) (pe_ix ix_tup (pv 0) pe_int (fun _ _ => rfl))))))) (pss_one ps_never) pss_nil))))), bl_go ?_⟩
  have hxl : (xs.map V.int).length = xs.length := List.length_map ..
  (with_reducible apply bl_when); (walk_at "et")
  · intro h
    rw [hxl, hl] at h
    simp at h
  intro _ H0 e0
  apply s_forT (xs := xs.map V.int) (ev_var rfl) (ex_t e0 hn) (fun i s' H' => ∃ x3, s' = [some (.ref q), some (.int (n : Int)), some (.ref l), x3] ∧ Ex H H')
  · intro H1 e1
    exact ⟨_, rfl, e0.trans e1⟩
  · rintro i s' H' _ ⟨x3, rfl, e1⟩
    exact ex_t e1 hn
  · rintro i x s' H' hi ⟨x3, rfl, e1⟩
    rw [List.getElem?_map] at hi
    obtain ⟨z, hz, rfl⟩ : ∃ z, xs[i]? = some z ∧ x = .int z := by
      cases hh : xs[i]? with
      | none => rw [hh] at hi; cases hi
      | some z => rw [hh] at hi; cases hi; exact ⟨z, rfl, rfl⟩
    have fz : fits f z := hx z (List.mem_of_getElem? hz)
    have hq1 : SqT K H' q (tV f) := ex_t e1 hq
    change tIfS _ _ _ _ ([some (V.ref q), some (V.int (n : Int)), some (V.ref l), some (V.int z)] : L2.St) H'
    apply bl_go
    (with_reducible apply bl_ifLast); (walk_at "et")
    · intro h
      rw [decide_eq_true fz.1, decide_eq_true fz.2] at h
      exact absurd (show false = true from h) (by decide)
    · intro _ H2 e2
      exact ⟨_, rfl, e1.trans e2⟩
  · rintro s' H' ⟨x3, rfl, e1⟩
    exact k H' e1
local macro_rules | `(tactic| walk_at "own") => `(tactic| first
  | exact r_is_whole (by first | assumption | exact .int _ | exact Wh.ex (by assumption) (by assumption))
  | exact r_are_choices 
  | exact r_is_format (ex_t (by assumption) (by assumption))
  | exact r_check_format (ex_t (by assumption) (by assumption))
  | exact r_ends (ex_t (by assumption) (by assumption))
  | exact r_lowest (ex_t (by assumption) (by assumption))
  | exact r_highest (ex_t (by assumption) (by assumption))
  | exact r_terms_of (ex_t (by assumption) (by assumption))
  | exact r_fitted (ex_t (by assumption) (by assumption))
  | exact r__quotient_to_zero (by assumption) (by assumption) (by assumption)
  | exact r__quotient_to_even (by assumption) (by assumption) (by assumption)
  | exact r__quotient_of_euclid (by assumption) (by assumption) (by assumption)
  | exact r__exact_quotient (by assumption) (by assumption) (by assumption)
  | ((with_reducible apply r_plus_G); (exact (ex_t (by assumption) (by assumption))); (walk_at "isr"); (walk_at "isr"))
  | ((with_reducible apply r_minus_G); (exact (ex_t (by assumption) (by assumption))); (walk_at "isr"); (walk_at "isr"))
  | ((with_reducible apply r_times_G); (exact (ex_t (by assumption) (by assumption))); (walk_at "isr"); (walk_at "isr"); (walk_at "osm"); (walk_at "osm"))
  | ((with_reducible apply r_quotient_G); (exact (ex_t (by assumption) (by assumption))); (walk_at "isr"); (walk_at "isr"); (walk_at "osm"); (walk_at "osm"); (walk_at "nz"))
  | ((with_reducible apply r_opposite_G); (exact (ex_t (by assumption) (by assumption))); (walk_at "isr"))
  | exact r_rest (ex_t (by assumption) (by assumption)) (by assumption) (by assumption) (by assumption)
  | ((with_reducible apply r__at_most_G); (walk_at "isr"); (walk_at "isr"))
  | ((with_reducible apply r__below_G); (walk_at "isr"); (walk_at "isr"))
  | exact r_sum_grouping_rules (ex_t (by assumption) (by assumption)) (by assumption) (by assumption) (by assumption)
  | exact r_product_grouping_rules (ex_t (by assumption) (by assumption)) (by assumption) (by assumption) (by assumption)
  | exact r_distribution_rules (ex_t (by assumption) (by assumption)) (by assumption) (by assumption) (by assumption)
  | exact r_double_negation_rules (ex_t (by assumption) (by assumption)) (by assumption)
  | exact r_difference_rules (ex_t (by assumption) (by assumption)) (by assumption) (by assumption)
  | exact r_add_back_rules (ex_t (by assumption) (by assumption)) (by assumption) (by assumption)
  | exact r_division_rules (ex_t (by assumption) (by assumption)) (by assumption) (by assumption)
  | exact r_remainder_range_rules (ex_t (by assumption) (by assumption)) (by assumption) (by assumption)
  | exact r_negated_quotient_rules (ex_t (by assumption) (by assumption)) (by assumption) (by assumption)
  | exact r_shift_rules (ex_t (by assumption) (by assumption)) (by assumption)
  | exact r_absolute_value_rules (ex_t (by assumption) (by assumption)) (by assumption)
  | exact r_order_by_difference_rules (ex_t (by assumption) (by assumption)) (by assumption) (by assumption)
  | exact r_monotone_sum_rules (ex_t (by assumption) (by assumption)) (by assumption) (by assumption) (by assumption)
  | exact r_average_rules (ex_t (by assumption) (by assumption)) (by assumption) (by assumption)
  | exact r_square_rules (ex_t (by assumption) (by assumption)) (by assumption)
  | exact r_zero_product_rules (ex_t (by assumption) (by assumption)) (by assumption) (by assumption)
  | exact r_cancellation_rules (ex_t (by assumption) (by assumption)) (by assumption) (by assumption) (by assumption)
  | exact r_is_rule 
  | exact r_check_rule 
  | exact r__check_numbers (ex_t (by assumption) (by assumption)) (ex_t (by assumption) (by assumption)) (by assumption) (by assumption) (by assumption)
  | exact r_holds_for (ex_t (by assumption) (by assumption)) (ex_t (by assumption) (by assumption)) (by assumption) (by assumption))
abbrev s_holds_for : Stmt := top 112
abbrev N_holds_for : List Str := ["form", "rule", "numbers", "terms", "check"]
theorem sc_holds_for : FnScope N_holds_for ["form", "rule", "numbers"] (defScope s_holds_for) := ⟨rfl, rfl, rfl, by decide +kernel, rfl, by decide +kernel, by decide +kernel⟩
theorem ok_holds_for (T : Txt w K mg) (D0 : DefAt K mg "holds_for" s_holds_for) (c__check_numbers : Cal P w K mg base CX0 2 "_check_numbers" ["terms", "many", "numbers"] (Pu (R__check_numbers K))) (c_check_format : Cal P w K mg base CX0 3 "check_format" ["form"] (Pu (R_check_format K))) (c_check_rule : Cal P w K mg base CX0 2 "check_rule" ["rule"] (Pu (R_check_rule K))) (c_terms_of : Cal P w K mg base CX0 2 "terms_of" ["form"] (PuT (R_terms_of K))) (F_CHECKS : FamOk P w K mg base CX0 4 (fam_CHECKS K)) : Cal P w K mg base CX0 5 "holds_for" ["form", "rule", "numbers"] (Pu (R_holds_for K)) := by
  refine D0.cal sc_holds_for (fun vs H Q E h => by obtain ⟨v, ⟨_, _, _, _, _, rfl, _⟩, _⟩ := h; rfl) (fun _ _ _ _ _ _ us hl => match us, hl with | [_, _, _], _ => rfl) (fun f cdv A outer s H vs Q E hr h => ?_)
  obtain ⟨v, ⟨p, f, r, l, xs, rfl, hf, hl, hn, hx, rfl⟩, k⟩ := h
  have hu := hu_of hr
  refine ⟨_, (pss_cons (ps_expr (pe_own c_check_format (hr.mono (by decide)) rfl pass0 (pa_cons (pv 0) pa_nil)))
      (pss_cons (ps_expr (pe_own c_check_rule (hr.mono (by decide)) rfl pass0 (pa_cons (pv 1) pa_nil)))
      (pss_cons (ps_set (i := 3) sc_holds_for.nd rfl (Or.inl rfl) (pe_own c_terms_of (hr.mono (by decide)) rfl pass0 (pa_cons (pv 0) pa_nil)))
      (pss_cons (ps_expr (pe_own c__check_numbers (hr.mono (by decide)) rfl pass0 (pa_cons (pv 3) (pa_cons (pe_ix ix_kdict (pe_glob (v := .ref _) rfl T.g_ARITIES rfl) (pv 1) (fun _ _ => rfl)) (pa_cons (pv 2) pa_nil)))))
      (pss_cons (ps_set (i := 4) sc_holds_for.nd rfl (Or.inl rfl) (pe_ix ix_kdict (pe_glob (v := .ref _) rfl T.g_CHECKS rfl) (pv 1) (fun _ _ => rfl)))
      (pss_one (ps_ret (pe_callVS F_CHECKS (hr.mono (by decide)) pass0 (pv 4) (pa_cons (pv 3) (pa_star (pv 2) pa_nil)))))))))), bl_go ?_⟩
  have ka := T.v_ARITIES r
  have kc := T.v_CHECKS r
  have ha3 := ar_le r
  walk_at "drop"
  walk_at "drop"
  apply bl_setU
  · walk_at "eu"
  intro q H1 hq0 e1 hq1
  have hq : SqT K H1 q (tV f) := st_of hq1
  have hl1 : SqT K H1 l (xs.map V.int) := ex_t e1 hl
  walk_at "drop"
  walk_at "set"
  refine bl_retE (v := .bl (ruleL f r xs)) (ev_callV (vs := .ref q :: xs.map V.int) (ev_var rfl) ⟨r, rfl, rfl⟩ ?_ (fun H2 e2 => ⟨q, f, xs, rfl, ex_t e2 hq, hn, hx, rfl⟩)) (fun H2 e2 => k H2 (e1.trans e2)) rfl
  refine ea_cons (ev_var rfl) ?_
  have z := ea_star (K := K) (t := tNil) (ev_var (i := 2) (σ := [some (.ref p), some (.str (rlS r)), some (.ref l), some (.ref q), some (.ref (He.ga K (nm_CHECKS r)))]) rfl) hl1 ea_nil
  rw [List.append_nil] at z
  exact z
end
end K1

set_option maxHeartbeats 4000000
namespace K1
open PySem PySem.Spec PyProof.Rows L2 Evl WM WL WLam WX WT WU StX LamX
local macro_rules | `(tactic| walk_at "ev") => `(tactic| first
  | exact ev_c
  | exact ev_var rfl
  | ((with_reducible apply ev_op); (walk_at "ev"); (walk_at "ev"); (walk_at "rv"))
  | ((with_reducible apply ev_un); (walk_at "ev"); exact ru_neg)
  | ((with_reducible apply ev_notV); (walk_at "ev"))
  | ((with_reducible apply ev_andV); (walk_at "ev"); (intro _; walk_at "ev"))
  | ((with_reducible apply ev_orV); (walk_at "ev"); (intro _; walk_at "ev"))
  | ((with_reducible apply ev_ifT); (walk_at "et"); (exact rfl); (walk_at "ev"))
  | ((with_reducible apply ev_ifF); (walk_at "et"); (exact rfl); (walk_at "ev"))
  | ((with_reducible apply ev_ifB); (walk_at "et"); (intro _; walk_at "ev"); (intro _; walk_at "ev"))
  | ((with_reducible apply ev_chainI); (walk_at "ev"); (walk_at "ev"); (walk_at "ev"))
  | ((with_reducible apply ev_own); (walk_at "ea"); (intro _ _; walk_at "own"))
  | ((with_reducible apply ev_ddS); (walk_at "dp"); (exact Nat.le_of_ble_eq_true rfl); (walk_at "ev"); (exact rfl))
  | ((with_reducible apply ev_isiT); (walk_at "ev"); (walk_at "ea"); (walk_at "isiT"))
  | ((with_reducible apply ev_cb); (walk_at "ea"); (walk_at "rc")))
local macro_rules | `(tactic| walk_at "dp") => `(tactic| first
  | exact Paired.nil
  | ((with_reducible apply dp_cons); (exact ev_c); (walk_at "ev"); (walk_at "dp")))
local macro_rules | `(tactic| walk_at "ea") => `(tactic| first
  | exact ea_nil
  | ((with_reducible apply ea_cons); (walk_at "ev"); (walk_at "ea")))
local macro_rules | `(tactic| walk_at "et") => `(tactic| first
  | ((with_reducible apply et_test); (walk_at "ev"))
  | ((with_reducible apply et_B); (walk_at "ev"))
  | ((with_reducible apply et_not); (walk_at "et"))
  | ((with_reducible apply et_and); (walk_at "et"); (intro _; walk_at "et"))
  | ((with_reducible apply et_or); (walk_at "et"); (intro _; walk_at "et")))
local macro_rules | `(tactic| walk_at "rv") => `(tactic| first
  | exact rv_I0
  | exact rv_eq rfl
  | exact rv_ne rfl
  | exact rv_isT (by assumption) rfl rfl
  | exact rv_niT (by assumption) rfl rfl
  | exact rv_isL (by assumption) rfl rfl
  | exact rv_niL (by assumption) rfl rfl
  | exact rv_ixT (by assumption) rfl
  | exact rv_ixL (by assumption) rfl
  | exact rv_ixL (by assumption) (by assumption)
  | (apply rv_I; (walk_at "side")))
local macro_rules | `(tactic| walk_at "side") => `(tactic| first
  | assumption
  | (refine And.intro ?_ (And.intro ?_ ?_) <;> (try dsimp only) <;> first | omega | decide)
  | (dsimp only; omega)
  | omega)
local macro_rules | `(tactic| walk_at "rc") => `(tactic| first
  | exact rc_abs | exact rc_max2 | exact rc_min2 | exact rc_int | exact rc_intB
  | exact rc_isi_int (b := true) (by decide +kernel)
  | exact rc_isi_int (b := false) (by decide +kernel)
  | exact rc_isi_bl (b := true) (by decide +kernel)
  | exact rc_isi_bl (b := false) (by decide +kernel)
  | exact rc_isi_str (b := true) (by decide +kernel)
  | exact rc_isi_str (b := false) (by decide +kernel)
  | exact rc_isi_T (b := true) (by assumption) (by decide +kernel)
  | exact rc_isi_T (b := false) (by assumption) (by decide +kernel)
  | exact rc_lenT (by assumption)
  | exact rc_lenL (by assumption))
local macro_rules | `(tactic| walk_at "set") => `(tactic| ((with_reducible apply bl_set); (walk_at "ev")))
local macro_rules | `(tactic| walk_at "drop") => `(tactic| ((with_reducible apply bl_drop); (walk_at "ev")))
local macro_rules | `(tactic| walk_at "par") => `(tactic| ((with_reducible apply bl_par); (walk_at "ea")))
local macro_rules | `(tactic| walk_at "if") => `(tactic| ((with_reducible apply bl_when); (walk_at "et")))
local macro_rules | `(tactic| walk_at "no") => `(tactic| ((with_reducible apply bl_when); (walk_at "et"); (intro h; exact absurd (show false = true from h) (by decide)); (intro _)))
local macro_rules | `(tactic| walk_at "yes") => `(tactic| ((with_reducible apply bl_when); (walk_at "et"); rotate_left; (intro h; exact absurd (show true = false from h) (by decide)); (intro _)))
local macro_rules | `(tactic| walk_at "ret") => `(tactic| ((with_reducible apply bl_retE); rotate_left; assumption; rotate_right; (walk_at "ev")))
local macro_rules | `(tactic| walk_at "absurd") => `(tactic| first | exact absurd (show false = true from (by assumption)) (by decide) | exact absurd (show true = false from (by assumption)) (by decide))
local macro_rules | `(tactic| walk_at "rv") => `(tactic| first | exact rv_isN (s := []) | exact rv_notKD (by assumption) | exact rv_inKD (by assumption) | exact rv_ixKD (by assumption))
local macro_rules | `(tactic| walk_at "isiT") => `(tactic| ((exact Nat.le_of_ble_eq_true rfl); (exact .cons (.ty _) (.cons (.ty _) .nil)); (first | exact fun _ _ => .base (.int _) | exact fun _ _ => .base (.bl _) | exact fun _ _ => .base (.str _) | exact fun _ _ => .base .non); (exact kitAny_no (by decide +kernel) (by decide +kernel))))
local macro_rules | `(tactic| walk_at "rc") => `(tactic| first | exact rc_isi_non (b := true) (by decide +kernel) | exact rc_isi_non (b := false) (by decide +kernel))
local macro_rules | `(tactic| walk_at "eu") => `(tactic| first
  | ((with_reducible apply eu_own); (walk_at "ea"); (intro _ _; walk_at "own"))
  | ((with_reducible apply eu_tup); (walk_at "ea"); (exact Nat.le_of_ble_eq_true rfl)))
local macro_rules | `(tactic| walk_at "ev") => `(tactic| ((with_reducible apply ev_own1U); (walk_at "eu"); (walk_at "ea"); (intro _ _ _ _; walk_at "own1")))
local macro_rules | `(tactic| walk_at "isr") => `(tactic| first | with_reducible exact isr_r | with_reducible exact isr_i | ((with_reducible apply isr_if) <;> (walk_at "isr")))
local macro_rules | `(tactic| walk_at "osm") => `(tactic| first | with_reducible assumption | with_reducible exact osm_add | with_reducible exact osm_sub | with_reducible exact osm_mul | with_reducible exact osm_dvo | with_reducible exact osm_neg | with_reducible exact osm_rem | with_reducible exact osm_do | with_reducible exact osm_div | with_reducible exact osm_fit | ((with_reducible apply osm); assumption) | ((with_reducible apply osm); exact (show (0 : Int).natAbs < 2 ^ 70 by decide)) | ((with_reducible apply osm); exact (show (2 : Int).natAbs < 2 ^ 70 by decide)) | ((with_reducible apply osm_if) <;> (walk_at "osm")))
local macro_rules | `(tactic| walk_at "ev") => `(tactic| first
  | ((with_reducible apply ev_inLst); (walk_at "ev"); (walk_at "ea"); (exact Nat.le_of_ble_eq_true rfl); (exact rfl); (first | exact rfl | simp [flatV])))
local macro_rules | `(tactic| walk_at "rv") => `(tactic| first | exact rv_eq scal_rv | exact rv_ne scal_rv | exact rv_eq (scal_rv (y := some _)) | exact rv_ne (scal_rv (y := some _)) | exact rv_eq (scal_rv (y := none)) | exact rv_ne (scal_rv (y := none)))
local macro_rules | `(tactic| walk_at "nz") => `(tactic| first | with_reducible assumption | ((with_reducible apply nz_i); (first | assumption | decide)))
local macro_rules | `(tactic| walk_at "ev") => `(tactic| ((with_reducible apply ev_inU); (walk_at "ev"); (walk_at "eu"); (exact rfl); (exact rfl)))
local macro_rules | `(tactic| walk_at "eu") => `(tactic| ((with_reducible apply WB.eu_ifB); (walk_at "et"); (walk_at "eu"); (walk_at "eu")))
section
variable {P : Program} {w : World} {K : PySem.W.Frag} {mg : Str → Option Value} {base : Heap}
def R__check_exponent (K : PySem.W.Frag) : List V → Hp → V → Prop := fun vs H v => ∃ (n : Nat), vs = [.int (n : Int)] ∧ (2 ≤ n) ∧ (n ≤ 64) ∧ v = V.non
theorem r__check_exponent {K : PySem.W.Frag} {H : Hp} {n : Nat} (h0 : 2 ≤ n) (h1 : n ≤ 64) : R__check_exponent K [.int (n : Int)] H (V.non) := ⟨_, rfl, h0, h1, rfl⟩
def R__passes_lucas_lehmer (K : PySem.W.Frag) : List V → Hp → V → Prop := fun vs H v => ∃ (n : Nat), vs = [.int (n : Int)] ∧ (2 ≤ n) ∧ (n ≤ 64) ∧ (n % 2 ≠ 0) ∧ v = .bl (WP.mers n)
theorem r__passes_lucas_lehmer {K : PySem.W.Frag} {H : Hp} {n : Nat} (h0 : 2 ≤ n) (h1 : n ≤ 64) (h2 : n % 2 ≠ 0) : R__passes_lucas_lehmer K [.int (n : Int)] H (.bl (WP.mers n)) := ⟨_, rfl, h0, h1, h2, rfl⟩
def R_is_mersenne (K : PySem.W.Frag) : List V → Hp → V → Prop := fun vs H v => ∃ (n : Nat), vs = [.int (n : Int)] ∧ (2 ≤ n) ∧ (n ≤ 64) ∧ v = .bl (WP.mers n)
theorem r_is_mersenne {K : PySem.W.Frag} {H : Hp} {n : Nat} (h0 : 2 ≤ n) (h1 : n ≤ 64) : R_is_mersenne K [.int (n : Int)] H (.bl (WP.mers n)) := ⟨_, rfl, h0, h1, rfl⟩
def R_least_factor (K : PySem.W.Frag) : List V → Hp → V → Prop := fun vs H v => ∃ (n : Nat), vs = [.int (n : Int)] ∧ (2 ≤ n) ∧ (n ≤ 64) ∧ v = .int (lfac n : Int)
theorem r_least_factor {K : PySem.W.Frag} {H : Hp} {n : Nat} (h0 : 2 ≤ n) (h1 : n ≤ 64) : R_least_factor K [.int (n : Int)] H (.int (lfac n : Int)) := ⟨_, rfl, h0, h1, rfl⟩
def R_sum_grouping_conditions (K : PySem.W.Frag) : List V → Hp → V → Prop := fun vs H v => ∃ (f : Fmt), vs = [.int (f.w : Int), .str (sgS f.sg), .str (ovS f.ov), .str (dvS f.dv)] ∧ v = .bl (holdsB f .sumG)
theorem r_sum_grouping_conditions {K : PySem.W.Frag} {H : Hp} {f : Fmt}  : R_sum_grouping_conditions K [.int (f.w : Int), .str (sgS f.sg), .str (ovS f.ov), .str (dvS f.dv)] H (.bl (holdsB f .sumG)) := ⟨_, rfl, rfl⟩
def R_product_grouping_conditions (K : PySem.W.Frag) : List V → Hp → V → Prop := fun vs H v => ∃ (f : Fmt), vs = [.int (f.w : Int), .str (sgS f.sg), .str (ovS f.ov), .str (dvS f.dv)] ∧ v = .bl (holdsB f .prodG)
theorem r_product_grouping_conditions {K : PySem.W.Frag} {H : Hp} {f : Fmt}  : R_product_grouping_conditions K [.int (f.w : Int), .str (sgS f.sg), .str (ovS f.ov), .str (dvS f.dv)] H (.bl (holdsB f .prodG)) := ⟨_, rfl, rfl⟩
def R_distribution_conditions (K : PySem.W.Frag) : List V → Hp → V → Prop := fun vs H v => ∃ (f : Fmt), vs = [.int (f.w : Int), .str (sgS f.sg), .str (ovS f.ov), .str (dvS f.dv)] ∧ v = .bl (holdsB f .dist)
theorem r_distribution_conditions {K : PySem.W.Frag} {H : Hp} {f : Fmt}  : R_distribution_conditions K [.int (f.w : Int), .str (sgS f.sg), .str (ovS f.ov), .str (dvS f.dv)] H (.bl (holdsB f .dist)) := ⟨_, rfl, rfl⟩
def R__negatives (K : PySem.W.Frag) : List V → Hp → V → Prop := fun vs H v => ∃ (f : Fmt), vs = [.int (f.w : Int), .str (sgS f.sg), .str (ovS f.ov), .str (dvS f.dv)] ∧ v = .bl (holdsB f .dneg)
theorem r__negatives {K : PySem.W.Frag} {H : Hp} {f : Fmt}  : R__negatives K [.int (f.w : Int), .str (sgS f.sg), .str (ovS f.ov), .str (dvS f.dv)] H (.bl (holdsB f .dneg)) := ⟨_, rfl, rfl⟩
def R_add_back_conditions (K : PySem.W.Frag) : List V → Hp → V → Prop := fun vs H v => ∃ (f : Fmt), vs = [.int (f.w : Int), .str (sgS f.sg), .str (ovS f.ov), .str (dvS f.dv)] ∧ v = .bl (holdsB f .addB)
theorem r_add_back_conditions {K : PySem.W.Frag} {H : Hp} {f : Fmt}  : R_add_back_conditions K [.int (f.w : Int), .str (sgS f.sg), .str (ovS f.ov), .str (dvS f.dv)] H (.bl (holdsB f .addB)) := ⟨_, rfl, rfl⟩
def R_division_conditions (K : PySem.W.Frag) : List V → Hp → V → Prop := fun vs H v => ∃ (f : Fmt), vs = [.int (f.w : Int), .str (sgS f.sg), .str (ovS f.ov), .str (dvS f.dv)] ∧ v = .bl (holdsB f .divi)
theorem r_division_conditions {K : PySem.W.Frag} {H : Hp} {f : Fmt}  : R_division_conditions K [.int (f.w : Int), .str (sgS f.sg), .str (ovS f.ov), .str (dvS f.dv)] H (.bl (holdsB f .divi)) := ⟨_, rfl, rfl⟩
def R_remainder_range_conditions (K : PySem.W.Frag) : List V → Hp → V → Prop := fun vs H v => ∃ (f : Fmt), vs = [.int (f.w : Int), .str (sgS f.sg), .str (ovS f.ov), .str (dvS f.dv)] ∧ v = .bl (holdsB f .remR)
theorem r_remainder_range_conditions {K : PySem.W.Frag} {H : Hp} {f : Fmt}  : R_remainder_range_conditions K [.int (f.w : Int), .str (sgS f.sg), .str (ovS f.ov), .str (dvS f.dv)] H (.bl (holdsB f .remR)) := ⟨_, rfl, rfl⟩
def R_negated_quotient_conditions (K : PySem.W.Frag) : List V → Hp → V → Prop := fun vs H v => ∃ (f : Fmt), vs = [.int (f.w : Int), .str (sgS f.sg), .str (ovS f.ov), .str (dvS f.dv)] ∧ v = .bl (holdsB f .negQ)
theorem r_negated_quotient_conditions {K : PySem.W.Frag} {H : Hp} {f : Fmt}  : R_negated_quotient_conditions K [.int (f.w : Int), .str (sgS f.sg), .str (ovS f.ov), .str (dvS f.dv)] H (.bl (holdsB f .negQ)) := ⟨_, rfl, rfl⟩
def R_shift_conditions (K : PySem.W.Frag) : List V → Hp → V → Prop := fun vs H v => ∃ (f : Fmt), vs = [.int (f.w : Int), .str (sgS f.sg), .str (ovS f.ov), .str (dvS f.dv)] ∧ v = .bl (holdsB f .shift)
theorem r_shift_conditions {K : PySem.W.Frag} {H : Hp} {f : Fmt}  : R_shift_conditions K [.int (f.w : Int), .str (sgS f.sg), .str (ovS f.ov), .str (dvS f.dv)] H (.bl (holdsB f .shift)) := ⟨_, rfl, rfl⟩
def R_absolute_value_conditions (K : PySem.W.Frag) : List V → Hp → V → Prop := fun vs H v => ∃ (f : Fmt), vs = [.int (f.w : Int), .str (sgS f.sg), .str (ovS f.ov), .str (dvS f.dv)] ∧ v = .bl (holdsB f .absV)
theorem r_absolute_value_conditions {K : PySem.W.Frag} {H : Hp} {f : Fmt}  : R_absolute_value_conditions K [.int (f.w : Int), .str (sgS f.sg), .str (ovS f.ov), .str (dvS f.dv)] H (.bl (holdsB f .absV)) := ⟨_, rfl, rfl⟩
def R_order_by_difference_conditions (K : PySem.W.Frag) : List V → Hp → V → Prop := fun vs H v => ∃ (f : Fmt), vs = [.int (f.w : Int), .str (sgS f.sg), .str (ovS f.ov), .str (dvS f.dv)] ∧ v = .bl (holdsB f .ordD)
theorem r_order_by_difference_conditions {K : PySem.W.Frag} {H : Hp} {f : Fmt}  : R_order_by_difference_conditions K [.int (f.w : Int), .str (sgS f.sg), .str (ovS f.ov), .str (dvS f.dv)] H (.bl (holdsB f .ordD)) := ⟨_, rfl, rfl⟩
def R_monotone_sum_conditions (K : PySem.W.Frag) : List V → Hp → V → Prop := fun vs H v => ∃ (f : Fmt), vs = [.int (f.w : Int), .str (sgS f.sg), .str (ovS f.ov), .str (dvS f.dv)] ∧ v = .bl (holdsB f .monoS)
theorem r_monotone_sum_conditions {K : PySem.W.Frag} {H : Hp} {f : Fmt}  : R_monotone_sum_conditions K [.int (f.w : Int), .str (sgS f.sg), .str (ovS f.ov), .str (dvS f.dv)] H (.bl (holdsB f .monoS)) := ⟨_, rfl, rfl⟩
def R_average_conditions (K : PySem.W.Frag) : List V → Hp → V → Prop := fun vs H v => ∃ (f : Fmt), vs = [.int (f.w : Int), .str (sgS f.sg), .str (ovS f.ov), .str (dvS f.dv)] ∧ v = .bl (holdsB f .aver)
theorem r_average_conditions {K : PySem.W.Frag} {H : Hp} {f : Fmt}  : R_average_conditions K [.int (f.w : Int), .str (sgS f.sg), .str (ovS f.ov), .str (dvS f.dv)] H (.bl (holdsB f .aver)) := ⟨_, rfl, rfl⟩
def R_square_conditions (K : PySem.W.Frag) : List V → Hp → V → Prop := fun vs H v => ∃ (f : Fmt), vs = [.int (f.w : Int), .str (sgS f.sg), .str (ovS f.ov), .str (dvS f.dv)] ∧ v = .bl (holdsB f .squa)
theorem r_square_conditions {K : PySem.W.Frag} {H : Hp} {f : Fmt}  : R_square_conditions K [.int (f.w : Int), .str (sgS f.sg), .str (ovS f.ov), .str (dvS f.dv)] H (.bl (holdsB f .squa)) := ⟨_, rfl, rfl⟩
def R_zero_product_conditions (K : PySem.W.Frag) : List V → Hp → V → Prop := fun vs H v => ∃ (f : Fmt), vs = [.int (f.w : Int), .str (sgS f.sg), .str (ovS f.ov), .str (dvS f.dv)] ∧ v = .bl (holdsB f .zeroP)
theorem r_zero_product_conditions {K : PySem.W.Frag} {H : Hp} {f : Fmt}  : R_zero_product_conditions K [.int (f.w : Int), .str (sgS f.sg), .str (ovS f.ov), .str (dvS f.dv)] H (.bl (holdsB f .zeroP)) := ⟨_, rfl, rfl⟩
def R_cancellation_conditions (K : PySem.W.Frag) : List V → Hp → V → Prop := fun vs H v => ∃ (f : Fmt), vs = [.int (f.w : Int), .str (sgS f.sg), .str (ovS f.ov), .str (dvS f.dv)] ∧ v = .bl (holdsB f .canc)
theorem r_cancellation_conditions {K : PySem.W.Frag} {H : Hp} {f : Fmt}  : R_cancellation_conditions K [.int (f.w : Int), .str (sgS f.sg), .str (ovS f.ov), .str (dvS f.dv)] H (.bl (holdsB f .canc)) := ⟨_, rfl, rfl⟩
local macro_rules | `(tactic| walk_at "own") => `(tactic| first
  | exact r_is_whole (by first | assumption | exact .int _ | exact Wh.ex (by assumption) (by assumption))
  | exact r_are_choices 
  | exact r_is_format (ex_t (by assumption) (by assumption))
  | exact r_check_format (ex_t (by assumption) (by assumption))
  | exact r_ends (ex_t (by assumption) (by assumption))
  | exact r_lowest (ex_t (by assumption) (by assumption))
  | exact r_highest (ex_t (by assumption) (by assumption))
  | exact r_terms_of (ex_t (by assumption) (by assumption))
  | exact r_fitted (ex_t (by assumption) (by assumption))
  | exact r__quotient_to_zero (by assumption) (by assumption) (by assumption)
  | exact r__quotient_to_even (by assumption) (by assumption) (by assumption)
  | exact r__quotient_of_euclid (by assumption) (by assumption) (by assumption)
  | exact r__exact_quotient (by assumption) (by assumption) (by assumption)
  | ((with_reducible apply r_plus_G); (exact (ex_t (by assumption) (by assumption))); (walk_at "isr"); (walk_at "isr"))
  | ((with_reducible apply r_minus_G); (exact (ex_t (by assumption) (by assumption))); (walk_at "isr"); (walk_at "isr"))
  | ((with_reducible apply r_times_G); (exact (ex_t (by assumption) (by assumption))); (walk_at "isr"); (walk_at "isr"); (walk_at "osm"); (walk_at "osm"))
  | ((with_reducible apply r_quotient_G); (exact (ex_t (by assumption) (by assumption))); (walk_at "isr"); (walk_at "isr"); (walk_at "osm"); (walk_at "osm"); (walk_at "nz"))
  | ((with_reducible apply r_opposite_G); (exact (ex_t (by assumption) (by assumption))); (walk_at "isr"))
  | exact r_rest (ex_t (by assumption) (by assumption)) (by assumption) (by assumption) (by assumption)
  | ((with_reducible apply r__at_most_G); (walk_at "isr"); (walk_at "isr"))
  | ((with_reducible apply r__below_G); (walk_at "isr"); (walk_at "isr"))
  | exact r_sum_grouping_rules (ex_t (by assumption) (by assumption)) (by assumption) (by assumption) (by assumption)
  | exact r_product_grouping_rules (ex_t (by assumption) (by assumption)) (by assumption) (by assumption) (by assumption)
  | exact r_distribution_rules (ex_t (by assumption) (by assumption)) (by assumption) (by assumption) (by assumption)
  | exact r_double_negation_rules (ex_t (by assumption) (by assumption)) (by assumption)
  | exact r_difference_rules (ex_t (by assumption) (by assumption)) (by assumption) (by assumption)
  | exact r_add_back_rules (ex_t (by assumption) (by assumption)) (by assumption) (by assumption)
  | exact r_division_rules (ex_t (by assumption) (by assumption)) (by assumption) (by assumption)
  | exact r_remainder_range_rules (ex_t (by assumption) (by assumption)) (by assumption) (by assumption)
  | exact r_negated_quotient_rules (ex_t (by assumption) (by assumption)) (by assumption) (by assumption)
  | exact r_shift_rules (ex_t (by assumption) (by assumption)) (by assumption)
  | exact r_absolute_value_rules (ex_t (by assumption) (by assumption)) (by assumption)
  | exact r_order_by_difference_rules (ex_t (by assumption) (by assumption)) (by assumption) (by assumption)
  | exact r_monotone_sum_rules (ex_t (by assumption) (by assumption)) (by assumption) (by assumption) (by assumption)
  | exact r_average_rules (ex_t (by assumption) (by assumption)) (by assumption) (by assumption)
  | exact r_square_rules (ex_t (by assumption) (by assumption)) (by assumption)
  | exact r_zero_product_rules (ex_t (by assumption) (by assumption)) (by assumption) (by assumption)
  | exact r_cancellation_rules (ex_t (by assumption) (by assumption)) (by assumption) (by assumption) (by assumption)
  | exact r_is_rule 
  | exact r_check_rule 
  | exact r__check_numbers (ex_t (by assumption) (by assumption)) (ex_t (by assumption) (by assumption)) (by assumption) (by assumption) (by assumption)
  | exact r_holds_for (ex_t (by assumption) (by assumption)) (ex_t (by assumption) (by assumption)) (by assumption) (by assumption)
  | exact r__check_exponent (by assumption) (by assumption)
  | exact r__passes_lucas_lehmer (by assumption) (by assumption) (by assumption)
  | exact r_is_mersenne (by assumption) (by assumption)
  | exact r_least_factor (by assumption) (by assumption)
  | exact r_sum_grouping_conditions 
  | exact r_product_grouping_conditions 
  | exact r_distribution_conditions 
  | exact r__negatives 
  | exact r_add_back_conditions 
  | exact r_division_conditions 
  | exact r_remainder_range_conditions 
  | exact r_negated_quotient_conditions 
  | exact r_shift_conditions 
  | exact r_absolute_value_conditions 
  | exact r_order_by_difference_conditions 
  | exact r_monotone_sum_conditions 
  | exact r_average_conditions 
  | exact r_square_conditions 
  | exact r_zero_product_conditions 
  | exact r_cancellation_conditions )
abbrev s__check_exponent : Stmt := top 25
abbrev N__check_exponent : List Str := ["w"]
theorem sc__check_exponent : FnScope N__check_exponent ["w"] (defScope s__check_exponent) := ⟨rfl, rfl, rfl, by decide +kernel, rfl, by decide +kernel, by decide +kernel⟩
theorem ok__check_exponent (T : Txt w K mg) (D0 : DefAt K mg "_check_exponent" s__check_exponent) (c_is_whole : Cal P w K mg base CX0 1 "is_whole" ["value"] (Pu (R_is_whole K)))  : Cal P w K mg base CX0 2 "_check_exponent" ["w"] (Pu (R__check_exponent K)) := by
  refine D0.cal sc__check_exponent (fun vs H Q E h => by obtain ⟨v, ⟨_, rfl, _⟩, _⟩ := h; rfl) (fun _ _ _ _ _ _ us hl => match us, hl with | [_], _ => rfl) (fun f cdv A outer s H vs Q E hr h => ?_)
  obtain ⟨v, ⟨n, rfl, h2, h64, rfl⟩, k⟩ := h
  have hu := hu_of hr
  refine ⟨_, (pss_one (ps_if (PW.pt (pw_or (pt_not (pt_val (pe_own c_is_whole (hr.mono (by decide)) rfl pass0 (pa_cons (pv 0) pa_nil)))) (pw_or1 (pt_not (pt_chain op_le op_le (pe_globI rfl T.g_LEAST_EXPONENT) (pv 0) (pe_globI rfl T.g_GREATEST_EXPONENT)))))) (pss_one ps_never) pss_nil)), bl_go ?_⟩
  obtain ⟨t1, g1⟩ := T.g_LEAST_EXPONENT
  (with_reducible apply bl_ifLast); (walk_at "et")
  · intro h
    simp only [Bool.or_eq_true, Bool.not_eq_true', Bool.and_eq_false_iff, decide_eq_false_iff_not, Bool.true_eq_false, false_or] at h
    omega
  · intro _ H1 e1
    exact k H1 e1
abbrev s__passes_lucas_lehmer : Stmt := top 26
abbrev N__passes_lucas_lehmer : List Str := ["w", "whole", "found", "_"]
theorem sc__passes_lucas_lehmer : FnScope N__passes_lucas_lehmer ["w"] (defScope s__passes_lucas_lehmer) := ⟨rfl, rfl, rfl, by decide +kernel, rfl, by decide +kernel, by decide +kernel⟩
theorem ok__passes_lucas_lehmer (T : Txt w K mg) (D0 : DefAt K mg "_passes_lucas_lehmer" s__passes_lucas_lehmer)   : Cal P w K mg base CX0 1 "_passes_lucas_lehmer" ["w"] (Pu (R__passes_lucas_lehmer K)) := by
  refine D0.cal sc__passes_lucas_lehmer (fun vs H Q E h => by obtain ⟨v, ⟨_, rfl, _⟩, _⟩ := h; rfl) (fun _ _ _ _ _ _ us hl => match us, hl with | [_], _ => rfl) (fun f cdv A outer s H vs Q E hr h => ?_)
  obtain ⟨v, ⟨n, rfl, h2, h64, ho, rfl⟩, k⟩ := h
  have hu := hu_of hr
  refine ⟨_, (pss_cons (ps_set (i := 1) sc__passes_lucas_lehmer.nd rfl (Or.inl rfl) (pe_op op_sub (pe_op op_shl pe_int (pv 0)) pe_int))
      (pss_cons (ps_set (i := 2) sc__passes_lucas_lehmer.nd rfl (Or.inl rfl) pe_int)
      (pss_cons (ps_for PassesOwn.never (by rfl) (pi_range1 rfl T.n_range (pa_cons (pe_op op_sub (pv 0) pe_int) pa_nil)) (pg_name (i := 3) sc__passes_lucas_lehmer.nd rfl (Or.inl rfl)) (pss_one (ps_set (i := 2) sc__passes_lucas_lehmer.nd rfl (Or.inl rfl) (pe_op op_modN (pe_op op_sub (pe_op op_mulW (pv 2) (pv 2)) pe_int) (pv 1)))))
      (pss_one (ps_ret (pe_cmpR op_eq (pv 2) pe_int (nomark _))))))), bl_go ?_⟩
  obtain ⟨pp1, pp2⟩ := p2_pos h2 h64
  walk_at "set"
  rw [show ((1 : Int) * 2 ^ ((n : Int)).toNat) = p2 n from shl_w]
  walk_at "set"
  intro H0 e0
  apply q_forR1 (n := (n : Int) - 2) (by walk_at "ea") (by omega) (fun i s' H' => ∃ x3, s' = [some (V.int (n : Int)), some (V.int (p2 n - 1)), some (V.int (ll (p2 n - 1) i)), x3] ∧ Ex H H')
  · intro H1 e1
    exact ⟨_, rfl, e0.trans e1⟩
  · rintro i s' H' hi ⟨x3, rfl, e1⟩
    obtain ⟨l0, l1⟩ := ll_in (n := p2 n - 1) pp1 i
    have sl : Sm (ll (p2 n - 1) i) := by
      unfold Sm
      have : 18446744073709551616 < 2 ^ 70 := by decide
      omega
    have m1 : CMulW (ll (p2 n - 1) i) (ll (p2 n - 1) i) := sm_mul sl sl
    have n0 : p2 n - 1 ≠ 0 := by omega
    apply bl_go
    intro H2 e2
    refine s_asg (v := .int (ll (p2 n - 1) (i + 1))) ?_ (fun H3 e3 => ⟨_, rfl, (e1.trans e2).trans e3⟩)
    walk_at "ev"
  · rintro s' H' ⟨x3, rfl, e1⟩
    apply bl_go
    refine bl_retE (v := .bl (decide (V.int (ll (p2 n - 1) (n - 2)) = V.int 0))) ?_ (fun H3 e3 => k H3 (e1.trans e3)) ?_
    · rw [show n - 2 = ((n : Int) - 2).toNat by omega]
      walk_at "ev"
    · rw [dec_i, ll_mers h2 h64 ho]
abbrev s_is_mersenne : Stmt := top 23
abbrev N_is_mersenne : List Str := ["w"]
theorem sc_is_mersenne : FnScope N_is_mersenne ["w"] (defScope s_is_mersenne) := ⟨rfl, rfl, rfl, by decide +kernel, rfl, by decide +kernel, by decide +kernel⟩
theorem ok_is_mersenne (T : Txt w K mg) (D0 : DefAt K mg "is_mersenne" s_is_mersenne) (c__check_exponent : Cal P w K mg base CX0 2 "_check_exponent" ["w"] (Pu (R__check_exponent K))) (c__passes_lucas_lehmer : Cal P w K mg base CX0 1 "_passes_lucas_lehmer" ["w"] (Pu (R__passes_lucas_lehmer K)))  : Cal P w K mg base CX0 3 "is_mersenne" ["w"] (Pu (R_is_mersenne K)) := by
  refine D0.cal sc_is_mersenne (fun vs H Q E h => by obtain ⟨v, ⟨_, rfl, _⟩, _⟩ := h; rfl) (fun _ _ _ _ _ _ us hl => match us, hl with | [_], _ => rfl) (fun f cdv A outer s H vs Q E hr h => ?_)
  obtain ⟨v, ⟨n, rfl, h2, h64, rfl⟩, k⟩ := h
  have hu := hu_of hr
  refine ⟨_, (pss_cons (ps_expr (pe_own c__check_exponent (hr.mono (by decide)) rfl pass0 (pa_cons (pv 0) pa_nil)))
      (pss_cons (ps_if (pt_cmpR op_eq (pe_op op_modN (pv 0) pe_int) pe_int (nomark _)) (pss_one (ps_ret (pe_cmpR op_eq (pv 0) pe_int (nomark _)))) pss_nil)
      (pss_one (ps_ret (pe_own c__passes_lucas_lehmer (hr.mono (by decide)) rfl pass0 (pa_cons (pv 0) pa_nil)))))), bl_go ?_⟩
  walk_at "drop"
  walk_at "if"
  · intro h
    rw [dec_i, decide_eq_true_eq, Int.fmod_eq_emod_of_nonneg _ (by decide)] at h
    walk_at "ret"
    rw [dec_i, mers_even h2 h64 (by omega)]
    exact congrArg V.bl (decide_eq_decide.mpr (by omega))
  · intro h
    rw [dec_i, decide_eq_false_iff_not, Int.fmod_eq_emod_of_nonneg _ (by decide)] at h
    have ho : n % 2 ≠ 0 := by omega
    walk_at "ret"
    rfl
abbrev s_least_factor : Stmt := top 24
abbrev N_least_factor : List Str := ["w", "whole", "factor"]
theorem sc_least_factor : FnScope N_least_factor ["w"] (defScope s_least_factor) := ⟨rfl, rfl, rfl, by decide +kernel, rfl, by decide +kernel, by decide +kernel⟩
theorem ok_least_factor (T : Txt w K mg) (D0 : DefAt K mg "least_factor" s_least_factor) (c_is_mersenne : Cal P w K mg base CX0 3 "is_mersenne" ["w"] (Pu (R_is_mersenne K)))  : Cal P w K mg base CX0 4 "least_factor" ["w"] (Pu (R_least_factor K)) := by
  refine D0.cal sc_least_factor (fun vs H Q E h => by obtain ⟨v, ⟨_, rfl, _⟩, _⟩ := h; rfl) (fun _ _ _ _ _ _ us hl => match us, hl with | [_], _ => rfl) (fun f cdv A outer s H vs Q E hr h => ?_)
  obtain ⟨v, ⟨n, rfl, h2, h64, rfl⟩, k⟩ := h
  have hu := hu_of hr
  refine ⟨_, (pss_cons (ps_if (pt_val (pe_own c_is_mersenne (hr.mono (by decide)) rfl pass0 (pa_cons (pv 0) pa_nil))) (pss_one (ps_ret (pe_op op_sub (pe_op op_shl pe_int (pv 0)) pe_int))) pss_nil)
      (pss_cons (ps_set (i := 1) sc_least_factor.nd rfl (Or.inl rfl) (pe_op op_sub (pe_op op_shl pe_int (pv 0)) pe_int))
      (pss_cons (ps_set (i := 2) sc_least_factor.nd rfl (Or.inl rfl) pe_int)
      (pss_cons (ps_while PassesOwn.never (pt_cmpR op_ne (pe_op op_modN (pv 1) (pv 2)) pe_int (nomark _)) (pss_one (ps_aug (i := 2) sc_least_factor.nd rfl (Or.inl rfl) pe_int ip_add)))
      (pss_one (ps_ret (pv 2))))))), bl_go ?_⟩
  obtain ⟨pp1, pp2⟩ := p2_pos h2 h64
  walk_at "if"
  · intro h
    walk_at "ret"
    rw [shl_w, lfac_mers h, pN]
  intro hm
  have lo := lfac_odd h2 h64 hm
  obtain ⟨l1, l2, l3, l4, l5, l6⟩ := lfac_comp h2 h64 hm
  walk_at "set"
  rw [show ((1 : Int) * 2 ^ ((n : Int)).toNat) = p2 n from shl_w]
  walk_at "set"
  intro H0 e0
  apply q_while (fun m s' H' => ∃ f : Nat, s' = [some (V.int (n : Int)), some (V.int (p2 n - 1)), some (V.int (f : Int))] ∧ Ex H H' ∧ 3 ≤ f ∧ f ≤ lfac n ∧ f % 2 = 1 ∧ m = lfac n - f) (lfac n - 3)
  · exact ⟨3, rfl, e0, by omega, by omega, by omega, rfl⟩
  · rintro m s' H' ⟨f, rfl, e1, f3, fl, fo, rfl⟩
    have f0 : (f : Int) ≠ 0 := by omega
    apply Exists.intro
    apply And.intro
    · walk_at "et"
    apply And.intro
    · intro hb H2 e2
      rw [dec_i, Bool.not_eq_true', decide_eq_false_iff_not, least_at h2 h64 hm f3 fl] at hb
      refine ⟨fun s2 H4 => ∃ m', m' < lfac n - f ∧ ∃ g : Nat, s2 = [some (V.int (n : Int)), some (V.int (p2 n - 1)), some (V.int (g : Int))] ∧ Ex H H4 ∧ 3 ≤ g ∧ g ≤ lfac n ∧ g % 2 = 1 ∧ m' = lfac n - g, fun _ _ z => z, ?_⟩
      exact s_aug (f := fun a b => a + b) rfl ev_c fun H4 e4 => ⟨lfac n - (f + 2), by omega, f + 2, rfl, (e1.trans e2).trans e4, by omega, by omega, by omega, rfl⟩
    · intro hb H2 e2
      rw [dec_i, Bool.not_eq_false', decide_eq_true_eq, least_at h2 h64 hm f3 fl] at hb
      subst hb
      exact bl_go (bl_retE (ev_var rfl) (fun H3 e5 => k H3 ((e1.trans e2).trans e5)) rfl)
abbrev s_sum_grouping_conditions : Stmt := top 64
abbrev N_sum_grouping_conditions : List Str := ["width", "signs", "overflow", "division"]
theorem sc_sum_grouping_conditions : FnScope N_sum_grouping_conditions ["width", "signs", "overflow", "division"] (defScope s_sum_grouping_conditions) := ⟨rfl, rfl, rfl, by decide +kernel, rfl, by decide +kernel, by decide +kernel⟩
theorem ok_sum_grouping_conditions (T : Txt w K mg) (D0 : DefAtN K mg "sum_grouping_conditions" "_sum_grouping" s_sum_grouping_conditions)   : Cal P w K mg base CX0 1 "sum_grouping_conditions" ["width", "signs", "overflow", "division"] (Pu (R_sum_grouping_conditions K)) := by
  refine D0.cal sc_sum_grouping_conditions (fun vs H Q E h => by obtain ⟨v, ⟨_, rfl, _⟩, _⟩ := h; rfl) (fun _ _ _ _ _ _ us hl => match us, hl with | [_, _, _, _], _ => rfl) (fun f cdv A outer s H vs Q E hr h => ?_)
  obtain ⟨v, ⟨⟨w0, sg, ov, dv, h4, h64⟩, rfl, rfl⟩, k⟩ := h
  have hu := hu_of hr
  refine ⟨_, (pss_one (ps_ret (pe_or (pe_cmpR op_eq (pv 2) pe_str (nomark _)) (pe_one (pe_cmpR op_eq (pv 1) pe_str (nomark _)))))), bl_go ?_⟩
  walk_at "ret"
  refine congrArg V.bl ?_
  cases sg <;> cases ov <;> rfl
abbrev s_product_grouping_conditions : Stmt := top 66
abbrev N_product_grouping_conditions : List Str := ["width", "signs", "overflow", "division"]
theorem sc_product_grouping_conditions : FnScope N_product_grouping_conditions ["width", "signs", "overflow", "division"] (defScope s_product_grouping_conditions) := ⟨rfl, rfl, rfl, by decide +kernel, rfl, by decide +kernel, by decide +kernel⟩
theorem ok_product_grouping_conditions (T : Txt w K mg) (D0 : DefAtN K mg "product_grouping_conditions" "_product_grouping" s_product_grouping_conditions)   : Cal P w K mg base CX0 1 "product_grouping_conditions" ["width", "signs", "overflow", "division"] (Pu (R_product_grouping_conditions K)) := by
  refine D0.cal sc_product_grouping_conditions (fun vs H Q E h => by obtain ⟨v, ⟨_, rfl, _⟩, _⟩ := h; rfl) (fun _ _ _ _ _ _ us hl => match us, hl with | [_, _, _, _], _ => rfl) (fun f cdv A outer s H vs Q E hr h => ?_)
  obtain ⟨v, ⟨⟨w0, sg, ov, dv, h4, h64⟩, rfl, rfl⟩, k⟩ := h
  have hu := hu_of hr
  refine ⟨_, (pss_one (ps_ret (pe_or (pe_cmpR op_eq (pv 2) pe_str (nomark _)) (pe_one (pe_and (pe_cmpR op_eq (pv 2) pe_str (nomark _)) (pe_one (pe_cmpR op_ne (pv 1) pe_str (nomark _)))))))), bl_go ?_⟩
  walk_at "ret"
  refine congrArg V.bl ?_
  cases sg <;> cases ov <;> rfl
abbrev s_distribution_conditions : Stmt := top 68
abbrev N_distribution_conditions : List Str := ["width", "signs", "overflow", "division"]
theorem sc_distribution_conditions : FnScope N_distribution_conditions ["width", "signs", "overflow", "division"] (defScope s_distribution_conditions) := ⟨rfl, rfl, rfl, by decide +kernel, rfl, by decide +kernel, by decide +kernel⟩
theorem ok_distribution_conditions (T : Txt w K mg) (D0 : DefAtN K mg "distribution_conditions" "_distribution" s_distribution_conditions)   : Cal P w K mg base CX0 1 "distribution_conditions" ["width", "signs", "overflow", "division"] (Pu (R_distribution_conditions K)) := by
  refine D0.cal sc_distribution_conditions (fun vs H Q E h => by obtain ⟨v, ⟨_, rfl, _⟩, _⟩ := h; rfl) (fun _ _ _ _ _ _ us hl => match us, hl with | [_, _, _, _], _ => rfl) (fun f cdv A outer s H vs Q E hr h => ?_)
  obtain ⟨v, ⟨⟨w0, sg, ov, dv, h4, h64⟩, rfl, rfl⟩, k⟩ := h
  have hu := hu_of hr
  refine ⟨_, (pss_one (ps_ret (pe_or (pe_cmpR op_eq (pv 2) pe_str (nomark _)) (pe_one (pe_and (pe_cmpR op_eq (pv 2) pe_str (nomark _)) (pe_one (pe_cmpR op_eq (pv 1) pe_str (nomark _)))))))), bl_go ?_⟩
  walk_at "ret"
  refine congrArg V.bl ?_
  cases sg <;> cases ov <;> rfl
abbrev s__negatives : Stmt := top 70
abbrev N__negatives : List Str := ["width", "signs", "overflow", "division"]
theorem sc__negatives : FnScope N__negatives ["width", "signs", "overflow", "division"] (defScope s__negatives) := ⟨rfl, rfl, rfl, by decide +kernel, rfl, by decide +kernel, by decide +kernel⟩
theorem ok__negatives (T : Txt w K mg) (D0 : DefAt K mg "_negatives" s__negatives)   : Cal P w K mg base CX0 1 "_negatives" ["width", "signs", "overflow", "division"] (Pu (R__negatives K)) := by
  refine D0.cal sc__negatives (fun vs H Q E h => by obtain ⟨v, ⟨_, rfl, _⟩, _⟩ := h; rfl) (fun _ _ _ _ _ _ us hl => match us, hl with | [_, _, _, _], _ => rfl) (fun f cdv A outer s H vs Q E hr h => ?_)
  obtain ⟨v, ⟨⟨w0, sg, ov, dv, h4, h64⟩, rfl, rfl⟩, k⟩ := h
  have hu := hu_of hr
  refine ⟨_, (pss_one (ps_ret (pe_or (pe_cmpR op_eq (pv 1) pe_str (nomark _)) (pe_one (pe_cmpR op_eq (pv 2) pe_str (nomark _)))))), bl_go ?_⟩
  walk_at "ret"
  refine congrArg V.bl ?_
  cases sg <;> cases ov <;> rfl
abbrev s_add_back_conditions : Stmt := top 71
abbrev N_add_back_conditions : List Str := ["width", "signs", "overflow", "division"]
theorem sc_add_back_conditions : FnScope N_add_back_conditions ["width", "signs", "overflow", "division"] (defScope s_add_back_conditions) := ⟨rfl, rfl, rfl, by decide +kernel, rfl, by decide +kernel, by decide +kernel⟩
theorem ok_add_back_conditions (T : Txt w K mg) (D0 : DefAtN K mg "add_back_conditions" "_add_back" s_add_back_conditions)   : Cal P w K mg base CX0 1 "add_back_conditions" ["width", "signs", "overflow", "division"] (Pu (R_add_back_conditions K)) := by
  refine D0.cal sc_add_back_conditions (fun vs H Q E h => by obtain ⟨v, ⟨_, rfl, _⟩, _⟩ := h; rfl) (fun _ _ _ _ _ _ us hl => match us, hl with | [_, _, _, _], _ => rfl) (fun f cdv A outer s H vs Q E hr h => ?_)
  obtain ⟨v, ⟨⟨w0, sg, ov, dv, h4, h64⟩, rfl, rfl⟩, k⟩ := h
  have hu := hu_of hr
  refine ⟨_, (pss_one (ps_ret (pe_cmpR op_eq (pv 2) pe_str (nomark _)))), bl_go ?_⟩
  walk_at "ret"
  refine congrArg V.bl ?_
  cases sg <;> cases ov <;> rfl
abbrev s_division_conditions : Stmt := top 73
abbrev N_division_conditions : List Str := ["width", "signs", "overflow", "division"]
theorem sc_division_conditions : FnScope N_division_conditions ["width", "signs", "overflow", "division"] (defScope s_division_conditions) := ⟨rfl, rfl, rfl, by decide +kernel, rfl, by decide +kernel, by decide +kernel⟩
theorem ok_division_conditions (T : Txt w K mg) (D0 : DefAtN K mg "division_conditions" "_division" s_division_conditions)   : Cal P w K mg base CX0 1 "division_conditions" ["width", "signs", "overflow", "division"] (Pu (R_division_conditions K)) := by
  refine D0.cal sc_division_conditions (fun vs H Q E h => by obtain ⟨v, ⟨_, rfl, _⟩, _⟩ := h; rfl) (fun _ _ _ _ _ _ us hl => match us, hl with | [_, _, _, _], _ => rfl) (fun f cdv A outer s H vs Q E hr h => ?_)
  obtain ⟨v, ⟨⟨w0, sg, ov, dv, h4, h64⟩, rfl, rfl⟩, k⟩ := h
  have hu := hu_of hr
  refine ⟨_, (pss_cons (ps_if (pt_cmpR op_eq (pv 2) pe_str (nomark _)) (pss_one (ps_ret pe_bl)) pss_nil)
      (pss_cons (ps_if (pt_cmpR op_eq (pv 1) pe_str (nomark _)) (pss_one (ps_ret (pe_cmpR op_eq (pv 3) pe_str (nomark _)))) pss_nil)
      (pss_one (ps_ret (pe_and (pe_cmpR op_eq (pv 1) pe_str (nomark _)) (pe_one (pe_cmpR op_in_seq (pv 3) (pe_tup (pa_cons pe_str (pa_cons pe_str (pa_cons pe_str pa_nil)))) (by rfl)))))))), bl_go ?_⟩
  walk_at "if"
  · intro h
    walk_at "ret"
    cases ov <;> first | rfl | exact absurd (show false = true from h) (by decide) | exact absurd (show true = false from h) (by decide)
  intro h
  walk_at "if"
  · intro h2
    walk_at "ret"
    refine congrArg V.bl ?_
    cases sg <;> first | exact absurd (show false = true from h2) (by decide) | exact absurd (show true = false from h2) (by decide) | (cases ov <;> first | exact absurd (show false = true from h) (by decide) | exact absurd (show true = false from h) (by decide) | (cases dv <;> rfl))
  · intro h2
    walk_at "ret"
    refine congrArg V.bl ?_
    cases sg <;> first | exact absurd (show false = true from h2) (by decide) | exact absurd (show true = false from h2) (by decide) | (cases ov <;> first | exact absurd (show false = true from h) (by decide) | exact absurd (show true = false from h) (by decide) | (cases dv <;> rfl))
abbrev s_remainder_range_conditions : Stmt := top 75
abbrev N_remainder_range_conditions : List Str := ["width", "signs", "overflow", "division"]
theorem sc_remainder_range_conditions : FnScope N_remainder_range_conditions ["width", "signs", "overflow", "division"] (defScope s_remainder_range_conditions) := ⟨rfl, rfl, rfl, by decide +kernel, rfl, by decide +kernel, by decide +kernel⟩
theorem ok_remainder_range_conditions (T : Txt w K mg) (D0 : DefAtN K mg "remainder_range_conditions" "_remainder_range" s_remainder_range_conditions)   : Cal P w K mg base CX0 1 "remainder_range_conditions" ["width", "signs", "overflow", "division"] (Pu (R_remainder_range_conditions K)) := by
  refine D0.cal sc_remainder_range_conditions (fun vs H Q E h => by obtain ⟨v, ⟨_, rfl, _⟩, _⟩ := h; rfl) (fun _ _ _ _ _ _ us hl => match us, hl with | [_, _, _, _], _ => rfl) (fun f cdv A outer s H vs Q E hr h => ?_)
  obtain ⟨v, ⟨⟨w0, sg, ov, dv, h4, h64⟩, rfl, rfl⟩, k⟩ := h
  have hu := hu_of hr
  refine ⟨_, (pss_cons (ps_if (pt_cmpR op_eq (pv 3) pe_str (nomark _)) (pss_one (ps_ret pe_bl)) pss_nil)
      (pss_one (ps_ret (pe_and (pe_cmpR op_eq (pv 1) pe_str (nomark _)) (pe_one (pe_or (pe_cmpR op_in_seq (pv 3) (pe_tup (pa_cons pe_str (pa_cons pe_str pa_nil))) (by rfl)) (pe_one (pe_cmpR op_eq (pv 2) pe_str (nomark _))))))))), bl_go ?_⟩
  walk_at "if"
  · intro h
    walk_at "ret"
    cases dv <;> first | rfl | exact absurd (show false = true from h) (by decide) | exact absurd (show true = false from h) (by decide)
  · intro h
    walk_at "ret"
    refine congrArg V.bl ?_
    cases sg <;> cases ov <;> cases dv <;> first | rfl | exact absurd (show false = true from h) (by decide) | exact absurd (show true = false from h) (by decide)
abbrev s_negated_quotient_conditions : Stmt := top 77
abbrev N_negated_quotient_conditions : List Str := ["width", "signs", "overflow", "division"]
theorem sc_negated_quotient_conditions : FnScope N_negated_quotient_conditions ["width", "signs", "overflow", "division"] (defScope s_negated_quotient_conditions) := ⟨rfl, rfl, rfl, by decide +kernel, rfl, by decide +kernel, by decide +kernel⟩
theorem ok_negated_quotient_conditions (T : Txt w K mg) (D0 : DefAtN K mg "negated_quotient_conditions" "_negated_quotient" s_negated_quotient_conditions)   : Cal P w K mg base CX0 1 "negated_quotient_conditions" ["width", "signs", "overflow", "division"] (Pu (R_negated_quotient_conditions K)) := by
  refine D0.cal sc_negated_quotient_conditions (fun vs H Q E h => by obtain ⟨v, ⟨_, rfl, _⟩, _⟩ := h; rfl) (fun _ _ _ _ _ _ us hl => match us, hl with | [_, _, _, _], _ => rfl) (fun f cdv A outer s H vs Q E hr h => ?_)
  obtain ⟨v, ⟨⟨w0, sg, ov, dv, h4, h64⟩, rfl, rfl⟩, k⟩ := h
  have hu := hu_of hr
  refine ⟨_, (pss_cons (ps_if (pt_cmpR op_eq (pv 1) pe_str (nomark _)) (pss_one (ps_ret (pe_cmpR op_in_seq (pv 3) (pe_tup (pa_cons pe_str (pa_cons pe_str pa_nil))) (by rfl)))) pss_nil)
      (pss_cons (ps_if (pt_cmpR op_eq (pv 1) pe_str (nomark _)) (pss_one (ps_ret (pe_or (pe_cmpR op_eq (pv 2) pe_str (nomark _)) (pe_one (pe_and (pe_cmpR op_eq (pv 2) pe_str (nomark _)) (pe_one (pe_cmpR op_eq (pv 3) pe_str (nomark _)))))))) pss_nil)
      (pss_one (ps_ret pe_bl)))), bl_go ?_⟩
  walk_at "if"
  · intro h
    walk_at "ret"
    refine congrArg V.bl ?_
    cases sg <;> first | exact absurd (show false = true from h) (by decide) | exact absurd (show true = false from h) (by decide) | (cases ov <;> cases dv <;> rfl)
  intro h
  walk_at "if"
  · intro h2
    walk_at "ret"
    refine congrArg V.bl ?_
    cases sg <;> first | exact absurd (show false = true from h) (by decide) | exact absurd (show true = false from h) (by decide) | exact absurd (show false = true from h2) (by decide) | exact absurd (show true = false from h2) (by decide) | (cases ov <;> cases dv <;> rfl)
  · intro h2
    walk_at "ret"
    refine congrArg V.bl ?_
    cases sg <;> first | exact absurd (show false = true from h) (by decide) | exact absurd (show true = false from h) (by decide) | exact absurd (show false = true from h2) (by decide) | exact absurd (show true = false from h2) (by decide) | (cases ov <;> cases dv <;> rfl)
abbrev s_shift_conditions : Stmt := top 79
abbrev N_shift_conditions : List Str := ["width", "signs", "overflow", "division"]
theorem sc_shift_conditions : FnScope N_shift_conditions ["width", "signs", "overflow", "division"] (defScope s_shift_conditions) := ⟨rfl, rfl, rfl, by decide +kernel, rfl, by decide +kernel, by decide +kernel⟩
theorem ok_shift_conditions (T : Txt w K mg) (D0 : DefAtN K mg "shift_conditions" "_shift" s_shift_conditions)   : Cal P w K mg base CX0 1 "shift_conditions" ["width", "signs", "overflow", "division"] (Pu (R_shift_conditions K)) := by
  refine D0.cal sc_shift_conditions (fun vs H Q E h => by obtain ⟨v, ⟨_, rfl, _⟩, _⟩ := h; rfl) (fun _ _ _ _ _ _ us hl => match us, hl with | [_, _, _, _], _ => rfl) (fun f cdv A outer s H vs Q E hr h => ?_)
  obtain ⟨v, ⟨⟨w0, sg, ov, dv, h4, h64⟩, rfl, rfl⟩, k⟩ := h
  have hu := hu_of hr
  refine ⟨_, (pss_one (ps_ret (pe_or (pe_cmpR op_in_seq (pv 3) (pe_tup (pa_cons pe_str (pa_cons pe_str pa_nil))) (by rfl)) (pe_one (pe_and (pe_cmpR op_eq (pv 1) pe_str (nomark _)) (pe_one (pe_cmpR op_eq (pv 3) pe_str (nomark _)))))))), bl_go ?_⟩
  walk_at "ret"
  refine congrArg V.bl ?_
  cases sg <;> cases dv <;> rfl
abbrev s_absolute_value_conditions : Stmt := top 81
abbrev N_absolute_value_conditions : List Str := ["width", "signs", "overflow", "division"]
theorem sc_absolute_value_conditions : FnScope N_absolute_value_conditions ["width", "signs", "overflow", "division"] (defScope s_absolute_value_conditions) := ⟨rfl, rfl, rfl, by decide +kernel, rfl, by decide +kernel, by decide +kernel⟩
theorem ok_absolute_value_conditions (T : Txt w K mg) (D0 : DefAtN K mg "absolute_value_conditions" "_absolute_value" s_absolute_value_conditions)   : Cal P w K mg base CX0 1 "absolute_value_conditions" ["width", "signs", "overflow", "division"] (Pu (R_absolute_value_conditions K)) := by
  refine D0.cal sc_absolute_value_conditions (fun vs H Q E h => by obtain ⟨v, ⟨_, rfl, _⟩, _⟩ := h; rfl) (fun _ _ _ _ _ _ us hl => match us, hl with | [_, _, _, _], _ => rfl) (fun f cdv A outer s H vs Q E hr h => ?_)
  obtain ⟨v, ⟨⟨w0, sg, ov, dv, h4, h64⟩, rfl, rfl⟩, k⟩ := h
  have hu := hu_of hr
  refine ⟨_, (pss_one (ps_ret (pe_or (pe_cmpR op_ne (pv 1) pe_str (nomark _)) (pe_one (pe_cmpR op_eq (pv 2) pe_str (nomark _)))))), bl_go ?_⟩
  walk_at "ret"
  refine congrArg V.bl ?_
  cases sg <;> cases ov <;> rfl
abbrev s_order_by_difference_conditions : Stmt := top 83
abbrev N_order_by_difference_conditions : List Str := ["width", "signs", "overflow", "division"]
theorem sc_order_by_difference_conditions : FnScope N_order_by_difference_conditions ["width", "signs", "overflow", "division"] (defScope s_order_by_difference_conditions) := ⟨rfl, rfl, rfl, by decide +kernel, rfl, by decide +kernel, by decide +kernel⟩
theorem ok_order_by_difference_conditions (T : Txt w K mg) (D0 : DefAtN K mg "order_by_difference_conditions" "_order_by_difference" s_order_by_difference_conditions)   : Cal P w K mg base CX0 1 "order_by_difference_conditions" ["width", "signs", "overflow", "division"] (Pu (R_order_by_difference_conditions K)) := by
  refine D0.cal sc_order_by_difference_conditions (fun vs H Q E h => by obtain ⟨v, ⟨_, rfl, _⟩, _⟩ := h; rfl) (fun _ _ _ _ _ _ us hl => match us, hl with | [_, _, _, _], _ => rfl) (fun f cdv A outer s H vs Q E hr h => ?_)
  obtain ⟨v, ⟨⟨w0, sg, ov, dv, h4, h64⟩, rfl, rfl⟩, k⟩ := h
  have hu := hu_of hr
  refine ⟨_, (pss_one (ps_ret (pe_and (pe_cmpR op_eq (pv 2) pe_str (nomark _)) (pe_one (pe_cmpR op_ne (pv 1) pe_str (nomark _)))))), bl_go ?_⟩
  walk_at "ret"
  refine congrArg V.bl ?_
  cases sg <;> cases ov <;> rfl
abbrev s_monotone_sum_conditions : Stmt := top 85
abbrev N_monotone_sum_conditions : List Str := ["width", "signs", "overflow", "division"]
theorem sc_monotone_sum_conditions : FnScope N_monotone_sum_conditions ["width", "signs", "overflow", "division"] (defScope s_monotone_sum_conditions) := ⟨rfl, rfl, rfl, by decide +kernel, rfl, by decide +kernel, by decide +kernel⟩
theorem ok_monotone_sum_conditions (T : Txt w K mg) (D0 : DefAtN K mg "monotone_sum_conditions" "_monotone_sum" s_monotone_sum_conditions)   : Cal P w K mg base CX0 1 "monotone_sum_conditions" ["width", "signs", "overflow", "division"] (Pu (R_monotone_sum_conditions K)) := by
  refine D0.cal sc_monotone_sum_conditions (fun vs H Q E h => by obtain ⟨v, ⟨_, rfl, _⟩, _⟩ := h; rfl) (fun _ _ _ _ _ _ us hl => match us, hl with | [_, _, _, _], _ => rfl) (fun f cdv A outer s H vs Q E hr h => ?_)
  obtain ⟨v, ⟨⟨w0, sg, ov, dv, h4, h64⟩, rfl, rfl⟩, k⟩ := h
  have hu := hu_of hr
  refine ⟨_, (pss_one (ps_ret (pe_cmpR op_eq (pv 2) pe_str (nomark _)))), bl_go ?_⟩
  walk_at "ret"
  refine congrArg V.bl ?_
  cases sg <;> cases ov <;> rfl
abbrev s_average_conditions : Stmt := top 87
abbrev N_average_conditions : List Str := ["width", "signs", "overflow", "division"]
theorem sc_average_conditions : FnScope N_average_conditions ["width", "signs", "overflow", "division"] (defScope s_average_conditions) := ⟨rfl, rfl, rfl, by decide +kernel, rfl, by decide +kernel, by decide +kernel⟩
theorem ok_average_conditions (T : Txt w K mg) (D0 : DefAtN K mg "average_conditions" "_average" s_average_conditions)   : Cal P w K mg base CX0 1 "average_conditions" ["width", "signs", "overflow", "division"] (Pu (R_average_conditions K)) := by
  refine D0.cal sc_average_conditions (fun vs H Q E h => by obtain ⟨v, ⟨_, rfl, _⟩, _⟩ := h; rfl) (fun _ _ _ _ _ _ us hl => match us, hl with | [_, _, _, _], _ => rfl) (fun f cdv A outer s H vs Q E hr h => ?_)
  obtain ⟨v, ⟨⟨w0, sg, ov, dv, h4, h64⟩, rfl, rfl⟩, k⟩ := h
  have hu := hu_of hr
  refine ⟨_, (pss_one (ps_ret (pe_or (pe_cmpR op_eq (pv 1) pe_str (nomark _)) (pe_one (pe_cmpR op_eq (pv 2) pe_str (nomark _)))))), bl_go ?_⟩
  walk_at "ret"
  refine congrArg V.bl ?_
  cases sg <;> cases ov <;> rfl
abbrev s_square_conditions : Stmt := top 89
abbrev N_square_conditions : List Str := ["width", "signs", "overflow", "division"]
theorem sc_square_conditions : FnScope N_square_conditions ["width", "signs", "overflow", "division"] (defScope s_square_conditions) := ⟨rfl, rfl, rfl, by decide +kernel, rfl, by decide +kernel, by decide +kernel⟩
theorem ok_square_conditions (T : Txt w K mg) (D0 : DefAtN K mg "square_conditions" "_square" s_square_conditions)   : Cal P w K mg base CX0 1 "square_conditions" ["width", "signs", "overflow", "division"] (Pu (R_square_conditions K)) := by
  refine D0.cal sc_square_conditions (fun vs H Q E h => by obtain ⟨v, ⟨_, rfl, _⟩, _⟩ := h; rfl) (fun _ _ _ _ _ _ us hl => match us, hl with | [_, _, _, _], _ => rfl) (fun f cdv A outer s H vs Q E hr h => ?_)
  obtain ⟨v, ⟨⟨w0, sg, ov, dv, h4, h64⟩, rfl, rfl⟩, k⟩ := h
  have hu := hu_of hr
  refine ⟨_, (pss_one (ps_ret (pe_or (pe_cmpR op_eq (pv 2) pe_str (nomark _)) (pe_one (pe_and (pe_cmpR op_eq (pv 1) pe_str (nomark _)) (pe_one (pe_cmpR op_eq (pv 2) pe_str (nomark _)))))))), bl_go ?_⟩
  walk_at "ret"
  refine congrArg V.bl ?_
  cases sg <;> cases ov <;> rfl
abbrev s_zero_product_conditions : Stmt := top 91
abbrev N_zero_product_conditions : List Str := ["width", "signs", "overflow", "division"]
theorem sc_zero_product_conditions : FnScope N_zero_product_conditions ["width", "signs", "overflow", "division"] (defScope s_zero_product_conditions) := ⟨rfl, rfl, rfl, by decide +kernel, rfl, by decide +kernel, by decide +kernel⟩
theorem ok_zero_product_conditions (T : Txt w K mg) (D0 : DefAtN K mg "zero_product_conditions" "_zero_product" s_zero_product_conditions) (c_is_mersenne : Cal P w K mg base CX0 3 "is_mersenne" ["w"] (Pu (R_is_mersenne K)))  : Cal P w K mg base CX0 4 "zero_product_conditions" ["width", "signs", "overflow", "division"] (Pu (R_zero_product_conditions K)) := by
  refine D0.cal sc_zero_product_conditions (fun vs H Q E h => by obtain ⟨v, ⟨_, rfl, _⟩, _⟩ := h; rfl) (fun _ _ _ _ _ _ us hl => match us, hl with | [_, _, _, _], _ => rfl) (fun f cdv A outer s H vs Q E hr h => ?_)
  obtain ⟨v, ⟨⟨w0, sg, ov, dv, h4, h64⟩, rfl, rfl⟩, k⟩ := h
  have hu := hu_of hr
  refine ⟨_, (pss_one (ps_ret (pe_or (pe_cmpR op_ne (pv 2) pe_str (nomark _)) (pe_one (pe_and (pe_cmpR op_eq (pv 1) pe_str (nomark _)) (pe_one (pe_own c_is_mersenne (hr.mono (by decide)) rfl pass0 (pa_cons (pv 0) pa_nil)))))))), bl_go ?_⟩
  have w2 : 2 ≤ w0 := by omega
  walk_at "ret"
  refine congrArg V.bl ?_
  cases sg <;> cases ov <;> rfl
abbrev s_cancellation_conditions : Stmt := top 93
abbrev N_cancellation_conditions : List Str := ["width", "signs", "overflow", "division"]
theorem sc_cancellation_conditions : FnScope N_cancellation_conditions ["width", "signs", "overflow", "division"] (defScope s_cancellation_conditions) := ⟨rfl, rfl, rfl, by decide +kernel, rfl, by decide +kernel, by decide +kernel⟩
theorem ok_cancellation_conditions (T : Txt w K mg) (D0 : DefAtN K mg "cancellation_conditions" "_cancellation" s_cancellation_conditions) (c_is_mersenne : Cal P w K mg base CX0 3 "is_mersenne" ["w"] (Pu (R_is_mersenne K)))  : Cal P w K mg base CX0 4 "cancellation_conditions" ["width", "signs", "overflow", "division"] (Pu (R_cancellation_conditions K)) := by
  refine D0.cal sc_cancellation_conditions (fun vs H Q E h => by obtain ⟨v, ⟨_, rfl, _⟩, _⟩ := h; rfl) (fun _ _ _ _ _ _ us hl => match us, hl with | [_, _, _, _], _ => rfl) (fun f cdv A outer s H vs Q E hr h => ?_)
  obtain ⟨v, ⟨⟨w0, sg, ov, dv, h4, h64⟩, rfl, rfl⟩, k⟩ := h
  have hu := hu_of hr
  refine ⟨_, (pss_one (ps_ret (pe_and (pe_cmpR op_eq (pv 2) pe_str (nomark _)) (pe_and (pe_cmpR op_eq (pv 1) pe_str (nomark _)) (pe_one (pe_own c_is_mersenne (hr.mono (by decide)) rfl pass0 (pa_cons (pv 0) pa_nil))))))), bl_go ?_⟩
  have w2 : 2 ≤ w0 := by omega
  walk_at "ret"
  refine congrArg V.bl ?_
  cases sg <;> cases ov <;> rfl
def R_cond (K : PySem.W.Frag) (r : Rl) : List V → Hp → V → Prop := fun vs H v => ∃ f : Fmt, vs = fV f ∧ v = .bl (holdsB f r)
def fam_CONDITIONS (K : PySem.W.Frag) : V → Sp → Prop := fun y sp => ∃ r : Rl, y = .ref (He.ga K (nm_CONDITIONS r)) ∧ sp = Pu (R_cond K r)
theorem famOk_CONDITIONS (g_sum_grouping_conditions : mg "sum_grouping_conditions" = some (.ref (He.ga K "sum_grouping_conditions"))) (g_product_grouping_conditions : mg "product_grouping_conditions" = some (.ref (He.ga K "product_grouping_conditions"))) (g_distribution_conditions : mg "distribution_conditions" = some (.ref (He.ga K "distribution_conditions"))) (g__negatives : mg "_negatives" = some (.ref (He.ga K "_negatives"))) (g_add_back_conditions : mg "add_back_conditions" = some (.ref (He.ga K "add_back_conditions"))) (g_division_conditions : mg "division_conditions" = some (.ref (He.ga K "division_conditions"))) (g_remainder_range_conditions : mg "remainder_range_conditions" = some (.ref (He.ga K "remainder_range_conditions"))) (g_negated_quotient_conditions : mg "negated_quotient_conditions" = some (.ref (He.ga K "negated_quotient_conditions"))) (g_shift_conditions : mg "shift_conditions" = some (.ref (He.ga K "shift_conditions"))) (g_absolute_value_conditions : mg "absolute_value_conditions" = some (.ref (He.ga K "absolute_value_conditions"))) (g_order_by_difference_conditions : mg "order_by_difference_conditions" = some (.ref (He.ga K "order_by_difference_conditions"))) (g_monotone_sum_conditions : mg "monotone_sum_conditions" = some (.ref (He.ga K "monotone_sum_conditions"))) (g_average_conditions : mg "average_conditions" = some (.ref (He.ga K "average_conditions"))) (g_square_conditions : mg "square_conditions" = some (.ref (He.ga K "square_conditions"))) (g_zero_product_conditions : mg "zero_product_conditions" = some (.ref (He.ga K "zero_product_conditions"))) (g_cancellation_conditions : mg "cancellation_conditions" = some (.ref (He.ga K "cancellation_conditions"))) (c_sum_grouping_conditions : Cal P w K mg base CX0 1 "sum_grouping_conditions" ["width", "signs", "overflow", "division"] (Pu (R_sum_grouping_conditions K))) (c_product_grouping_conditions : Cal P w K mg base CX0 1 "product_grouping_conditions" ["width", "signs", "overflow", "division"] (Pu (R_product_grouping_conditions K))) (c_distribution_conditions : Cal P w K mg base CX0 1 "distribution_conditions" ["width", "signs", "overflow", "division"] (Pu (R_distribution_conditions K))) (c__negatives : Cal P w K mg base CX0 1 "_negatives" ["width", "signs", "overflow", "division"] (Pu (R__negatives K))) (c_add_back_conditions : Cal P w K mg base CX0 1 "add_back_conditions" ["width", "signs", "overflow", "division"] (Pu (R_add_back_conditions K))) (c_division_conditions : Cal P w K mg base CX0 1 "division_conditions" ["width", "signs", "overflow", "division"] (Pu (R_division_conditions K))) (c_remainder_range_conditions : Cal P w K mg base CX0 1 "remainder_range_conditions" ["width", "signs", "overflow", "division"] (Pu (R_remainder_range_conditions K))) (c_negated_quotient_conditions : Cal P w K mg base CX0 1 "negated_quotient_conditions" ["width", "signs", "overflow", "division"] (Pu (R_negated_quotient_conditions K))) (c_shift_conditions : Cal P w K mg base CX0 1 "shift_conditions" ["width", "signs", "overflow", "division"] (Pu (R_shift_conditions K))) (c_absolute_value_conditions : Cal P w K mg base CX0 1 "absolute_value_conditions" ["width", "signs", "overflow", "division"] (Pu (R_absolute_value_conditions K))) (c_order_by_difference_conditions : Cal P w K mg base CX0 1 "order_by_difference_conditions" ["width", "signs", "overflow", "division"] (Pu (R_order_by_difference_conditions K))) (c_monotone_sum_conditions : Cal P w K mg base CX0 1 "monotone_sum_conditions" ["width", "signs", "overflow", "division"] (Pu (R_monotone_sum_conditions K))) (c_average_conditions : Cal P w K mg base CX0 1 "average_conditions" ["width", "signs", "overflow", "division"] (Pu (R_average_conditions K))) (c_square_conditions : Cal P w K mg base CX0 1 "square_conditions" ["width", "signs", "overflow", "division"] (Pu (R_square_conditions K))) (c_zero_product_conditions : Cal P w K mg base CX0 4 "zero_product_conditions" ["width", "signs", "overflow", "division"] (Pu (R_zero_product_conditions K))) (c_cancellation_conditions : Cal P w K mg base CX0 4 "cancellation_conditions" ["width", "signs", "overflow", "division"] (Pu (R_cancellation_conditions K))) : FamOk P w K mg base CX0 4 (fam_CONDITIONS K) := by
  rintro y sp ⟨r, rfl, rfl⟩
  cases r
  · obtain ⟨g, hm, F, hk⟩ := c_sum_grouping_conditions.raw
    rw [g_sum_grouping_conditions] at hm
    cases hm
    refine ⟨_, rfl, (F.mono (by decide)).imp fun vs H Q E h => ?_, hk⟩
    obtain ⟨v, ⟨f, rfl, rfl⟩, k⟩ := h
    exact ⟨_, ⟨f, rfl, rfl⟩, k⟩
  · obtain ⟨g, hm, F, hk⟩ := c_product_grouping_conditions.raw
    rw [g_product_grouping_conditions] at hm
    cases hm
    refine ⟨_, rfl, (F.mono (by decide)).imp fun vs H Q E h => ?_, hk⟩
    obtain ⟨v, ⟨f, rfl, rfl⟩, k⟩ := h
    exact ⟨_, ⟨f, rfl, rfl⟩, k⟩
  · obtain ⟨g, hm, F, hk⟩ := c_distribution_conditions.raw
    rw [g_distribution_conditions] at hm
    cases hm
    refine ⟨_, rfl, (F.mono (by decide)).imp fun vs H Q E h => ?_, hk⟩
    obtain ⟨v, ⟨f, rfl, rfl⟩, k⟩ := h
    exact ⟨_, ⟨f, rfl, rfl⟩, k⟩
  · obtain ⟨g, hm, F, hk⟩ := c__negatives.raw
    rw [g__negatives] at hm
    cases hm
    refine ⟨_, rfl, (F.mono (by decide)).imp fun vs H Q E h => ?_, hk⟩
    obtain ⟨v, ⟨f, rfl, rfl⟩, k⟩ := h
    exact ⟨_, ⟨f, rfl, rfl⟩, k⟩
  · obtain ⟨g, hm, F, hk⟩ := c__negatives.raw
    rw [g__negatives] at hm
    cases hm
    refine ⟨_, rfl, (F.mono (by decide)).imp fun vs H Q E h => ?_, hk⟩
    obtain ⟨v, ⟨f, rfl, rfl⟩, k⟩ := h
    exact ⟨_, ⟨f, rfl, rfl⟩, k⟩
  · obtain ⟨g, hm, F, hk⟩ := c_add_back_conditions.raw
    rw [g_add_back_conditions] at hm
    cases hm
    refine ⟨_, rfl, (F.mono (by decide)).imp fun vs H Q E h => ?_, hk⟩
    obtain ⟨v, ⟨f, rfl, rfl⟩, k⟩ := h
    exact ⟨_, ⟨f, rfl, rfl⟩, k⟩
  · obtain ⟨g, hm, F, hk⟩ := c_division_conditions.raw
    rw [g_division_conditions] at hm
    cases hm
    refine ⟨_, rfl, (F.mono (by decide)).imp fun vs H Q E h => ?_, hk⟩
    obtain ⟨v, ⟨f, rfl, rfl⟩, k⟩ := h
    exact ⟨_, ⟨f, rfl, rfl⟩, k⟩
  · obtain ⟨g, hm, F, hk⟩ := c_remainder_range_conditions.raw
    rw [g_remainder_range_conditions] at hm
    cases hm
    refine ⟨_, rfl, (F.mono (by decide)).imp fun vs H Q E h => ?_, hk⟩
    obtain ⟨v, ⟨f, rfl, rfl⟩, k⟩ := h
    exact ⟨_, ⟨f, rfl, rfl⟩, k⟩
  · obtain ⟨g, hm, F, hk⟩ := c_negated_quotient_conditions.raw
    rw [g_negated_quotient_conditions] at hm
    cases hm
    refine ⟨_, rfl, (F.mono (by decide)).imp fun vs H Q E h => ?_, hk⟩
    obtain ⟨v, ⟨f, rfl, rfl⟩, k⟩ := h
    exact ⟨_, ⟨f, rfl, rfl⟩, k⟩
  · obtain ⟨g, hm, F, hk⟩ := c_shift_conditions.raw
    rw [g_shift_conditions] at hm
    cases hm
    refine ⟨_, rfl, (F.mono (by decide)).imp fun vs H Q E h => ?_, hk⟩
    obtain ⟨v, ⟨f, rfl, rfl⟩, k⟩ := h
    exact ⟨_, ⟨f, rfl, rfl⟩, k⟩
  · obtain ⟨g, hm, F, hk⟩ := c_absolute_value_conditions.raw
    rw [g_absolute_value_conditions] at hm
    cases hm
    refine ⟨_, rfl, (F.mono (by decide)).imp fun vs H Q E h => ?_, hk⟩
    obtain ⟨v, ⟨f, rfl, rfl⟩, k⟩ := h
    exact ⟨_, ⟨f, rfl, rfl⟩, k⟩
  · obtain ⟨g, hm, F, hk⟩ := c_order_by_difference_conditions.raw
    rw [g_order_by_difference_conditions] at hm
    cases hm
    refine ⟨_, rfl, (F.mono (by decide)).imp fun vs H Q E h => ?_, hk⟩
    obtain ⟨v, ⟨f, rfl, rfl⟩, k⟩ := h
    exact ⟨_, ⟨f, rfl, rfl⟩, k⟩
  · obtain ⟨g, hm, F, hk⟩ := c_monotone_sum_conditions.raw
    rw [g_monotone_sum_conditions] at hm
    cases hm
    refine ⟨_, rfl, (F.mono (by decide)).imp fun vs H Q E h => ?_, hk⟩
    obtain ⟨v, ⟨f, rfl, rfl⟩, k⟩ := h
    exact ⟨_, ⟨f, rfl, rfl⟩, k⟩
  · obtain ⟨g, hm, F, hk⟩ := c_average_conditions.raw
    rw [g_average_conditions] at hm
    cases hm
    refine ⟨_, rfl, (F.mono (by decide)).imp fun vs H Q E h => ?_, hk⟩
    obtain ⟨v, ⟨f, rfl, rfl⟩, k⟩ := h
    exact ⟨_, ⟨f, rfl, rfl⟩, k⟩
  · obtain ⟨g, hm, F, hk⟩ := c_square_conditions.raw
    rw [g_square_conditions] at hm
    cases hm
    refine ⟨_, rfl, (F.mono (by decide)).imp fun vs H Q E h => ?_, hk⟩
    obtain ⟨v, ⟨f, rfl, rfl⟩, k⟩ := h
    exact ⟨_, ⟨f, rfl, rfl⟩, k⟩
  · obtain ⟨g, hm, F, hk⟩ := c_zero_product_conditions.raw
    rw [g_zero_product_conditions] at hm
    cases hm
    refine ⟨_, rfl, (F.mono (by decide)).imp fun vs H Q E h => ?_, hk⟩
    obtain ⟨v, ⟨f, rfl, rfl⟩, k⟩ := h
    exact ⟨_, ⟨f, rfl, rfl⟩, k⟩
  · obtain ⟨g, hm, F, hk⟩ := c_cancellation_conditions.raw
    rw [g_cancellation_conditions] at hm
    cases hm
    refine ⟨_, rfl, (F.mono (by decide)).imp fun vs H Q E h => ?_, hk⟩
    obtain ⟨v, ⟨f, rfl, rfl⟩, k⟩ := h
    exact ⟨_, ⟨f, rfl, rfl⟩, k⟩
def R_meets_condition (K : PySem.W.Frag) : List V → Hp → V → Prop := fun vs H v => ∃ (p : Addr) (f : Fmt) (r : Rl), vs = [.ref p, .str (rlS r)] ∧ (SqT K H p (fV f)) ∧ v = .bl (holdsB f r)
theorem r_meets_condition {K : PySem.W.Frag} {H : Hp} {p : Addr} {f : Fmt} {r : Rl} (h0 : SqT K H p (fV f)) : R_meets_condition K [.ref p, .str (rlS r)] H (.bl (holdsB f r)) := ⟨_, _, _, rfl, h0, rfl⟩
def R_holds (K : PySem.W.Frag) : List V → Hp → V → Prop := fun vs H v => ∃ (p : Addr) (f : Fmt) (r : Rl), vs = [.ref p, .str (rlS r)] ∧ (SqT K H p (fV f)) ∧ v = .bl (holdsB f r)
theorem r_holds {K : PySem.W.Frag} {H : Hp} {p : Addr} {f : Fmt} {r : Rl} (h0 : SqT K H p (fV f)) : R_holds K [.ref p, .str (rlS r)] H (.bl (holdsB f r)) := ⟨_, _, _, rfl, h0, rfl⟩
local macro_rules | `(tactic| walk_at "own") => `(tactic| first
  | exact r_is_whole (by first | assumption | exact .int _ | exact Wh.ex (by assumption) (by assumption))
  | exact r_are_choices 
  | exact r_is_format (ex_t (by assumption) (by assumption))
  | exact r_check_format (ex_t (by assumption) (by assumption))
  | exact r_ends (ex_t (by assumption) (by assumption))
  | exact r_lowest (ex_t (by assumption) (by assumption))
  | exact r_highest (ex_t (by assumption) (by assumption))
  | exact r_terms_of (ex_t (by assumption) (by assumption))
  | exact r_fitted (ex_t (by assumption) (by assumption))
  | exact r__quotient_to_zero (by assumption) (by assumption) (by assumption)
  | exact r__quotient_to_even (by assumption) (by assumption) (by assumption)
  | exact r__quotient_of_euclid (by assumption) (by assumption) (by assumption)
  | exact r__exact_quotient (by assumption) (by assumption) (by assumption)
  | ((with_reducible apply r_plus_G); (exact (ex_t (by assumption) (by assumption))); (walk_at "isr"); (walk_at "isr"))
  | ((with_reducible apply r_minus_G); (exact (ex_t (by assumption) (by assumption))); (walk_at "isr"); (walk_at "isr"))
  | ((with_reducible apply r_times_G); (exact (ex_t (by assumption) (by assumption))); (walk_at "isr"); (walk_at "isr"); (walk_at "osm"); (walk_at "osm"))
  | ((with_reducible apply r_quotient_G); (exact (ex_t (by assumption) (by assumption))); (walk_at "isr"); (walk_at "isr"); (walk_at "osm"); (walk_at "osm"); (walk_at "nz"))
  | ((with_reducible apply r_opposite_G); (exact (ex_t (by assumption) (by assumption))); (walk_at "isr"))
  | exact r_rest (ex_t (by assumption) (by assumption)) (by assumption) (by assumption) (by assumption)
  | ((with_reducible apply r__at_most_G); (walk_at "isr"); (walk_at "isr"))
  | ((with_reducible apply r__below_G); (walk_at "isr"); (walk_at "isr"))
  | exact r_sum_grouping_rules (ex_t (by assumption) (by assumption)) (by assumption) (by assumption) (by assumption)
  | exact r_product_grouping_rules (ex_t (by assumption) (by assumption)) (by assumption) (by assumption) (by assumption)
  | exact r_distribution_rules (ex_t (by assumption) (by assumption)) (by assumption) (by assumption) (by assumption)
  | exact r_double_negation_rules (ex_t (by assumption) (by assumption)) (by assumption)
  | exact r_difference_rules (ex_t (by assumption) (by assumption)) (by assumption) (by assumption)
  | exact r_add_back_rules (ex_t (by assumption) (by assumption)) (by assumption) (by assumption)
  | exact r_division_rules (ex_t (by assumption) (by assumption)) (by assumption) (by assumption)
  | exact r_remainder_range_rules (ex_t (by assumption) (by assumption)) (by assumption) (by assumption)
  | exact r_negated_quotient_rules (ex_t (by assumption) (by assumption)) (by assumption) (by assumption)
  | exact r_shift_rules (ex_t (by assumption) (by assumption)) (by assumption)
  | exact r_absolute_value_rules (ex_t (by assumption) (by assumption)) (by assumption)
  | exact r_order_by_difference_rules (ex_t (by assumption) (by assumption)) (by assumption) (by assumption)
  | exact r_monotone_sum_rules (ex_t (by assumption) (by assumption)) (by assumption) (by assumption) (by assumption)
  | exact r_average_rules (ex_t (by assumption) (by assumption)) (by assumption) (by assumption)
  | exact r_square_rules (ex_t (by assumption) (by assumption)) (by assumption)
  | exact r_zero_product_rules (ex_t (by assumption) (by assumption)) (by assumption) (by assumption)
  | exact r_cancellation_rules (ex_t (by assumption) (by assumption)) (by assumption) (by assumption) (by assumption)
  | exact r_is_rule 
  | exact r_check_rule 
  | exact r__check_numbers (ex_t (by assumption) (by assumption)) (ex_t (by assumption) (by assumption)) (by assumption) (by assumption) (by assumption)
  | exact r_holds_for (ex_t (by assumption) (by assumption)) (ex_t (by assumption) (by assumption)) (by assumption) (by assumption)
  | exact r__check_exponent (by assumption) (by assumption)
  | exact r__passes_lucas_lehmer (by assumption) (by assumption) (by assumption)
  | exact r_is_mersenne (by assumption) (by assumption)
  | exact r_least_factor (by assumption) (by assumption)
  | exact r_sum_grouping_conditions 
  | exact r_product_grouping_conditions 
  | exact r_distribution_conditions 
  | exact r__negatives 
  | exact r_add_back_conditions 
  | exact r_division_conditions 
  | exact r_remainder_range_conditions 
  | exact r_negated_quotient_conditions 
  | exact r_shift_conditions 
  | exact r_absolute_value_conditions 
  | exact r_order_by_difference_conditions 
  | exact r_monotone_sum_conditions 
  | exact r_average_conditions 
  | exact r_square_conditions 
  | exact r_zero_product_conditions 
  | exact r_cancellation_conditions 
  | exact r_meets_condition (ex_t (by assumption) (by assumption))
  | exact r_holds (ex_t (by assumption) (by assumption)))
abbrev s_meets_condition : Stmt := top 63
abbrev N_meets_condition : List Str := ["form", "rule", "condition"]
theorem sc_meets_condition : FnScope N_meets_condition ["form", "rule"] (defScope s_meets_condition) := ⟨rfl, rfl, rfl, by decide +kernel, rfl, by decide +kernel, by decide +kernel⟩
theorem ok_meets_condition (T : Txt w K mg) (D0 : DefAt K mg "meets_condition" s_meets_condition)  (F_CONDITIONS : FamOk P w K mg base CX0 4 (fam_CONDITIONS K)) : Cal P w K mg base CX0 5 "meets_condition" ["form", "rule"] (Pu (R_meets_condition K)) := by
  refine D0.cal sc_meets_condition (fun vs H Q E h => by obtain ⟨v, ⟨_, _, _, rfl, _⟩, _⟩ := h; rfl) (fun _ _ _ _ _ _ us hl => match us, hl with | [_, _], _ => rfl) (fun f cdv A outer s H vs Q E hr h => ?_)
  obtain ⟨v, ⟨p, f, r, rfl, hf, rfl⟩, k⟩ := h
  have hu := hu_of hr
  refine ⟨_, (pss_cons (ps_set (i := 2) sc_meets_condition.nd rfl (Or.inl rfl) (pe_ix ix_kdict (pe_glob (v := .ref _) rfl T.g_CONDITIONS rfl) (pv 1) (fun _ _ => rfl)))
      (pss_one (ps_ret (pe_callV1 F_CONDITIONS (hr.mono (by decide)) pass0 (pv 2) (pv 0))))), bl_go ?_⟩
  have kc := T.v_CONDITIONS r
  walk_at "set"
  refine bl_retE (v := .bl (holdsB f r)) (ev_callV (vs := fV f) (ev_var rfl) ⟨r, rfl, rfl⟩ (ea_star1 (ev_var rfl) hf) (fun H2 e2 => ⟨f, rfl, rfl⟩)) k rfl
abbrev s_holds : Stmt := top 154
abbrev N_holds : List Str := ["form", "rule"]
theorem sc_holds : FnScope N_holds ["form", "rule"] (defScope s_holds) := ⟨rfl, rfl, rfl, by decide +kernel, rfl, by decide +kernel, by decide +kernel⟩
theorem ok_holds (T : Txt w K mg) (D0 : DefAt K mg "holds" s_holds) (c_check_format : Cal P w K mg base CX0 3 "check_format" ["form"] (Pu (R_check_format K))) (c_check_rule : Cal P w K mg base CX0 2 "check_rule" ["rule"] (Pu (R_check_rule K))) (c_meets_condition : Cal P w K mg base CX0 5 "meets_condition" ["form", "rule"] (Pu (R_meets_condition K)))  : Cal P w K mg base CX0 6 "holds" ["form", "rule"] (Pu (R_holds K)) := by
  refine D0.cal sc_holds (fun vs H Q E h => by obtain ⟨v, ⟨_, _, _, rfl, _⟩, _⟩ := h; rfl) (fun _ _ _ _ _ _ us hl => match us, hl with | [_, _], _ => rfl) (fun f cdv A outer s H vs Q E hr h => ?_)
  obtain ⟨v, ⟨p, f, r, rfl, hf, rfl⟩, k⟩ := h
  have hu := hu_of hr
  refine ⟨_, (pss_cons (ps_expr (pe_own c_check_format (hr.mono (by decide)) rfl pass0 (pa_cons (pv 0) pa_nil)))
      (pss_cons (ps_expr (pe_own c_check_rule (hr.mono (by decide)) rfl pass0 (pa_cons (pv 1) pa_nil)))
      (pss_one (ps_ret (pe_own c_meets_condition (hr.mono (by decide)) rfl pass0 (pa_cons (pv 0) (pa_cons (pv 1) pa_nil))))))), bl_go ?_⟩
  walk_at "drop"
  walk_at "drop"
  walk_at "ret"
  rfl
end
end K1

set_option maxHeartbeats 4000000
namespace K1
open PySem PySem.Spec PyProof.Rows L2 Evl WM WL WLam WX WT WU StX LamX
local macro_rules | `(tactic| walk_at "ev") => `(tactic| first
  | exact ev_c
  | exact ev_var rfl
  | ((with_reducible apply ev_op); (walk_at "ev"); (walk_at "ev"); (walk_at "rv"))
  | ((with_reducible apply ev_un); (walk_at "ev"); exact ru_neg)
  | ((with_reducible apply ev_notV); (walk_at "ev"))
  | ((with_reducible apply ev_andV); (walk_at "ev"); (intro _; walk_at "ev"))
  | ((with_reducible apply ev_orV); (walk_at "ev"); (intro _; walk_at "ev"))
  | ((with_reducible apply ev_ifT); (walk_at "et"); (exact rfl); (walk_at "ev"))
  | ((with_reducible apply ev_ifF); (walk_at "et"); (exact rfl); (walk_at "ev"))
  | ((with_reducible apply ev_ifB); (walk_at "et"); (intro _; walk_at "ev"); (intro _; walk_at "ev"))
  | ((with_reducible apply ev_chainI); (walk_at "ev"); (walk_at "ev"); (walk_at "ev"))
  | ((with_reducible apply ev_own); (walk_at "ea"); (intro _ _; walk_at "own"))
  | ((with_reducible apply ev_ddS); (walk_at "dp"); (exact Nat.le_of_ble_eq_true rfl); (walk_at "ev"); (exact rfl))
  | ((with_reducible apply ev_isiT); (walk_at "ev"); (walk_at "ea"); (walk_at "isiT"))
  | ((with_reducible apply ev_cb); (walk_at "ea"); (walk_at "rc")))
local macro_rules | `(tactic| walk_at "dp") => `(tactic| first
  | exact Paired.nil
  | ((with_reducible apply dp_cons); (exact ev_c); (walk_at "ev"); (walk_at "dp")))
local macro_rules | `(tactic| walk_at "ea") => `(tactic| first
  | exact ea_nil
  | ((with_reducible apply ea_cons); (walk_at "ev"); (walk_at "ea")))
local macro_rules | `(tactic| walk_at "et") => `(tactic| first
  | ((with_reducible apply et_test); (walk_at "ev"))
  | ((with_reducible apply et_B); (walk_at "ev"))
  | ((with_reducible apply et_not); (walk_at "et"))
  | ((with_reducible apply et_and); (walk_at "et"); (intro _; walk_at "et"))
  | ((with_reducible apply et_or); (walk_at "et"); (intro _; walk_at "et")))
local macro_rules | `(tactic| walk_at "rv") => `(tactic| first
  | exact rv_I0
  | exact rv_eq rfl
  | exact rv_ne rfl
  | exact rv_isT (by assumption) rfl rfl
  | exact rv_niT (by assumption) rfl rfl
  | exact rv_isL (by assumption) rfl rfl
  | exact rv_niL (by assumption) rfl rfl
  | exact rv_ixT (by assumption) rfl
  | exact rv_ixL (by assumption) rfl
  | exact rv_ixL (by assumption) (by assumption)
  | (apply rv_I; (walk_at "side")))
local macro_rules | `(tactic| walk_at "side") => `(tactic| first
  | assumption
  | (refine And.intro ?_ (And.intro ?_ ?_) <;> (try dsimp only) <;> first | omega | decide)
  | (dsimp only; omega)
  | omega)
local macro_rules | `(tactic| walk_at "rc") => `(tactic| first
  | exact rc_abs | exact rc_max2 | exact rc_min2 | exact rc_int | exact rc_intB
  | exact rc_isi_int (b := true) (by decide +kernel)
  | exact rc_isi_int (b := false) (by decide +kernel)
  | exact rc_isi_bl (b := true) (by decide +kernel)
  | exact rc_isi_bl (b := false) (by decide +kernel)
  | exact rc_isi_str (b := true) (by decide +kernel)
  | exact rc_isi_str (b := false) (by decide +kernel)
  | exact rc_isi_T (b := true) (by assumption) (by decide +kernel)
  | exact rc_isi_T (b := false) (by assumption) (by decide +kernel)
  | exact rc_lenT (by assumption)
  | exact rc_lenL (by assumption))
local macro_rules | `(tactic| walk_at "set") => `(tactic| ((with_reducible apply bl_set); (walk_at "ev")))
local macro_rules | `(tactic| walk_at "drop") => `(tactic| ((with_reducible apply bl_drop); (walk_at "ev")))
local macro_rules | `(tactic| walk_at "par") => `(tactic| ((with_reducible apply bl_par); (walk_at "ea")))
local macro_rules | `(tactic| walk_at "if") => `(tactic| ((with_reducible apply bl_when); (walk_at "et")))
local macro_rules | `(tactic| walk_at "no") => `(tactic| ((with_reducible apply bl_when); (walk_at "et"); (intro h; exact absurd (show false = true from h) (by decide)); (intro _)))
local macro_rules | `(tactic| walk_at "yes") => `(tactic| ((with_reducible apply bl_when); (walk_at "et"); rotate_left; (intro h; exact absurd (show true = false from h) (by decide)); (intro _)))
local macro_rules | `(tactic| walk_at "ret") => `(tactic| ((with_reducible apply bl_retE); rotate_left; assumption; rotate_right; (walk_at "ev")))
local macro_rules | `(tactic| walk_at "absurd") => `(tactic| first | exact absurd (show false = true from (by assumption)) (by decide) | exact absurd (show true = false from (by assumption)) (by decide))
local macro_rules | `(tactic| walk_at "rv") => `(tactic| first | exact rv_isN (s := []) | exact rv_notKD (by assumption) | exact rv_inKD (by assumption) | exact rv_ixKD (by assumption))
local macro_rules | `(tactic| walk_at "isiT") => `(tactic| ((exact Nat.le_of_ble_eq_true rfl); (exact .cons (.ty _) (.cons (.ty _) .nil)); (first | exact fun _ _ => .base (.int _) | exact fun _ _ => .base (.bl _) | exact fun _ _ => .base (.str _) | exact fun _ _ => .base .non); (exact kitAny_no (by decide +kernel) (by decide +kernel))))
local macro_rules | `(tactic| walk_at "rc") => `(tactic| first | exact rc_isi_non (b := true) (by decide +kernel) | exact rc_isi_non (b := false) (by decide +kernel))
local macro_rules | `(tactic| walk_at "eu") => `(tactic| first
  | ((with_reducible apply eu_own); (walk_at "ea"); (intro _ _; walk_at "own"))
  | ((with_reducible apply eu_tup); (walk_at "ea"); (exact Nat.le_of_ble_eq_true rfl)))
local macro_rules | `(tactic| walk_at "ev") => `(tactic| ((with_reducible apply ev_own1U); (walk_at "eu"); (walk_at "ea"); (intro _ _ _ _; walk_at "own1")))
local macro_rules | `(tactic| walk_at "isr") => `(tactic| first | with_reducible exact isr_r | with_reducible exact isr_i | ((with_reducible apply isr_if) <;> (walk_at "isr")))
local macro_rules | `(tactic| walk_at "osm") => `(tactic| first | with_reducible assumption | with_reducible exact osm_add | with_reducible exact osm_sub | with_reducible exact osm_mul | with_reducible exact osm_dvo | with_reducible exact osm_neg | with_reducible exact osm_rem | with_reducible exact osm_do | with_reducible exact osm_div | with_reducible exact osm_fit | ((with_reducible apply osm); assumption) | ((with_reducible apply osm); exact (show (0 : Int).natAbs < 2 ^ 70 by decide)) | ((with_reducible apply osm); exact (show (2 : Int).natAbs < 2 ^ 70 by decide)) | ((with_reducible apply osm_if) <;> (walk_at "osm")))
local macro_rules | `(tactic| walk_at "ev") => `(tactic| first
  | ((with_reducible apply ev_inLst); (walk_at "ev"); (walk_at "ea"); (exact Nat.le_of_ble_eq_true rfl); (exact rfl); (first | exact rfl | simp [flatV])))
local macro_rules | `(tactic| walk_at "rv") => `(tactic| first | exact rv_eq scal_rv | exact rv_ne scal_rv | exact rv_eq (scal_rv (y := some _)) | exact rv_ne (scal_rv (y := some _)) | exact rv_eq (scal_rv (y := none)) | exact rv_ne (scal_rv (y := none)))
local macro_rules | `(tactic| walk_at "nz") => `(tactic| first | with_reducible assumption | ((with_reducible apply nz_i); (first | assumption | decide)))
local macro_rules | `(tactic| walk_at "ev") => `(tactic| ((with_reducible apply ev_inU); (walk_at "ev"); (walk_at "eu"); (exact rfl); (exact rfl)))
local macro_rules | `(tactic| walk_at "eu") => `(tactic| ((with_reducible apply WB.eu_ifB); (walk_at "et"); (walk_at "eu"); (walk_at "eu")))
section
variable {P : Program} {w : World} {K : PySem.W.Frag} {mg : Str → Option Value} {base : Heap}
def R__half (K : PySem.W.Frag) : List V → Hp → V → Prop := fun vs H v => ∃ (p : Addr) (f : Fmt), vs = [.ref p] ∧ (SqT K H p (fV f)) ∧ v = .int (p2 (f.w - 1))
theorem r__half {K : PySem.W.Frag} {H : Hp} {p : Addr} {f : Fmt} (h0 : SqT K H p (fV f)) : R__half K [.ref p] H (.int (p2 (f.w - 1))) := ⟨_, _, rfl, h0, rfl⟩
def R__whole (K : PySem.W.Frag) : List V → Hp → V → Prop := fun vs H v => ∃ (p : Addr) (f : Fmt), vs = [.ref p] ∧ (SqT K H p (fV f)) ∧ v = .int (p2 f.w - 1)
theorem r__whole {K : PySem.W.Frag} {H : Hp} {p : Addr} {f : Fmt} (h0 : SqT K H p (fV f)) : R__whole K [.ref p] H (.int (p2 f.w - 1)) := ⟨_, _, rfl, h0, rfl⟩
def R__factors (K : PySem.W.Frag) : List V → Hp → List V → Prop := fun vs H xs => ∃ (p : Addr) (f : Fmt), vs = [.ref p] ∧ (SqT K H p (fV f)) ∧ xs = [V.int (lfac f.w : Int), V.int ((p2 f.w - 1).fdiv (lfac f.w : Int))]
theorem r__factors {K : PySem.W.Frag} {H : Hp} {p : Addr} {f : Fmt} (h0 : SqT K H p (fV f)) : R__factors K [.ref p] H ([V.int (lfac f.w : Int), V.int ((p2 f.w - 1).fdiv (lfac f.w : Int))]) := ⟨_, _, rfl, h0, rfl⟩
def R_sum_grouping_breaches (K : PySem.W.Frag) : List V → Hp → List V → Prop := fun vs H xs => ∃ (p : Addr) (f : Fmt), vs = [.ref p] ∧ (SqT K H p (fV f)) ∧ xs = (cexN f .sumG).map V.int
theorem r_sum_grouping_breaches {K : PySem.W.Frag} {H : Hp} {p : Addr} {f : Fmt} (h0 : SqT K H p (fV f)) : R_sum_grouping_breaches K [.ref p] H ((cexN f .sumG).map V.int) := ⟨_, _, rfl, h0, rfl⟩
def R_product_grouping_breaches (K : PySem.W.Frag) : List V → Hp → List V → Prop := fun vs H xs => ∃ (p : Addr) (f : Fmt), vs = [.ref p] ∧ (SqT K H p (fV f)) ∧ xs = (cexN f .prodG).map V.int
theorem r_product_grouping_breaches {K : PySem.W.Frag} {H : Hp} {p : Addr} {f : Fmt} (h0 : SqT K H p (fV f)) : R_product_grouping_breaches K [.ref p] H ((cexN f .prodG).map V.int) := ⟨_, _, rfl, h0, rfl⟩
def R_distribution_breaches (K : PySem.W.Frag) : List V → Hp → List V → Prop := fun vs H xs => ∃ (p : Addr) (f : Fmt), vs = [.ref p] ∧ (SqT K H p (fV f)) ∧ xs = (cexN f .dist).map V.int
theorem r_distribution_breaches {K : PySem.W.Frag} {H : Hp} {p : Addr} {f : Fmt} (h0 : SqT K H p (fV f)) : R_distribution_breaches K [.ref p] H ((cexN f .dist).map V.int) := ⟨_, _, rfl, h0, rfl⟩
def R_double_negation_breaches (K : PySem.W.Frag) : List V → Hp → List V → Prop := fun vs H xs => ∃ (p : Addr) (f : Fmt), vs = [.ref p] ∧ (SqT K H p (fV f)) ∧ xs = (cexN f .dneg).map V.int
theorem r_double_negation_breaches {K : PySem.W.Frag} {H : Hp} {p : Addr} {f : Fmt} (h0 : SqT K H p (fV f)) : R_double_negation_breaches K [.ref p] H ((cexN f .dneg).map V.int) := ⟨_, _, rfl, h0, rfl⟩
def R_difference_breaches (K : PySem.W.Frag) : List V → Hp → List V → Prop := fun vs H xs => ∃ (p : Addr) (f : Fmt), vs = [.ref p] ∧ (SqT K H p (fV f)) ∧ xs = (cexN f .diff).map V.int
theorem r_difference_breaches {K : PySem.W.Frag} {H : Hp} {p : Addr} {f : Fmt} (h0 : SqT K H p (fV f)) : R_difference_breaches K [.ref p] H ((cexN f .diff).map V.int) := ⟨_, _, rfl, h0, rfl⟩
def R__lowest_and_one (K : PySem.W.Frag) : List V → Hp → List V → Prop := fun vs H xs => ∃ (p : Addr) (f : Fmt), vs = [.ref p] ∧ (SqT K H p (fV f)) ∧ xs = (cexN f .addB).map V.int
theorem r__lowest_and_one {K : PySem.W.Frag} {H : Hp} {p : Addr} {f : Fmt} (h0 : SqT K H p (fV f)) : R__lowest_and_one K [.ref p] H ((cexN f .addB).map V.int) := ⟨_, _, rfl, h0, rfl⟩
def R_division_breaches (K : PySem.W.Frag) : List V → Hp → List V → Prop := fun vs H xs => ∃ (p : Addr) (f : Fmt), vs = [.ref p] ∧ (SqT K H p (fV f)) ∧ xs = (cexN f .divi).map V.int
theorem r_division_breaches {K : PySem.W.Frag} {H : Hp} {p : Addr} {f : Fmt} (h0 : SqT K H p (fV f)) : R_division_breaches K [.ref p] H ((cexN f .divi).map V.int) := ⟨_, _, rfl, h0, rfl⟩
def R_remainder_range_breaches (K : PySem.W.Frag) : List V → Hp → List V → Prop := fun vs H xs => ∃ (p : Addr) (f : Fmt), vs = [.ref p] ∧ (SqT K H p (fV f)) ∧ (holdsB f .remR = false) ∧ xs = (cexN f .remR).map V.int
theorem r_remainder_range_breaches {K : PySem.W.Frag} {H : Hp} {p : Addr} {f : Fmt} (h0 : SqT K H p (fV f)) (h1 : holdsB f .remR = false) : R_remainder_range_breaches K [.ref p] H ((cexN f .remR).map V.int) := ⟨_, _, rfl, h0, h1, rfl⟩
def R_negated_quotient_breaches (K : PySem.W.Frag) : List V → Hp → List V → Prop := fun vs H xs => ∃ (p : Addr) (f : Fmt), vs = [.ref p] ∧ (SqT K H p (fV f)) ∧ xs = (cexN f .negQ).map V.int
theorem r_negated_quotient_breaches {K : PySem.W.Frag} {H : Hp} {p : Addr} {f : Fmt} (h0 : SqT K H p (fV f)) : R_negated_quotient_breaches K [.ref p] H ((cexN f .negQ).map V.int) := ⟨_, _, rfl, h0, rfl⟩
def R_shift_breaches (K : PySem.W.Frag) : List V → Hp → List V → Prop := fun vs H xs => ∃ (p : Addr) (f : Fmt), vs = [.ref p] ∧ (SqT K H p (fV f)) ∧ (holdsB f .shift = false) ∧ xs = (cexN f .shift).map V.int
theorem r_shift_breaches {K : PySem.W.Frag} {H : Hp} {p : Addr} {f : Fmt} (h0 : SqT K H p (fV f)) (h1 : holdsB f .shift = false) : R_shift_breaches K [.ref p] H ((cexN f .shift).map V.int) := ⟨_, _, rfl, h0, h1, rfl⟩
def R_absolute_value_breaches (K : PySem.W.Frag) : List V → Hp → List V → Prop := fun vs H xs => ∃ (p : Addr) (f : Fmt), vs = [.ref p] ∧ (SqT K H p (fV f)) ∧ xs = (cexN f .absV).map V.int
theorem r_absolute_value_breaches {K : PySem.W.Frag} {H : Hp} {p : Addr} {f : Fmt} (h0 : SqT K H p (fV f)) : R_absolute_value_breaches K [.ref p] H ((cexN f .absV).map V.int) := ⟨_, _, rfl, h0, rfl⟩
def R_monotone_sum_breaches (K : PySem.W.Frag) : List V → Hp → List V → Prop := fun vs H xs => ∃ (p : Addr) (f : Fmt), vs = [.ref p] ∧ (SqT K H p (fV f)) ∧ xs = (cexN f .monoS).map V.int
theorem r_monotone_sum_breaches {K : PySem.W.Frag} {H : Hp} {p : Addr} {f : Fmt} (h0 : SqT K H p (fV f)) : R_monotone_sum_breaches K [.ref p] H ((cexN f .monoS).map V.int) := ⟨_, _, rfl, h0, rfl⟩
def R_square_breaches (K : PySem.W.Frag) : List V → Hp → List V → Prop := fun vs H xs => ∃ (p : Addr) (f : Fmt), vs = [.ref p] ∧ (SqT K H p (fV f)) ∧ xs = (cexN f .squa).map V.int
theorem r_square_breaches {K : PySem.W.Frag} {H : Hp} {p : Addr} {f : Fmt} (h0 : SqT K H p (fV f)) : R_square_breaches K [.ref p] H ((cexN f .squa).map V.int) := ⟨_, _, rfl, h0, rfl⟩
def R_zero_product_breaches (K : PySem.W.Frag) : List V → Hp → List V → Prop := fun vs H xs => ∃ (p : Addr) (f : Fmt), vs = [.ref p] ∧ (SqT K H p (fV f)) ∧ xs = (cexN f .zeroP).map V.int
theorem r_zero_product_breaches {K : PySem.W.Frag} {H : Hp} {p : Addr} {f : Fmt} (h0 : SqT K H p (fV f)) : R_zero_product_breaches K [.ref p] H ((cexN f .zeroP).map V.int) := ⟨_, _, rfl, h0, rfl⟩
def R_cancellation_breaches (K : PySem.W.Frag) : List V → Hp → List V → Prop := fun vs H xs => ∃ (p : Addr) (f : Fmt), vs = [.ref p] ∧ (SqT K H p (fV f)) ∧ xs = (cexN f .canc).map V.int
theorem r_cancellation_breaches {K : PySem.W.Frag} {H : Hp} {p : Addr} {f : Fmt} (h0 : SqT K H p (fV f)) : R_cancellation_breaches K [.ref p] H ((cexN f .canc).map V.int) := ⟨_, _, rfl, h0, rfl⟩
local macro_rules | `(tactic| walk_at "own") => `(tactic| first
  | exact r_is_whole (by first | assumption | exact .int _ | exact Wh.ex (by assumption) (by assumption))
  | exact r_are_choices 
  | exact r_is_format (ex_t (by assumption) (by assumption))
  | exact r_check_format (ex_t (by assumption) (by assumption))
  | exact r_ends (ex_t (by assumption) (by assumption))
  | exact r_lowest (ex_t (by assumption) (by assumption))
  | exact r_highest (ex_t (by assumption) (by assumption))
  | exact r_terms_of (ex_t (by assumption) (by assumption))
  | exact r_fitted (ex_t (by assumption) (by assumption))
  | exact r__quotient_to_zero (by assumption) (by assumption) (by assumption)
  | exact r__quotient_to_even (by assumption) (by assumption) (by assumption)
  | exact r__quotient_of_euclid (by assumption) (by assumption) (by assumption)
  | exact r__exact_quotient (by assumption) (by assumption) (by assumption)
  | ((with_reducible apply r_plus_G); (exact (ex_t (by assumption) (by assumption))); (walk_at "isr"); (walk_at "isr"))
  | ((with_reducible apply r_minus_G); (exact (ex_t (by assumption) (by assumption))); (walk_at "isr"); (walk_at "isr"))
  | ((with_reducible apply r_times_G); (exact (ex_t (by assumption) (by assumption))); (walk_at "isr"); (walk_at "isr"); (walk_at "osm"); (walk_at "osm"))
  | ((with_reducible apply r_quotient_G); (exact (ex_t (by assumption) (by assumption))); (walk_at "isr"); (walk_at "isr"); (walk_at "osm"); (walk_at "osm"); (walk_at "nz"))
  | ((with_reducible apply r_opposite_G); (exact (ex_t (by assumption) (by assumption))); (walk_at "isr"))
  | exact r_rest (ex_t (by assumption) (by assumption)) (by assumption) (by assumption) (by assumption)
  | ((with_reducible apply r__at_most_G); (walk_at "isr"); (walk_at "isr"))
  | ((with_reducible apply r__below_G); (walk_at "isr"); (walk_at "isr"))
  | exact r_sum_grouping_rules (ex_t (by assumption) (by assumption)) (by assumption) (by assumption) (by assumption)
  | exact r_product_grouping_rules (ex_t (by assumption) (by assumption)) (by assumption) (by assumption) (by assumption)
  | exact r_distribution_rules (ex_t (by assumption) (by assumption)) (by assumption) (by assumption) (by assumption)
  | exact r_double_negation_rules (ex_t (by assumption) (by assumption)) (by assumption)
  | exact r_difference_rules (ex_t (by assumption) (by assumption)) (by assumption) (by assumption)
  | exact r_add_back_rules (ex_t (by assumption) (by assumption)) (by assumption) (by assumption)
  | exact r_division_rules (ex_t (by assumption) (by assumption)) (by assumption) (by assumption)
  | exact r_remainder_range_rules (ex_t (by assumption) (by assumption)) (by assumption) (by assumption)
  | exact r_negated_quotient_rules (ex_t (by assumption) (by assumption)) (by assumption) (by assumption)
  | exact r_shift_rules (ex_t (by assumption) (by assumption)) (by assumption)
  | exact r_absolute_value_rules (ex_t (by assumption) (by assumption)) (by assumption)
  | exact r_order_by_difference_rules (ex_t (by assumption) (by assumption)) (by assumption) (by assumption)
  | exact r_monotone_sum_rules (ex_t (by assumption) (by assumption)) (by assumption) (by assumption) (by assumption)
  | exact r_average_rules (ex_t (by assumption) (by assumption)) (by assumption) (by assumption)
  | exact r_square_rules (ex_t (by assumption) (by assumption)) (by assumption)
  | exact r_zero_product_rules (ex_t (by assumption) (by assumption)) (by assumption) (by assumption)
  | exact r_cancellation_rules (ex_t (by assumption) (by assumption)) (by assumption) (by assumption) (by assumption)
  | exact r_is_rule 
  | exact r_check_rule 
  | exact r__check_numbers (ex_t (by assumption) (by assumption)) (ex_t (by assumption) (by assumption)) (by assumption) (by assumption) (by assumption)
  | exact r_holds_for (ex_t (by assumption) (by assumption)) (ex_t (by assumption) (by assumption)) (by assumption) (by assumption)
  | exact r__check_exponent (by assumption) (by assumption)
  | exact r__passes_lucas_lehmer (by assumption) (by assumption) (by assumption)
  | exact r_is_mersenne (by assumption) (by assumption)
  | exact r_least_factor (by assumption) (by assumption)
  | exact r_sum_grouping_conditions 
  | exact r_product_grouping_conditions 
  | exact r_distribution_conditions 
  | exact r__negatives 
  | exact r_add_back_conditions 
  | exact r_division_conditions 
  | exact r_remainder_range_conditions 
  | exact r_negated_quotient_conditions 
  | exact r_shift_conditions 
  | exact r_absolute_value_conditions 
  | exact r_order_by_difference_conditions 
  | exact r_monotone_sum_conditions 
  | exact r_average_conditions 
  | exact r_square_conditions 
  | exact r_zero_product_conditions 
  | exact r_cancellation_conditions 
  | exact r_meets_condition (ex_t (by assumption) (by assumption))
  | exact r_holds (ex_t (by assumption) (by assumption))
  | exact r__half (ex_t (by assumption) (by assumption))
  | exact r__whole (ex_t (by assumption) (by assumption))
  | exact r__factors (ex_t (by assumption) (by assumption))
  | exact r_sum_grouping_breaches (ex_t (by assumption) (by assumption))
  | exact r_product_grouping_breaches (ex_t (by assumption) (by assumption))
  | exact r_distribution_breaches (ex_t (by assumption) (by assumption))
  | exact r_double_negation_breaches (ex_t (by assumption) (by assumption))
  | exact r_difference_breaches (ex_t (by assumption) (by assumption))
  | exact r__lowest_and_one (ex_t (by assumption) (by assumption))
  | exact r_division_breaches (ex_t (by assumption) (by assumption))
  | exact r_remainder_range_breaches (ex_t (by assumption) (by assumption)) (by assumption)
  | exact r_negated_quotient_breaches (ex_t (by assumption) (by assumption))
  | exact r_shift_breaches (ex_t (by assumption) (by assumption)) (by assumption)
  | exact r_absolute_value_breaches (ex_t (by assumption) (by assumption))
  | exact r_monotone_sum_breaches (ex_t (by assumption) (by assumption))
  | exact r_square_breaches (ex_t (by assumption) (by assumption))
  | exact r_zero_product_breaches (ex_t (by assumption) (by assumption))
  | exact r_cancellation_breaches (ex_t (by assumption) (by assumption)))
abbrev s__half : Stmt := top 29
abbrev N__half : List Str := ["form"]
theorem sc__half : FnScope N__half ["form"] (defScope s__half) := ⟨rfl, rfl, rfl, by decide +kernel, rfl, by decide +kernel, by decide +kernel⟩
theorem ok__half (T : Txt w K mg) (D0 : DefAt K mg "_half" s__half)   : Cal P w K mg base CX0 1 "_half" ["form"] (Pu (R__half K)) := by
  refine D0.cal sc__half (fun vs H Q E h => by obtain ⟨v, ⟨_, _, rfl, _⟩, _⟩ := h; rfl) (fun _ _ _ _ _ _ us hl => match us, hl with | [_], _ => rfl) (fun f cdv A outer s H vs Q E hr h => ?_)
  obtain ⟨v, ⟨p, ⟨w0, sg, ov, dv, h4, h64⟩, rfl, hf, rfl⟩, k⟩ := h
  have hu := hu_of hr
  refine ⟨_, (pss_one (ps_ret (pe_op op_shl pe_int (pe_op op_sub (pe_ix ix_tup (pv 0) pe_int (fun _ _ => rfl)) pe_int)))), bl_go ?_⟩
  walk_at "ret"
  rw [shl_w1]
abbrev s__whole : Stmt := top 30
abbrev N__whole : List Str := ["form"]
theorem sc__whole : FnScope N__whole ["form"] (defScope s__whole) := ⟨rfl, rfl, rfl, by decide +kernel, rfl, by decide +kernel, by decide +kernel⟩
theorem ok__whole (T : Txt w K mg) (D0 : DefAt K mg "_whole" s__whole)   : Cal P w K mg base CX0 1 "_whole" ["form"] (Pu (R__whole K)) := by
  refine D0.cal sc__whole (fun vs H Q E h => by obtain ⟨v, ⟨_, _, rfl, _⟩, _⟩ := h; rfl) (fun _ _ _ _ _ _ us hl => match us, hl with | [_], _ => rfl) (fun f cdv A outer s H vs Q E hr h => ?_)
  obtain ⟨v, ⟨p, ⟨w0, sg, ov, dv, h4, h64⟩, rfl, hf, rfl⟩, k⟩ := h
  have hu := hu_of hr
  refine ⟨_, (pss_one (ps_ret (pe_op op_sub (pe_op op_shl pe_int (pe_ix ix_tup (pv 0) pe_int (fun _ _ => rfl))) pe_int))), bl_go ?_⟩
  walk_at "ret"
  rw [shl_w]
abbrev s__factors : Stmt := top 31
abbrev N__factors : List Str := ["form", "factor"]
theorem sc__factors : FnScope N__factors ["form"] (defScope s__factors) := ⟨rfl, rfl, rfl, by decide +kernel, rfl, by decide +kernel, by decide +kernel⟩
theorem ok__factors (T : Txt w K mg) (D0 : DefAt K mg "_factors" s__factors) (c__whole : Cal P w K mg base CX0 1 "_whole" ["form"] (Pu (R__whole K))) (c_least_factor : Cal P w K mg base CX0 4 "least_factor" ["w"] (Pu (R_least_factor K)))  : Cal P w K mg base CX0 5 "_factors" ["form"] (PuT (R__factors K)) := by
  refine D0.cal sc__factors (fun vs H Q E h => by obtain ⟨xs, ⟨_, _, rfl, _⟩, _⟩ := h; rfl) (fun _ _ _ _ _ _ us hl => match us, hl with | [_], _ => rfl) (fun f cdv A outer s H vs Q E hr h => ?_)
  obtain ⟨xs, ⟨p, ⟨w0, sg, ov, dv, h4, h64⟩, rfl, hf, rfl⟩, k⟩ := h
  have hu := hu_of hr
  refine ⟨_, (pss_cons (ps_set (i := 1) sc__factors.nd rfl (Or.inl rfl) (pe_own c_least_factor (hr.mono (by decide)) rfl pass0 (pa_cons (pe_ix ix_tup (pv 0) pe_int (fun _ _ => rfl)) pa_nil)))
      (pss_one (ps_ret (pe_tup (pa_cons (pv 1) (pa_cons (pe_op op_fdivB (pe_own c__whole (hr.mono (by decide)) rfl pass0 (pa_cons (pv 0) pa_nil)) (pv 1)) pa_nil)))))), bl_go ?_⟩
  have w2 : 2 ≤ w0 := by omega
  obtain ⟨b1, b2⟩ := lfac_bd w2 h64
  have sl : Sm (lfac w0 : Int) := by
    unfold Sm
    have : 18446744073709551616 < 2 ^ 70 := by decide
    omega
  have d1 : CDivB (p2 w0 - 1) (lfac w0 : Int) := sm_div sl (by omega)
  walk_at "set"
  refine bl_retUE (by walk_at "eu") k ?_
  rfl
abbrev s_sum_grouping_breaches : Stmt := top 32
abbrev N_sum_grouping_breaches : List Str := ["form"]
theorem sc_sum_grouping_breaches : FnScope N_sum_grouping_breaches ["form"] (defScope s_sum_grouping_breaches) := ⟨rfl, rfl, rfl, by decide +kernel, rfl, by decide +kernel, by decide +kernel⟩
theorem ok_sum_grouping_breaches (T : Txt w K mg) (D0 : DefAtN K mg "sum_grouping_breaches" "_sum_grouping" s_sum_grouping_breaches) (c_highest : Cal P w K mg base CX0 4 "highest" ["form"] (Pu (R_highest K)))  : Cal P w K mg base CX0 5 "sum_grouping_breaches" ["form"] (PuT (R_sum_grouping_breaches K)) := by
  refine D0.cal sc_sum_grouping_breaches (fun vs H Q E h => by obtain ⟨xs, ⟨_, _, rfl, _⟩, _⟩ := h; rfl) (fun _ _ _ _ _ _ us hl => match us, hl with | [_], _ => rfl) (fun f cdv A outer s H vs Q E hr h => ?_)
  obtain ⟨xs, ⟨p, ⟨w0, sg, ov, dv, h4, h64⟩, rfl, hf, rfl⟩, k⟩ := h
  have hu := hu_of hr
  refine ⟨_, (pss_one (ps_ret (pe_tup (pa_cons (pe_own c_highest (hr.mono (by decide)) rfl pass0 (pa_cons (pv 0) pa_nil)) (pa_cons pe_int (pa_cons (pe_un un_neg pe_int) pa_nil)))))), bl_go ?_⟩
  refine bl_retUE (by walk_at "eu") k ?_
  rfl
abbrev s_product_grouping_breaches : Stmt := top 34
abbrev N_product_grouping_breaches : List Str := ["form"]
theorem sc_product_grouping_breaches : FnScope N_product_grouping_breaches ["form"] (defScope s_product_grouping_breaches) := ⟨rfl, rfl, rfl, by decide +kernel, rfl, by decide +kernel, by decide +kernel⟩
theorem ok_product_grouping_breaches (T : Txt w K mg) (D0 : DefAtN K mg "product_grouping_breaches" "_product_grouping" s_product_grouping_breaches) (c_highest : Cal P w K mg base CX0 4 "highest" ["form"] (Pu (R_highest K))) (c_lowest : Cal P w K mg base CX0 4 "lowest" ["form"] (Pu (R_lowest K)))  : Cal P w K mg base CX0 5 "product_grouping_breaches" ["form"] (PuT (R_product_grouping_breaches K)) := by
  refine D0.cal sc_product_grouping_breaches (fun vs H Q E h => by obtain ⟨xs, ⟨_, _, rfl, _⟩, _⟩ := h; rfl) (fun _ _ _ _ _ _ us hl => match us, hl with | [_], _ => rfl) (fun f cdv A outer s H vs Q E hr h => ?_)
  obtain ⟨xs, ⟨p, ⟨w0, sg, ov, dv, h4, h64⟩, rfl, hf, rfl⟩, k⟩ := h
  have hu := hu_of hr
  refine ⟨_, (pss_cons (ps_if (pt_cmpR op_eq (pe_ix ix_tup (pv 0) pe_int (fun _ _ => rfl)) pe_str (nomark _)) (pss_one (ps_ret (pe_tup (pa_cons (pe_own c_highest (hr.mono (by decide)) rfl pass0 (pa_cons (pv 0) pa_nil)) (pa_cons pe_int (pa_cons pe_int pa_nil)))))) pss_nil)
      (pss_one (ps_ret (pe_tup (pa_cons (pe_own c_lowest (hr.mono (by decide)) rfl pass0 (pa_cons (pv 0) pa_nil)) (pa_cons (pe_un un_neg pe_int) (pa_cons (pe_un un_neg pe_int) pa_nil))))))), bl_go ?_⟩
  cases ov
  all_goals
    (repeat (first | walk_at "no" | walk_at "yes"))
    refine bl_retUE (by walk_at "eu") k ?_
    rfl
abbrev s_distribution_breaches : Stmt := top 36
abbrev N_distribution_breaches : List Str := ["form"]
theorem sc_distribution_breaches : FnScope N_distribution_breaches ["form"] (defScope s_distribution_breaches) := ⟨rfl, rfl, rfl, by decide +kernel, rfl, by decide +kernel, by decide +kernel⟩
theorem ok_distribution_breaches (T : Txt w K mg) (D0 : DefAtN K mg "distribution_breaches" "_distribution" s_distribution_breaches) (c_highest : Cal P w K mg base CX0 4 "highest" ["form"] (Pu (R_highest K)))  : Cal P w K mg base CX0 5 "distribution_breaches" ["form"] (PuT (R_distribution_breaches K)) := by
  refine D0.cal sc_distribution_breaches (fun vs H Q E h => by obtain ⟨xs, ⟨_, _, rfl, _⟩, _⟩ := h; rfl) (fun _ _ _ _ _ _ us hl => match us, hl with | [_], _ => rfl) (fun f cdv A outer s H vs Q E hr h => ?_)
  obtain ⟨xs, ⟨p, ⟨w0, sg, ov, dv, h4, h64⟩, rfl, hf, rfl⟩, k⟩ := h
  have hu := hu_of hr
  refine ⟨_, (pss_cons (ps_if (pt_cmpR op_eq (pe_ix ix_tup (pv 0) pe_int (fun _ _ => rfl)) pe_str (nomark _)) (pss_one (ps_ret (pe_tup (pa_cons pe_int (pa_cons (pe_own c_highest (hr.mono (by decide)) rfl pass0 (pa_cons (pv 0) pa_nil)) (pa_cons pe_int pa_nil)))))) pss_nil)
      (pss_one (ps_ret (pe_tup (pa_cons pe_int (pa_cons (pe_own c_highest (hr.mono (by decide)) rfl pass0 (pa_cons (pv 0) pa_nil)) (pa_cons (pe_un un_neg pe_int) pa_nil))))))), bl_go ?_⟩
  cases ov
  all_goals
    (repeat (first | walk_at "no" | walk_at "yes"))
    refine bl_retUE (by walk_at "eu") k ?_
    rfl
abbrev s_double_negation_breaches : Stmt := top 38
abbrev N_double_negation_breaches : List Str := ["form"]
theorem sc_double_negation_breaches : FnScope N_double_negation_breaches ["form"] (defScope s_double_negation_breaches) := ⟨rfl, rfl, rfl, by decide +kernel, rfl, by decide +kernel, by decide +kernel⟩
theorem ok_double_negation_breaches (T : Txt w K mg) (D0 : DefAtN K mg "double_negation_breaches" "_double_negation" s_double_negation_breaches) (c_lowest : Cal P w K mg base CX0 4 "lowest" ["form"] (Pu (R_lowest K)))  : Cal P w K mg base CX0 5 "double_negation_breaches" ["form"] (PuT (R_double_negation_breaches K)) := by
  refine D0.cal sc_double_negation_breaches (fun vs H Q E h => by obtain ⟨xs, ⟨_, _, rfl, _⟩, _⟩ := h; rfl) (fun _ _ _ _ _ _ us hl => match us, hl with | [_], _ => rfl) (fun f cdv A outer s H vs Q E hr h => ?_)
  obtain ⟨xs, ⟨p, ⟨w0, sg, ov, dv, h4, h64⟩, rfl, hf, rfl⟩, k⟩ := h
  have hu := hu_of hr
  refine ⟨_, (pss_one (ps_ret (pe_tup (pa_cons (pe_ifExp (pt_cmpR op_eq (pe_ix ix_tup (pv 0) pe_int (fun _ _ => rfl)) pe_str (nomark _)) (pe_own c_lowest (hr.mono (by decide)) rfl pass0 (pa_cons (pv 0) pa_nil)) pe_int) pa_nil)))), bl_go ?_⟩
  cases sg
  all_goals
    refine bl_retUE (by walk_at "eu") k ?_
    rfl
abbrev s_difference_breaches : Stmt := top 40
abbrev N_difference_breaches : List Str := ["form"]
theorem sc_difference_breaches : FnScope N_difference_breaches ["form"] (defScope s_difference_breaches) := ⟨rfl, rfl, rfl, by decide +kernel, rfl, by decide +kernel, by decide +kernel⟩
theorem ok_difference_breaches (T : Txt w K mg) (D0 : DefAtN K mg "difference_breaches" "_difference" s_difference_breaches) (c_lowest : Cal P w K mg base CX0 4 "lowest" ["form"] (Pu (R_lowest K)))  : Cal P w K mg base CX0 5 "difference_breaches" ["form"] (PuT (R_difference_breaches K)) := by
  refine D0.cal sc_difference_breaches (fun vs H Q E h => by obtain ⟨xs, ⟨_, _, rfl, _⟩, _⟩ := h; rfl) (fun _ _ _ _ _ _ us hl => match us, hl with | [_], _ => rfl) (fun f cdv A outer s H vs Q E hr h => ?_)
  obtain ⟨xs, ⟨p, ⟨w0, sg, ov, dv, h4, h64⟩, rfl, hf, rfl⟩, k⟩ := h
  have hu := hu_of hr
  refine ⟨_, (pss_one (ps_ret (pe_ifExp (pt_cmpR op_eq (pe_ix ix_tup (pv 0) pe_int (fun _ _ => rfl)) pe_str (nomark _)) (pe_tup (pa_cons (pe_un un_neg pe_int) (pa_cons (pe_own c_lowest (hr.mono (by decide)) rfl pass0 (pa_cons (pv 0) pa_nil)) pa_nil))) (pe_tup (pa_cons pe_int (pa_cons pe_int pa_nil)))))), bl_go ?_⟩
  cases sg
  all_goals
    refine bl_retUE (by walk_at "eu") k ?_
    rfl
abbrev s__lowest_and_one : Stmt := top 42
abbrev N__lowest_and_one : List Str := ["form"]
theorem sc__lowest_and_one : FnScope N__lowest_and_one ["form"] (defScope s__lowest_and_one) := ⟨rfl, rfl, rfl, by decide +kernel, rfl, by decide +kernel, by decide +kernel⟩
theorem ok__lowest_and_one (T : Txt w K mg) (D0 : DefAt K mg "_lowest_and_one" s__lowest_and_one) (c_lowest : Cal P w K mg base CX0 4 "lowest" ["form"] (Pu (R_lowest K)))  : Cal P w K mg base CX0 5 "_lowest_and_one" ["form"] (PuT (R__lowest_and_one K)) := by
  refine D0.cal sc__lowest_and_one (fun vs H Q E h => by obtain ⟨xs, ⟨_, _, rfl, _⟩, _⟩ := h; rfl) (fun _ _ _ _ _ _ us hl => match us, hl with | [_], _ => rfl) (fun f cdv A outer s H vs Q E hr h => ?_)
  obtain ⟨xs, ⟨p, ⟨w0, sg, ov, dv, h4, h64⟩, rfl, hf, rfl⟩, k⟩ := h
  have hu := hu_of hr
  refine ⟨_, (pss_one (ps_ret (pe_tup (pa_cons (pe_own c_lowest (hr.mono (by decide)) rfl pass0 (pa_cons (pv 0) pa_nil)) (pa_cons pe_int pa_nil))))), bl_go ?_⟩
  refine bl_retUE (by walk_at "eu") k ?_
  rfl
abbrev s_division_breaches : Stmt := top 43
abbrev N_division_breaches : List Str := ["form", "signs", "division"]
theorem sc_division_breaches : FnScope N_division_breaches ["form"] (defScope s_division_breaches) := ⟨rfl, rfl, rfl, by decide +kernel, rfl, by decide +kernel, by decide +kernel⟩
theorem ok_division_breaches (T : Txt w K mg) (D0 : DefAtN K mg "division_breaches" "_division" s_division_breaches) (c_highest : Cal P w K mg base CX0 4 "highest" ["form"] (Pu (R_highest K))) (c_lowest : Cal P w K mg base CX0 4 "lowest" ["form"] (Pu (R_lowest K)))  : Cal P w K mg base CX0 5 "division_breaches" ["form"] (PuT (R_division_breaches K)) := by
  refine D0.cal sc_division_breaches (fun vs H Q E h => by obtain ⟨xs, ⟨_, _, rfl, _⟩, _⟩ := h; rfl) (fun _ _ _ _ _ _ us hl => match us, hl with | [_], _ => rfl) (fun f cdv A outer s H vs Q E hr h => ?_)
  obtain ⟨xs, ⟨p, ⟨w0, sg, ov, dv, h4, h64⟩, rfl, hf, rfl⟩, k⟩ := h
  have hu := hu_of hr
  refine ⟨_, (pss_cons (ps_par (i := 1) (j := 2) (by rfl) sc_division_breaches.nd rfl rfl (by decide) rfl rfl (pa_cons (pe_ix ix_tup (pv 0) pe_int (fun _ _ => rfl)) (pa_cons (pe_ix ix_tup (pv 0) pe_int (fun _ _ => rfl)) pa_nil)) (by rfl))
      (pss_cons (ps_if (pt_cmpR op_eq (pv 1) pe_str (nomark _)) (pss_one (ps_ret (pe_tup (pa_cons (pe_own c_lowest (hr.mono (by decide)) rfl pass0 (pa_cons (pv 0) pa_nil)) (pa_cons (pe_un un_neg pe_int) pa_nil))))) pss_nil)
      (pss_cons (ps_if (pt_cmpR op_eq (pv 1) pe_str (nomark _)) (pss_one (ps_ret (pe_ifExp (pt_cmpR op_eq (pv 2) pe_str (nomark _)) (pe_tup (pa_cons pe_int (pa_cons pe_int pa_nil))) (pe_tup (pa_cons pe_int (pa_cons pe_int pa_nil)))))) pss_nil)
      (pss_cons (ps_if (pt_cmpR op_in_seq (pv 2) (pe_tup (pa_cons pe_str (pa_cons pe_str pa_nil))) (by rfl)) (pss_one (ps_ret (pe_tup (pa_cons (pe_own c_lowest (hr.mono (by decide)) rfl pass0 (pa_cons (pv 0) pa_nil)) (pa_cons pe_int pa_nil))))) pss_nil)
      (pss_one (ps_ret (pe_tup (pa_cons (pe_own c_highest (hr.mono (by decide)) rfl pass0 (pa_cons (pv 0) pa_nil)) (pa_cons pe_int pa_nil))))))))), bl_go ?_⟩
  walk_at "par"
  cases sg <;> cases dv
  all_goals
    (repeat (first | walk_at "no" | walk_at "yes"))
    refine bl_retUE (by walk_at "eu") k ?_
    rfl
abbrev s_remainder_range_breaches : Stmt := top 45
abbrev N_remainder_range_breaches : List Str := ["form", "division"]
theorem sc_remainder_range_breaches : FnScope N_remainder_range_breaches ["form"] (defScope s_remainder_range_breaches) := ⟨rfl, rfl, rfl, by decide +kernel, rfl, by decide +kernel, by decide +kernel⟩
theorem ok_remainder_range_breaches (T : Txt w K mg) (D0 : DefAtN K mg "remainder_range_breaches" "_remainder_range" s_remainder_range_breaches)   : Cal P w K mg base CX0 1 "remainder_range_breaches" ["form"] (PuT (R_remainder_range_breaches K)) := by
  refine D0.cal sc_remainder_range_breaches (fun vs H Q E h => by obtain ⟨xs, ⟨_, _, rfl, _⟩, _⟩ := h; rfl) (fun _ _ _ _ _ _ us hl => match us, hl with | [_], _ => rfl) (fun f cdv A outer s H vs Q E hr h => ?_)
  obtain ⟨xs, ⟨p, ⟨w0, sg, ov, dv, h4, h64⟩, rfl, hf, hb, rfl⟩, k⟩ := h
  have hu := hu_of hr
  refine ⟨_, (pss_cons (ps_set (i := 1) sc_remainder_range_breaches.nd rfl (Or.inl rfl) (pe_ix ix_tup (pv 0) pe_int (fun _ _ => rfl)))
      (pss_cons (ps_if (pt_cmpR op_eq (pv 1) pe_str (nomark _)) (pss_one (ps_ret (pe_tup (pa_cons pe_int (pa_cons (pe_un un_neg pe_int) pa_nil))))) pss_nil)
      (pss_cons (ps_if (pt_cmpR op_eq (pv 1) pe_str (nomark _)) (pss_one (ps_ret (pe_tup (pa_cons (pe_un un_neg pe_int) (pa_cons pe_int pa_nil))))) pss_nil)
      (pss_cons (ps_if (pt_cmpR op_eq (pv 1) pe_str (nomark _)) (pss_one (ps_ret (pe_tup (pa_cons pe_int (pa_cons pe_int pa_nil))))) pss_nil)
      (pss_one (ps_ret (pe_tup (pa_cons pe_int (pa_cons pe_int pa_nil))))))))), bl_go ?_⟩
  walk_at "set"
  cases dv
  all_goals first | (exfalso; exact (Bool.noConfusion (show true = false from hb) : False)) | skip
  all_goals
    (repeat (first | walk_at "no" | walk_at "yes"))
    refine bl_retUE (by walk_at "eu") k ?_
    rfl
abbrev s_negated_quotient_breaches : Stmt := top 47
abbrev N_negated_quotient_breaches : List Str := ["form", "width", "signs", "overflow", "division"]
theorem sc_negated_quotient_breaches : FnScope N_negated_quotient_breaches ["form"] (defScope s_negated_quotient_breaches) := ⟨rfl, rfl, rfl, by decide +kernel, rfl, by decide +kernel, by decide +kernel⟩
theorem ok_negated_quotient_breaches (T : Txt w K mg) (D0 : DefAtN K mg "negated_quotient_breaches" "_negated_quotient" s_negated_quotient_breaches) (c__whole : Cal P w K mg base CX0 1 "_whole" ["form"] (Pu (R__whole K))) (c_lowest : Cal P w K mg base CX0 4 "lowest" ["form"] (Pu (R_lowest K)))  : Cal P w K mg base CX0 5 "negated_quotient_breaches" ["form"] (PuT (R_negated_quotient_breaches K)) := by
  refine D0.cal sc_negated_quotient_breaches (fun vs H Q E h => by obtain ⟨xs, ⟨_, _, rfl, _⟩, _⟩ := h; rfl) (fun _ _ _ _ _ _ us hl => match us, hl with | [_], _ => rfl) (fun f cdv A outer s H vs Q E hr h => ?_)
  obtain ⟨xs, ⟨p, ⟨w0, sg, ov, dv, h4, h64⟩, rfl, hf, rfl⟩, k⟩ := h
  have hu := hu_of hr
  refine ⟨_, (pss_cons (ps_asg (pv 0) (pg_tup (by rfl) (pgs_cons (pg_name (i := 1) sc_negated_quotient_breaches.nd rfl (Or.inl rfl)) (pgs_cons (pg_name (i := 2) sc_negated_quotient_breaches.nd rfl (Or.inl rfl)) (pgs_cons (pg_name (i := 3) sc_negated_quotient_breaches.nd rfl (Or.inl rfl)) (pgs_cons (pg_name (i := 4) sc_negated_quotient_breaches.nd rfl (Or.inl rfl)) pgs_nil))))))
      (pss_cons (ps_if (pt_cmpR op_ne (pv 2) pe_str (nomark _)) (pss_one (ps_ret (pe_tup (pa_cons pe_int (pa_cons pe_int pa_nil))))) pss_nil)
      (pss_cons (ps_if (PW.pt (pw_and (pt_cmpR op_eq (pv 3) pe_str (nomark _)) (pw_and1 (pt_cmpR op_eq (pv 4) pe_str (nomark _))))) (pss_one (ps_ret (pe_tup (pa_cons pe_int (pa_cons pe_int pa_nil))))) pss_nil)
      (pss_cons (ps_if (PW.pt (pw_and (pt_cmpR op_eq (pv 3) pe_str (nomark _)) (pw_and1 (pt_cmpR op_eq (pv 4) pe_str (nomark _))))) (pss_cons (ps_if (pt_cmpR op_eq (pe_op op_modN (pv 1) pe_int) pe_int (nomark _)) (pss_one (ps_ret (pe_tup (pa_cons (pe_own c_lowest (hr.mono (by decide)) rfl pass0 (pa_cons (pv 0) pa_nil)) (pa_cons (pe_op op_fdivB (pe_own c__whole (hr.mono (by decide)) rfl pass0 (pa_cons (pv 0) pa_nil)) pe_int) pa_nil))))) pss_nil)
      (pss_one (ps_ret (pe_tup (pa_cons (pe_own c_lowest (hr.mono (by decide)) rfl pass0 (pa_cons (pv 0) pa_nil)) (pa_cons (pe_op op_sub (pe_op op_shl pe_int (pe_op op_fdivB (pe_op op_add (pv 1) pe_int) pe_int)) pe_int) pa_nil)))))) pss_nil)
      (pss_one (ps_ret (pe_tup (pa_cons (pe_own c_lowest (hr.mono (by decide)) rfl pass0 (pa_cons (pv 0) pa_nil)) (pa_cons pe_int pa_nil))))))))), bl_go ?_⟩
  apply bl_unp4 (hx := hf)
  · walk_at "ev"
  · rfl
  have w2 : 2 ≤ w0 := by omega
  have d3 : CDivB (p2 w0 - 1) 3 := sm_div (show (3 : Int).natAbs < 2 ^ 70 by decide) (by decide)
  have hq := fdiv2s w0
  have hq' : (((w0 + 1) / 2 : Nat) : Int) ≤ 40 := by omega
  have d2 : CDivB ((w0 : Int) + 1) 2 := sm_div (show (2 : Int).natAbs < 2 ^ 70 by decide) (by decide)
  cases sg
  · walk_at "yes"
    refine bl_retUE (by walk_at "eu") k ?_
    rfl
  rotate_left
  · walk_at "yes"
    refine bl_retUE (by walk_at "eu") k ?_
    rfl
  · walk_at "no"
    cases ov
    rotate_left
    · all_goals
        (repeat (first | walk_at "no" | walk_at "yes"))
        refine bl_retUE (by walk_at "eu") k ?_
        cases dv <;> rfl
    · all_goals
        (repeat (first | walk_at "no" | walk_at "yes"))
        refine bl_retUE (by walk_at "eu") k ?_
        cases dv <;> rfl
    · cases dv
      case even =>
        walk_at "no"
        walk_at "yes"
        by_cases hp : w0 % 2 = 0
        · refine bl_when (b := true) (et_is (et_test (by walk_at "ev")) (by rw [dec_i]; exact decide_eq_true ((par_w w0).mpr hp))) (fun _ => ?_) (fun z => by cases z)
          refine bl_retUE (by walk_at "eu") k ?_
          show _ = (cexN ⟨w0, .twos, .sat, .even, h4, h64⟩ .negQ).map V.int
          unfold cexN
          dsimp only
          rw [if_pos hp]
          rfl
        · refine bl_when (b := false) (et_is (et_test (by walk_at "ev")) (by rw [dec_i]; exact decide_eq_false (fun z => hp ((par_w w0).mp z)))) (fun z => by cases z) (fun _ => ?_)
          refine bl_retUE (by walk_at "eu") k ?_
          rw [hq, shl_n]
          show _ = (cexN ⟨w0, .twos, .sat, .even, h4, h64⟩ .negQ).map V.int
          unfold cexN
          dsimp only
          rw [if_neg hp]
          rfl
      all_goals
        (repeat (first | walk_at "no" | walk_at "yes"))
        refine bl_retUE (by walk_at "eu") k ?_
        rfl
abbrev s_shift_breaches : Stmt := top 49
abbrev N_shift_breaches : List Str := ["form", "division"]
theorem sc_shift_breaches : FnScope N_shift_breaches ["form"] (defScope s_shift_breaches) := ⟨rfl, rfl, rfl, by decide +kernel, rfl, by decide +kernel, by decide +kernel⟩
theorem ok_shift_breaches (T : Txt w K mg) (D0 : DefAtN K mg "shift_breaches" "_shift" s_shift_breaches)   : Cal P w K mg base CX0 1 "shift_breaches" ["form"] (PuT (R_shift_breaches K)) := by
  refine D0.cal sc_shift_breaches (fun vs H Q E h => by obtain ⟨xs, ⟨_, _, rfl, _⟩, _⟩ := h; rfl) (fun _ _ _ _ _ _ us hl => match us, hl with | [_], _ => rfl) (fun f cdv A outer s H vs Q E hr h => ?_)
  obtain ⟨xs, ⟨p, ⟨w0, sg, ov, dv, h4, h64⟩, rfl, hf, hb, rfl⟩, k⟩ := h
  have hu := hu_of hr
  refine ⟨_, (pss_cons (ps_set (i := 1) sc_shift_breaches.nd rfl (Or.inl rfl) (pe_ix ix_tup (pv 0) pe_int (fun _ _ => rfl)))
      (pss_cons (ps_if (pt_cmpR op_eq (pv 1) pe_str (nomark _)) (pss_one (ps_ret (pe_tup (pa_cons (pe_un un_neg pe_int) pa_nil)))) pss_nil)
      (pss_one (ps_ret (pe_tup (pa_cons (pe_ifExp (pt_cmpR op_eq (pv 1) pe_str (nomark _)) pe_int pe_int) pa_nil)))))), bl_go ?_⟩
  walk_at "set"
  cases dv
  all_goals first | (exfalso; cases sg <;> exact (Bool.noConfusion (show true = false from hb) : False)) | skip
  all_goals
    (repeat (first | walk_at "no" | walk_at "yes"))
    refine bl_retUE (by walk_at "eu") k ?_
    rfl
abbrev s_absolute_value_breaches : Stmt := top 51
abbrev N_absolute_value_breaches : List Str := ["form"]
theorem sc_absolute_value_breaches : FnScope N_absolute_value_breaches ["form"] (defScope s_absolute_value_breaches) := ⟨rfl, rfl, rfl, by decide +kernel, rfl, by decide +kernel, by decide +kernel⟩
theorem ok_absolute_value_breaches (T : Txt w K mg) (D0 : DefAtN K mg "absolute_value_breaches" "_absolute_value" s_absolute_value_breaches) (c_lowest : Cal P w K mg base CX0 4 "lowest" ["form"] (Pu (R_lowest K)))  : Cal P w K mg base CX0 5 "absolute_value_breaches" ["form"] (PuT (R_absolute_value_breaches K)) := by
  refine D0.cal sc_absolute_value_breaches (fun vs H Q E h => by obtain ⟨xs, ⟨_, _, rfl, _⟩, _⟩ := h; rfl) (fun _ _ _ _ _ _ us hl => match us, hl with | [_], _ => rfl) (fun f cdv A outer s H vs Q E hr h => ?_)
  obtain ⟨xs, ⟨p, ⟨w0, sg, ov, dv, h4, h64⟩, rfl, hf, rfl⟩, k⟩ := h
  have hu := hu_of hr
  refine ⟨_, (pss_one (ps_ret (pe_tup (pa_cons (pe_own c_lowest (hr.mono (by decide)) rfl pass0 (pa_cons (pv 0) pa_nil)) pa_nil)))), bl_go ?_⟩
  refine bl_retUE (by walk_at "eu") k ?_
  rfl
abbrev s_monotone_sum_breaches : Stmt := top 53
abbrev N_monotone_sum_breaches : List Str := ["form"]
theorem sc_monotone_sum_breaches : FnScope N_monotone_sum_breaches ["form"] (defScope s_monotone_sum_breaches) := ⟨rfl, rfl, rfl, by decide +kernel, rfl, by decide +kernel, by decide +kernel⟩
theorem ok_monotone_sum_breaches (T : Txt w K mg) (D0 : DefAtN K mg "monotone_sum_breaches" "_monotone_sum" s_monotone_sum_breaches) (c_highest : Cal P w K mg base CX0 4 "highest" ["form"] (Pu (R_highest K)))  : Cal P w K mg base CX0 5 "monotone_sum_breaches" ["form"] (PuT (R_monotone_sum_breaches K)) := by
  refine D0.cal sc_monotone_sum_breaches (fun vs H Q E h => by obtain ⟨xs, ⟨_, _, rfl, _⟩, _⟩ := h; rfl) (fun _ _ _ _ _ _ us hl => match us, hl with | [_], _ => rfl) (fun f cdv A outer s H vs Q E hr h => ?_)
  obtain ⟨xs, ⟨p, ⟨w0, sg, ov, dv, h4, h64⟩, rfl, hf, rfl⟩, k⟩ := h
  have hu := hu_of hr
  refine ⟨_, (pss_one (ps_ret (pe_tup (pa_cons (pe_op op_sub (pe_own c_highest (hr.mono (by decide)) rfl pass0 (pa_cons (pv 0) pa_nil)) pe_int) (pa_cons (pe_own c_highest (hr.mono (by decide)) rfl pass0 (pa_cons (pv 0) pa_nil)) (pa_cons pe_int pa_nil)))))), bl_go ?_⟩
  refine bl_retUE (by walk_at "eu") k ?_
  rfl
abbrev s_square_breaches : Stmt := top 55
abbrev N_square_breaches : List Str := ["form", "width", "root"]
theorem sc_square_breaches : FnScope N_square_breaches ["form"] (defScope s_square_breaches) := ⟨rfl, rfl, rfl, by decide +kernel, rfl, by decide +kernel, by decide +kernel⟩
theorem ok_square_breaches (T : Txt w K mg) (D0 : DefAtN K mg "square_breaches" "_square" s_square_breaches) (c_highest : Cal P w K mg base CX0 4 "highest" ["form"] (Pu (R_highest K)))  : Cal P w K mg base CX0 5 "square_breaches" ["form"] (PuT (R_square_breaches K)) := by
  refine D0.cal sc_square_breaches (fun vs H Q E h => by obtain ⟨xs, ⟨_, _, rfl, _⟩, _⟩ := h; rfl) (fun _ _ _ _ _ _ us hl => match us, hl with | [_], _ => rfl) (fun f cdv A outer s H vs Q E hr h => ?_)
  obtain ⟨xs, ⟨p, ⟨w0, sg, ov, dv, h4, h64⟩, rfl, hf, rfl⟩, k⟩ := h
  have hu := hu_of hr
  refine ⟨_, (pss_cons (ps_set (i := 1) sc_square_breaches.nd rfl (Or.inl rfl) (pe_ix ix_tup (pv 0) pe_int (fun _ _ => rfl)))
      (pss_cons (ps_if (pt_cmpR op_eq (pe_ix ix_tup (pv 0) pe_int (fun _ _ => rfl)) pe_str (nomark _)) (pss_one (ps_ret (pe_tup (pa_cons (pe_own c_highest (hr.mono (by decide)) rfl pass0 (pa_cons (pv 0) pa_nil)) pa_nil)))) pss_nil)
      (pss_cons (ps_set (i := 2) sc_square_breaches.nd rfl (Or.inl rfl) (pe_op op_shl pe_int (pe_op op_fdivB (pv 1) pe_int)))
      (pss_one (ps_ret (pe_tup (pa_cons (pe_ifExp (pt_cmpR op_eq (pe_op op_modN (pv 1) pe_int) pe_int (nomark _)) (pe_op op_sub (pv 2) pe_int) (pv 2)) pa_nil))))))), bl_go ?_⟩
  have hq := fdiv2 w0
  have hq' : ((w0 / 2 : Nat) : Int) ≤ 40 := by omega
  have d2 : CDivB (w0 : Int) 2 := sm_div (show (2 : Int).natAbs < 2 ^ 70 by decide) (by decide)
  walk_at "set"
  cases ov
  case trap =>
    walk_at "yes"
    refine bl_retUE (by walk_at "eu") k ?_
    rfl
  all_goals
    walk_at "no"
    walk_at "set"
    refine bl_retUE (by walk_at "eu") k ?_
    rw [hq, shl_n, dec_i]
    unfold cexN
    dsimp only
    by_cases hp : w0 % 2 = 0
    · rw [decide_eq_true ((par_w w0).mpr hp), if_pos rfl, if_pos hp]
      rfl
    · rw [decide_eq_false (fun z => hp ((par_w w0).mp z)), if_neg (by decide), if_neg hp]
      rfl
abbrev s_zero_product_breaches : Stmt := top 57
abbrev N_zero_product_breaches : List Str := ["form", "signs"]
theorem sc_zero_product_breaches : FnScope N_zero_product_breaches ["form"] (defScope s_zero_product_breaches) := ⟨rfl, rfl, rfl, by decide +kernel, rfl, by decide +kernel, by decide +kernel⟩
theorem ok_zero_product_breaches (T : Txt w K mg) (D0 : DefAtN K mg "zero_product_breaches" "_zero_product" s_zero_product_breaches) (c__factors : Cal P w K mg base CX0 5 "_factors" ["form"] (PuT (R__factors K))) (c__half : Cal P w K mg base CX0 1 "_half" ["form"] (Pu (R__half K))) (c_lowest : Cal P w K mg base CX0 4 "lowest" ["form"] (Pu (R_lowest K)))  : Cal P w K mg base CX0 6 "zero_product_breaches" ["form"] (PuT (R_zero_product_breaches K)) := by
  refine D0.cal sc_zero_product_breaches (fun vs H Q E h => by obtain ⟨xs, ⟨_, _, rfl, _⟩, _⟩ := h; rfl) (fun _ _ _ _ _ _ us hl => match us, hl with | [_], _ => rfl) (fun f cdv A outer s H vs Q E hr h => ?_)
  obtain ⟨xs, ⟨p, ⟨w0, sg, ov, dv, h4, h64⟩, rfl, hf, rfl⟩, k⟩ := h
  have hu := hu_of hr
  refine ⟨_, (pss_cons (ps_set (i := 1) sc_zero_product_breaches.nd rfl (Or.inl rfl) (pe_ix ix_tup (pv 0) pe_int (fun _ _ => rfl)))
      (pss_cons (ps_if (pt_cmpR op_eq (pv 1) pe_str (nomark _)) (pss_one (ps_ret (pe_tup (pa_cons pe_int (pa_cons (pe_own c_lowest (hr.mono (by decide)) rfl pass0 (pa_cons (pv 0) pa_nil)) pa_nil))))) pss_nil)
      (pss_cons (ps_if (pt_cmpR op_eq (pv 1) pe_str (nomark _)) (pss_one (ps_ret (pe_tup (pa_cons pe_int (pa_cons (pe_own c__half (hr.mono (by decide)) rfl pass0 (pa_cons (pv 0) pa_nil)) pa_nil))))) pss_nil)
      (pss_one (ps_ret (pe_own c__factors (hr.mono (by decide)) rfl pass0 (pa_cons (pv 0) pa_nil))))))), bl_go ?_⟩
  walk_at "set"
  cases sg
  · walk_at "no"
    walk_at "no"
    refine bl_retUE (by walk_at "eu") k ?_
    rfl
  · walk_at "yes"
    refine bl_retUE (by walk_at "eu") k ?_
    rfl
  · walk_at "no"
    walk_at "yes"
    refine bl_retUE (by walk_at "eu") k ?_
    rfl
abbrev s_cancellation_breaches : Stmt := top 59
abbrev N_cancellation_breaches : List Str := ["form", "a", "c"]
theorem sc_cancellation_breaches : FnScope N_cancellation_breaches ["form"] (defScope s_cancellation_breaches) := ⟨rfl, rfl, rfl, by decide +kernel, rfl, by decide +kernel, by decide +kernel⟩
theorem ok_cancellation_breaches (T : Txt w K mg) (D0 : DefAtN K mg "cancellation_breaches" "_cancellation" s_cancellation_breaches) (c_highest : Cal P w K mg base CX0 4 "highest" ["form"] (Pu (R_highest K))) (c_zero_product_breaches : Cal P w K mg base CX0 6 "zero_product_breaches" ["form"] (PuT (R_zero_product_breaches K)))  : Cal P w K mg base CX0 7 "cancellation_breaches" ["form"] (PuT (R_cancellation_breaches K)) := by
  refine D0.cal sc_cancellation_breaches (fun vs H Q E h => by obtain ⟨xs, ⟨_, _, rfl, _⟩, _⟩ := h; rfl) (fun _ _ _ _ _ _ us hl => match us, hl with | [_], _ => rfl) (fun f cdv A outer s H vs Q E hr h => ?_)
  obtain ⟨xs, ⟨p, ⟨w0, sg, ov, dv, h4, h64⟩, rfl, hf, rfl⟩, k⟩ := h
  have hu := hu_of hr
  refine ⟨_, (pss_cons (ps_if (pt_cmpR op_ne (pe_ix ix_tup (pv 0) pe_int (fun _ _ => rfl)) pe_str (nomark _)) (pss_one (ps_ret (pe_tup (pa_cons pe_int (pa_cons (pe_own c_highest (hr.mono (by decide)) rfl pass0 (pa_cons (pv 0) pa_nil)) (pa_cons (pe_op op_sub (pe_own c_highest (hr.mono (by decide)) rfl pass0 (pa_cons (pv 0) pa_nil)) pe_int) pa_nil)))))) pss_nil)
      (pss_cons (ps_asg (pe_own c_zero_product_breaches (hr.mono (by decide)) rfl pass0 (pa_cons (pv 0) pa_nil)) (pg_tup (by rfl) (pgs_cons (pg_name (i := 1) sc_cancellation_breaches.nd rfl (Or.inl rfl)) (pgs_cons (pg_name (i := 2) sc_cancellation_breaches.nd rfl (Or.inl rfl)) pgs_nil))))
      (pss_one (ps_ret (pe_tup (pa_cons (pv 1) (pa_cons pe_int (pa_cons (pv 2) pa_nil)))))))), bl_go ?_⟩
  cases ov
  case wrap =>
    walk_at "no"
    obtain ⟨x, y, e1, e2⟩ := canc_zero (f := ⟨w0, sg, .wrap, dv, h4, h64⟩) rfl
    refine bl_unp2U (a := V.int x) (b := V.int y) (eu_is (by walk_at "eu") (by rw [e1]; rfl)) rfl (fun H1 e3 => ?_)
    refine bl_retUE (by walk_at "eu") (fun p1 H2 hp e4 hx => k p1 H2 (fresh_back e3 hp) (e3.trans e4) hx) (by rw [e2]; rfl)
  all_goals
    walk_at "yes"
    refine bl_retUE (by walk_at "eu") k ?_
    rfl
def R_broken (K : PySem.W.Frag) (r : Rl) : List V → Hp → List V → Prop := fun vs H xs => ∃ (p : Addr) (f : Fmt), vs = [.ref p] ∧ SqT K H p (fV f) ∧ holdsB f r = false ∧ xs = (cexN f r).map V.int
def fam_BREACHES (K : PySem.W.Frag) : V → Sp → Prop := fun y sp => ∃ r : Rl, y = .ref (He.ga K (nm_BREACHES r)) ∧ sp = PuT (R_broken K r)
theorem famOk_BREACHES (g_sum_grouping_breaches : mg "sum_grouping_breaches" = some (.ref (He.ga K "sum_grouping_breaches"))) (g_product_grouping_breaches : mg "product_grouping_breaches" = some (.ref (He.ga K "product_grouping_breaches"))) (g_distribution_breaches : mg "distribution_breaches" = some (.ref (He.ga K "distribution_breaches"))) (g_double_negation_breaches : mg "double_negation_breaches" = some (.ref (He.ga K "double_negation_breaches"))) (g_difference_breaches : mg "difference_breaches" = some (.ref (He.ga K "difference_breaches"))) (g__lowest_and_one : mg "_lowest_and_one" = some (.ref (He.ga K "_lowest_and_one"))) (g_division_breaches : mg "division_breaches" = some (.ref (He.ga K "division_breaches"))) (g_remainder_range_breaches : mg "remainder_range_breaches" = some (.ref (He.ga K "remainder_range_breaches"))) (g_negated_quotient_breaches : mg "negated_quotient_breaches" = some (.ref (He.ga K "negated_quotient_breaches"))) (g_shift_breaches : mg "shift_breaches" = some (.ref (He.ga K "shift_breaches"))) (g_absolute_value_breaches : mg "absolute_value_breaches" = some (.ref (He.ga K "absolute_value_breaches"))) (g_monotone_sum_breaches : mg "monotone_sum_breaches" = some (.ref (He.ga K "monotone_sum_breaches"))) (g_square_breaches : mg "square_breaches" = some (.ref (He.ga K "square_breaches"))) (g_zero_product_breaches : mg "zero_product_breaches" = some (.ref (He.ga K "zero_product_breaches"))) (g_cancellation_breaches : mg "cancellation_breaches" = some (.ref (He.ga K "cancellation_breaches"))) (c_sum_grouping_breaches : Cal P w K mg base CX0 5 "sum_grouping_breaches" ["form"] (PuT (R_sum_grouping_breaches K))) (c_product_grouping_breaches : Cal P w K mg base CX0 5 "product_grouping_breaches" ["form"] (PuT (R_product_grouping_breaches K))) (c_distribution_breaches : Cal P w K mg base CX0 5 "distribution_breaches" ["form"] (PuT (R_distribution_breaches K))) (c_double_negation_breaches : Cal P w K mg base CX0 5 "double_negation_breaches" ["form"] (PuT (R_double_negation_breaches K))) (c_difference_breaches : Cal P w K mg base CX0 5 "difference_breaches" ["form"] (PuT (R_difference_breaches K))) (c__lowest_and_one : Cal P w K mg base CX0 5 "_lowest_and_one" ["form"] (PuT (R__lowest_and_one K))) (c_division_breaches : Cal P w K mg base CX0 5 "division_breaches" ["form"] (PuT (R_division_breaches K))) (c_remainder_range_breaches : Cal P w K mg base CX0 1 "remainder_range_breaches" ["form"] (PuT (R_remainder_range_breaches K))) (c_negated_quotient_breaches : Cal P w K mg base CX0 5 "negated_quotient_breaches" ["form"] (PuT (R_negated_quotient_breaches K))) (c_shift_breaches : Cal P w K mg base CX0 1 "shift_breaches" ["form"] (PuT (R_shift_breaches K))) (c_absolute_value_breaches : Cal P w K mg base CX0 5 "absolute_value_breaches" ["form"] (PuT (R_absolute_value_breaches K))) (c_monotone_sum_breaches : Cal P w K mg base CX0 5 "monotone_sum_breaches" ["form"] (PuT (R_monotone_sum_breaches K))) (c_square_breaches : Cal P w K mg base CX0 5 "square_breaches" ["form"] (PuT (R_square_breaches K))) (c_zero_product_breaches : Cal P w K mg base CX0 6 "zero_product_breaches" ["form"] (PuT (R_zero_product_breaches K))) (c_cancellation_breaches : Cal P w K mg base CX0 7 "cancellation_breaches" ["form"] (PuT (R_cancellation_breaches K))) : FamOk P w K mg base CX0 7 (fam_BREACHES K) := by
  rintro y sp ⟨r, rfl, rfl⟩
  cases r
  · obtain ⟨g, hm, F, hk⟩ := c_sum_grouping_breaches.raw
    rw [g_sum_grouping_breaches] at hm
    cases hm
    refine ⟨_, rfl, (F.mono (by decide)).imp fun vs H Q E h => ?_, hk⟩
    obtain ⟨xs, ⟨p, f, rfl, hf, hb, rfl⟩, k⟩ := h
    exact ⟨_, ⟨p, f, rfl, hf, rfl⟩, k⟩
  · obtain ⟨g, hm, F, hk⟩ := c_product_grouping_breaches.raw
    rw [g_product_grouping_breaches] at hm
    cases hm
    refine ⟨_, rfl, (F.mono (by decide)).imp fun vs H Q E h => ?_, hk⟩
    obtain ⟨xs, ⟨p, f, rfl, hf, hb, rfl⟩, k⟩ := h
    exact ⟨_, ⟨p, f, rfl, hf, rfl⟩, k⟩
  · obtain ⟨g, hm, F, hk⟩ := c_distribution_breaches.raw
    rw [g_distribution_breaches] at hm
    cases hm
    refine ⟨_, rfl, (F.mono (by decide)).imp fun vs H Q E h => ?_, hk⟩
    obtain ⟨xs, ⟨p, f, rfl, hf, hb, rfl⟩, k⟩ := h
    exact ⟨_, ⟨p, f, rfl, hf, rfl⟩, k⟩
  · obtain ⟨g, hm, F, hk⟩ := c_double_negation_breaches.raw
    rw [g_double_negation_breaches] at hm
    cases hm
    refine ⟨_, rfl, (F.mono (by decide)).imp fun vs H Q E h => ?_, hk⟩
    obtain ⟨xs, ⟨p, f, rfl, hf, hb, rfl⟩, k⟩ := h
    exact ⟨_, ⟨p, f, rfl, hf, rfl⟩, k⟩
  · obtain ⟨g, hm, F, hk⟩ := c_difference_breaches.raw
    rw [g_difference_breaches] at hm
    cases hm
    refine ⟨_, rfl, (F.mono (by decide)).imp fun vs H Q E h => ?_, hk⟩
    obtain ⟨xs, ⟨p, f, rfl, hf, hb, rfl⟩, k⟩ := h
    exact ⟨_, ⟨p, f, rfl, hf, rfl⟩, k⟩
  · obtain ⟨g, hm, F, hk⟩ := c__lowest_and_one.raw
    rw [g__lowest_and_one] at hm
    cases hm
    refine ⟨_, rfl, (F.mono (by decide)).imp fun vs H Q E h => ?_, hk⟩
    obtain ⟨xs, ⟨p, f, rfl, hf, hb, rfl⟩, k⟩ := h
    exact ⟨_, ⟨p, f, rfl, hf, rfl⟩, k⟩
  · obtain ⟨g, hm, F, hk⟩ := c_division_breaches.raw
    rw [g_division_breaches] at hm
    cases hm
    refine ⟨_, rfl, (F.mono (by decide)).imp fun vs H Q E h => ?_, hk⟩
    obtain ⟨xs, ⟨p, f, rfl, hf, hb, rfl⟩, k⟩ := h
    exact ⟨_, ⟨p, f, rfl, hf, rfl⟩, k⟩
  · obtain ⟨g, hm, F, hk⟩ := c_remainder_range_breaches.raw
    rw [g_remainder_range_breaches] at hm
    cases hm
    refine ⟨_, rfl, (F.mono (by decide)).imp fun vs H Q E h => ?_, hk⟩
    obtain ⟨xs, ⟨p, f, rfl, hf, hb, rfl⟩, k⟩ := h
    exact ⟨_, ⟨p, f, rfl, hf, hb, rfl⟩, k⟩
  · obtain ⟨g, hm, F, hk⟩ := c_negated_quotient_breaches.raw
    rw [g_negated_quotient_breaches] at hm
    cases hm
    refine ⟨_, rfl, (F.mono (by decide)).imp fun vs H Q E h => ?_, hk⟩
    obtain ⟨xs, ⟨p, f, rfl, hf, hb, rfl⟩, k⟩ := h
    exact ⟨_, ⟨p, f, rfl, hf, rfl⟩, k⟩
  · obtain ⟨g, hm, F, hk⟩ := c_shift_breaches.raw
    rw [g_shift_breaches] at hm
    cases hm
    refine ⟨_, rfl, (F.mono (by decide)).imp fun vs H Q E h => ?_, hk⟩
    obtain ⟨xs, ⟨p, f, rfl, hf, hb, rfl⟩, k⟩ := h
    exact ⟨_, ⟨p, f, rfl, hf, hb, rfl⟩, k⟩
  · obtain ⟨g, hm, F, hk⟩ := c_absolute_value_breaches.raw
    rw [g_absolute_value_breaches] at hm
    cases hm
    refine ⟨_, rfl, (F.mono (by decide)).imp fun vs H Q E h => ?_, hk⟩
    obtain ⟨xs, ⟨p, f, rfl, hf, hb, rfl⟩, k⟩ := h
    exact ⟨_, ⟨p, f, rfl, hf, rfl⟩, k⟩
  · obtain ⟨g, hm, F, hk⟩ := c__lowest_and_one.raw
    rw [g__lowest_and_one] at hm
    cases hm
    refine ⟨_, rfl, (F.mono (by decide)).imp fun vs H Q E h => ?_, hk⟩
    obtain ⟨xs, ⟨p, f, rfl, hf, hb, rfl⟩, k⟩ := h
    exact ⟨_, ⟨p, f, rfl, hf, rfl⟩, k⟩
  · obtain ⟨g, hm, F, hk⟩ := c_monotone_sum_breaches.raw
    rw [g_monotone_sum_breaches] at hm
    cases hm
    refine ⟨_, rfl, (F.mono (by decide)).imp fun vs H Q E h => ?_, hk⟩
    obtain ⟨xs, ⟨p, f, rfl, hf, hb, rfl⟩, k⟩ := h
    exact ⟨_, ⟨p, f, rfl, hf, rfl⟩, k⟩
  · obtain ⟨g, hm, F, hk⟩ := c__lowest_and_one.raw
    rw [g__lowest_and_one] at hm
    cases hm
    refine ⟨_, rfl, (F.mono (by decide)).imp fun vs H Q E h => ?_, hk⟩
    obtain ⟨xs, ⟨p, f, rfl, hf, hb, rfl⟩, k⟩ := h
    exact ⟨_, ⟨p, f, rfl, hf, rfl⟩, k⟩
  · obtain ⟨g, hm, F, hk⟩ := c_square_breaches.raw
    rw [g_square_breaches] at hm
    cases hm
    refine ⟨_, rfl, (F.mono (by decide)).imp fun vs H Q E h => ?_, hk⟩
    obtain ⟨xs, ⟨p, f, rfl, hf, hb, rfl⟩, k⟩ := h
    exact ⟨_, ⟨p, f, rfl, hf, rfl⟩, k⟩
  · obtain ⟨g, hm, F, hk⟩ := c_zero_product_breaches.raw
    rw [g_zero_product_breaches] at hm
    cases hm
    refine ⟨_, rfl, (F.mono (by decide)).imp fun vs H Q E h => ?_, hk⟩
    obtain ⟨xs, ⟨p, f, rfl, hf, hb, rfl⟩, k⟩ := h
    exact ⟨_, ⟨p, f, rfl, hf, rfl⟩, k⟩
  · obtain ⟨g, hm, F, hk⟩ := c_cancellation_breaches.raw
    rw [g_cancellation_breaches] at hm
    cases hm
    refine ⟨_, rfl, (F.mono (by decide)).imp fun vs H Q E h => ?_, hk⟩
    obtain ⟨xs, ⟨p, f, rfl, hf, hb, rfl⟩, k⟩ := h
    exact ⟨_, ⟨p, f, rfl, hf, rfl⟩, k⟩
def R_breach (K : PySem.W.Frag) : List V → Hp → List V → Prop := fun vs H xs => ∃ (p : Addr) (f : Fmt) (r : Rl), vs = [.ref p, .str (rlS r)] ∧ (SqT K H p (fV f)) ∧ (holdsB f r = false) ∧ xs = (cexN f r).map V.int
theorem r_breach {K : PySem.W.Frag} {H : Hp} {p : Addr} {f : Fmt} {r : Rl} (h0 : SqT K H p (fV f)) (h1 : holdsB f r = false) : R_breach K [.ref p, .str (rlS r)] H ((cexN f r).map V.int) := ⟨_, _, _, rfl, h0, h1, rfl⟩
def R_counterexample (K : PySem.W.Frag) : List V → Hp → List V → Prop := fun vs H xs => ∃ (p : Addr) (f : Fmt) (r : Rl), vs = [.ref p, .str (rlS r)] ∧ (SqT K H p (fV f)) ∧ (holdsB f r = false) ∧ xs = (cexN f r).map V.int
theorem r_counterexample {K : PySem.W.Frag} {H : Hp} {p : Addr} {f : Fmt} {r : Rl} (h0 : SqT K H p (fV f)) (h1 : holdsB f r = false) : R_counterexample K [.ref p, .str (rlS r)] H ((cexN f r).map V.int) := ⟨_, _, _, rfl, h0, h1, rfl⟩
local macro_rules | `(tactic| walk_at "own") => `(tactic| first
  | exact r_is_whole (by first | assumption | exact .int _ | exact Wh.ex (by assumption) (by assumption))
  | exact r_are_choices 
  | exact r_is_format (ex_t (by assumption) (by assumption))
  | exact r_check_format (ex_t (by assumption) (by assumption))
  | exact r_ends (ex_t (by assumption) (by assumption))
  | exact r_lowest (ex_t (by assumption) (by assumption))
  | exact r_highest (ex_t (by assumption) (by assumption))
  | exact r_terms_of (ex_t (by assumption) (by assumption))
  | exact r_fitted (ex_t (by assumption) (by assumption))
  | exact r__quotient_to_zero (by assumption) (by assumption) (by assumption)
  | exact r__quotient_to_even (by assumption) (by assumption) (by assumption)
  | exact r__quotient_of_euclid (by assumption) (by assumption) (by assumption)
  | exact r__exact_quotient (by assumption) (by assumption) (by assumption)
  | ((with_reducible apply r_plus_G); (exact (ex_t (by assumption) (by assumption))); (walk_at "isr"); (walk_at "isr"))
  | ((with_reducible apply r_minus_G); (exact (ex_t (by assumption) (by assumption))); (walk_at "isr"); (walk_at "isr"))
  | ((with_reducible apply r_times_G); (exact (ex_t (by assumption) (by assumption))); (walk_at "isr"); (walk_at "isr"); (walk_at "osm"); (walk_at "osm"))
  | ((with_reducible apply r_quotient_G); (exact (ex_t (by assumption) (by assumption))); (walk_at "isr"); (walk_at "isr"); (walk_at "osm"); (walk_at "osm"); (walk_at "nz"))
  | ((with_reducible apply r_opposite_G); (exact (ex_t (by assumption) (by assumption))); (walk_at "isr"))
  | exact r_rest (ex_t (by assumption) (by assumption)) (by assumption) (by assumption) (by assumption)
  | ((with_reducible apply r__at_most_G); (walk_at "isr"); (walk_at "isr"))
  | ((with_reducible apply r__below_G); (walk_at "isr"); (walk_at "isr"))
  | exact r_sum_grouping_rules (ex_t (by assumption) (by assumption)) (by assumption) (by assumption) (by assumption)
  | exact r_product_grouping_rules (ex_t (by assumption) (by assumption)) (by assumption) (by assumption) (by assumption)
  | exact r_distribution_rules (ex_t (by assumption) (by assumption)) (by assumption) (by assumption) (by assumption)
  | exact r_double_negation_rules (ex_t (by assumption) (by assumption)) (by assumption)
  | exact r_difference_rules (ex_t (by assumption) (by assumption)) (by assumption) (by assumption)
  | exact r_add_back_rules (ex_t (by assumption) (by assumption)) (by assumption) (by assumption)
  | exact r_division_rules (ex_t (by assumption) (by assumption)) (by assumption) (by assumption)
  | exact r_remainder_range_rules (ex_t (by assumption) (by assumption)) (by assumption) (by assumption)
  | exact r_negated_quotient_rules (ex_t (by assumption) (by assumption)) (by assumption) (by assumption)
  | exact r_shift_rules (ex_t (by assumption) (by assumption)) (by assumption)
  | exact r_absolute_value_rules (ex_t (by assumption) (by assumption)) (by assumption)
  | exact r_order_by_difference_rules (ex_t (by assumption) (by assumption)) (by assumption) (by assumption)
  | exact r_monotone_sum_rules (ex_t (by assumption) (by assumption)) (by assumption) (by assumption) (by assumption)
  | exact r_average_rules (ex_t (by assumption) (by assumption)) (by assumption) (by assumption)
  | exact r_square_rules (ex_t (by assumption) (by assumption)) (by assumption)
  | exact r_zero_product_rules (ex_t (by assumption) (by assumption)) (by assumption) (by assumption)
  | exact r_cancellation_rules (ex_t (by assumption) (by assumption)) (by assumption) (by assumption) (by assumption)
  | exact r_is_rule 
  | exact r_check_rule 
  | exact r__check_numbers (ex_t (by assumption) (by assumption)) (ex_t (by assumption) (by assumption)) (by assumption) (by assumption) (by assumption)
  | exact r_holds_for (ex_t (by assumption) (by assumption)) (ex_t (by assumption) (by assumption)) (by assumption) (by assumption)
  | exact r__check_exponent (by assumption) (by assumption)
  | exact r__passes_lucas_lehmer (by assumption) (by assumption) (by assumption)
  | exact r_is_mersenne (by assumption) (by assumption)
  | exact r_least_factor (by assumption) (by assumption)
  | exact r_sum_grouping_conditions 
  | exact r_product_grouping_conditions 
  | exact r_distribution_conditions 
  | exact r__negatives 
  | exact r_add_back_conditions 
  | exact r_division_conditions 
  | exact r_remainder_range_conditions 
  | exact r_negated_quotient_conditions 
  | exact r_shift_conditions 
  | exact r_absolute_value_conditions 
  | exact r_order_by_difference_conditions 
  | exact r_monotone_sum_conditions 
  | exact r_average_conditions 
  | exact r_square_conditions 
  | exact r_zero_product_conditions 
  | exact r_cancellation_conditions 
  | exact r_meets_condition (ex_t (by assumption) (by assumption))
  | exact r_holds (ex_t (by assumption) (by assumption))
  | exact r__half (ex_t (by assumption) (by assumption))
  | exact r__whole (ex_t (by assumption) (by assumption))
  | exact r__factors (ex_t (by assumption) (by assumption))
  | exact r_sum_grouping_breaches (ex_t (by assumption) (by assumption))
  | exact r_product_grouping_breaches (ex_t (by assumption) (by assumption))
  | exact r_distribution_breaches (ex_t (by assumption) (by assumption))
  | exact r_double_negation_breaches (ex_t (by assumption) (by assumption))
  | exact r_difference_breaches (ex_t (by assumption) (by assumption))
  | exact r__lowest_and_one (ex_t (by assumption) (by assumption))
  | exact r_division_breaches (ex_t (by assumption) (by assumption))
  | exact r_remainder_range_breaches (ex_t (by assumption) (by assumption)) (by assumption)
  | exact r_negated_quotient_breaches (ex_t (by assumption) (by assumption))
  | exact r_shift_breaches (ex_t (by assumption) (by assumption)) (by assumption)
  | exact r_absolute_value_breaches (ex_t (by assumption) (by assumption))
  | exact r_monotone_sum_breaches (ex_t (by assumption) (by assumption))
  | exact r_square_breaches (ex_t (by assumption) (by assumption))
  | exact r_zero_product_breaches (ex_t (by assumption) (by assumption))
  | exact r_cancellation_breaches (ex_t (by assumption) (by assumption))
  | exact r_breach (ex_t (by assumption) (by assumption)) (by assumption)
  | exact r_counterexample (ex_t (by assumption) (by assumption)) (by assumption))
abbrev s_breach : Stmt := top 28
abbrev N_breach : List Str := ["form", "rule", "told"]
theorem sc_breach : FnScope N_breach ["form", "rule"] (defScope s_breach) := ⟨rfl, rfl, rfl, by decide +kernel, rfl, by decide +kernel, by decide +kernel⟩
theorem ok_breach (T : Txt w K mg) (D0 : DefAt K mg "breach" s_breach)  (F_BREACHES : FamOk P w K mg base CX0 7 (fam_BREACHES K)) : Cal P w K mg base CX0 8 "breach" ["form", "rule"] (PuT (R_breach K)) := by
  refine D0.cal sc_breach (fun vs H Q E h => by obtain ⟨xs, ⟨_, _, _, rfl, _⟩, _⟩ := h; rfl) (fun _ _ _ _ _ _ us hl => match us, hl with | [_, _], _ => rfl) (fun f cdv A outer s H vs Q E hr h => ?_)
  obtain ⟨xs, ⟨p, f, r, rfl, hf, hb, rfl⟩, k⟩ := h
  have hu := hu_of hr
  refine ⟨_, (pss_cons (ps_set (i := 2) sc_breach.nd rfl (Or.inl rfl) (pe_ix ix_kdict (pe_glob (v := .ref _) rfl T.g_BREACHES rfl) (pv 1) (fun _ _ => rfl)))
      (pss_one (ps_ret (pe_callVP F_BREACHES (hr.mono (by decide)) pass0 (pv 2) (pa_cons (pv 0) pa_nil))))), bl_go ?_⟩
  have kc := T.v_BREACHES r
  walk_at "set"
  refine bl_retUE (eu_callV (vs := [.ref p]) (ev_var rfl) ⟨r, rfl, rfl⟩ (by walk_at "ea") (fun H2 e2 => ⟨p, f, rfl, ex_t e2 hf, hb, rfl⟩)) k rfl
abbrev s_counterexample : Stmt := top 155
abbrev N_counterexample : List Str := ["form", "rule"]
theorem sc_counterexample : FnScope N_counterexample ["form", "rule"] (defScope s_counterexample) := ⟨rfl, rfl, rfl, by decide +kernel, rfl, by decide +kernel, by decide +kernel⟩
theorem ok_counterexample (T : Txt w K mg) (D0 : DefAt K mg "counterexample" s_counterexample) (c_breach : Cal P w K mg base CX0 8 "breach" ["form", "rule"] (PuT (R_breach K))) (c_holds : Cal P w K mg base CX0 6 "holds" ["form", "rule"] (Pu (R_holds K)))  : Cal P w K mg base CX0 9 "counterexample" ["form", "rule"] (PuT (R_counterexample K)) := by
  refine D0.cal sc_counterexample (fun vs H Q E h => by obtain ⟨xs, ⟨_, _, _, rfl, _⟩, _⟩ := h; rfl) (fun _ _ _ _ _ _ us hl => match us, hl with | [_, _], _ => rfl) (fun f cdv A outer s H vs Q E hr h => ?_)
  obtain ⟨xs, ⟨p, f, r, rfl, hf, hb, rfl⟩, k⟩ := h
  have hu := hu_of hr
  refine ⟨_, (pss_cons (ps_if (pt_val (pe_own c_holds (hr.mono (by decide)) rfl pass0 (pa_cons (pv 0) (pa_cons (pv 1) pa_nil)))) (pss_one (ps_ret pe_non)) pss_nil)
      (pss_one (ps_ret (pe_own c_breach (hr.mono (by decide)) rfl pass0 (pa_cons (pv 0) (pa_cons (pv 1) pa_nil)))))), bl_go ?_⟩
  (with_reducible apply bl_when); (walk_at "et")
  · intro h
    rw [hb] at h
    cases h
  · intro _
    refine bl_retUE (by walk_at "eu") k ?_
    rfl
end
end K1

set_option maxHeartbeats 4000000
namespace K1
open PySem PySem.Spec PyProof.Rows L2 Evl WM WL WLam WX WT WU StX LamX
local macro_rules | `(tactic| walk_at "ev") => `(tactic| first
  | exact ev_c
  | exact ev_var rfl
  | ((with_reducible apply ev_op); (walk_at "ev"); (walk_at "ev"); (walk_at "rv"))
  | ((with_reducible apply ev_un); (walk_at "ev"); exact ru_neg)
  | ((with_reducible apply ev_notV); (walk_at "ev"))
  | ((with_reducible apply ev_andV); (walk_at "ev"); (intro _; walk_at "ev"))
  | ((with_reducible apply ev_orV); (walk_at "ev"); (intro _; walk_at "ev"))
  | ((with_reducible apply ev_ifT); (walk_at "et"); (exact rfl); (walk_at "ev"))
  | ((with_reducible apply ev_ifF); (walk_at "et"); (exact rfl); (walk_at "ev"))
  | ((with_reducible apply ev_ifB); (walk_at "et"); (intro _; walk_at "ev"); (intro _; walk_at "ev"))
  | ((with_reducible apply ev_chainI); (walk_at "ev"); (walk_at "ev"); (walk_at "ev"))
  | ((with_reducible apply ev_own); (walk_at "ea"); (intro _ _; walk_at "own"))
  | ((with_reducible apply ev_ddS); (walk_at "dp"); (exact Nat.le_of_ble_eq_true rfl); (walk_at "ev"); (exact rfl))
  | ((with_reducible apply ev_isiT); (walk_at "ev"); (walk_at "ea"); (walk_at "isiT"))
  | ((with_reducible apply ev_cb); (walk_at "ea"); (walk_at "rc")))
local macro_rules | `(tactic| walk_at "dp") => `(tactic| first
  | exact Paired.nil
  | ((with_reducible apply dp_cons); (exact ev_c); (walk_at "ev"); (walk_at "dp")))
local macro_rules | `(tactic| walk_at "ea") => `(tactic| first
  | exact ea_nil
  | ((with_reducible apply ea_cons); (walk_at "ev"); (walk_at "ea")))
local macro_rules | `(tactic| walk_at "et") => `(tactic| first
  | ((with_reducible apply et_test); (walk_at "ev"))
  | ((with_reducible apply et_B); (walk_at "ev"))
  | ((with_reducible apply et_not); (walk_at "et"))
  | ((with_reducible apply et_and); (walk_at "et"); (intro _; walk_at "et"))
  | ((with_reducible apply et_or); (walk_at "et"); (intro _; walk_at "et")))
local macro_rules | `(tactic| walk_at "rv") => `(tactic| first
  | exact rv_I0
  | exact rv_eq rfl
  | exact rv_ne rfl
  | exact rv_isT (by assumption) rfl rfl
  | exact rv_niT (by assumption) rfl rfl
  | exact rv_isL (by assumption) rfl rfl
  | exact rv_niL (by assumption) rfl rfl
  | exact rv_ixT (by assumption) rfl
  | exact rv_ixL (by assumption) rfl
  | exact rv_ixL (by assumption) (by assumption)
  | (apply rv_I; (walk_at "side")))
local macro_rules | `(tactic| walk_at "side") => `(tactic| first
  | assumption
  | (refine And.intro ?_ (And.intro ?_ ?_) <;> (try dsimp only) <;> first | omega | decide)
  | (dsimp only; omega)
  | omega)
local macro_rules | `(tactic| walk_at "rc") => `(tactic| first
  | exact rc_abs | exact rc_max2 | exact rc_min2 | exact rc_int | exact rc_intB
  | exact rc_isi_int (b := true) (by decide +kernel)
  | exact rc_isi_int (b := false) (by decide +kernel)
  | exact rc_isi_bl (b := true) (by decide +kernel)
  | exact rc_isi_bl (b := false) (by decide +kernel)
  | exact rc_isi_str (b := true) (by decide +kernel)
  | exact rc_isi_str (b := false) (by decide +kernel)
  | exact rc_isi_T (b := true) (by assumption) (by decide +kernel)
  | exact rc_isi_T (b := false) (by assumption) (by decide +kernel)
  | exact rc_lenT (by assumption)
  | exact rc_lenL (by assumption))
local macro_rules | `(tactic| walk_at "set") => `(tactic| ((with_reducible apply bl_set); (walk_at "ev")))
local macro_rules | `(tactic| walk_at "drop") => `(tactic| ((with_reducible apply bl_drop); (walk_at "ev")))
local macro_rules | `(tactic| walk_at "par") => `(tactic| ((with_reducible apply bl_par); (walk_at "ea")))
local macro_rules | `(tactic| walk_at "if") => `(tactic| ((with_reducible apply bl_when); (walk_at "et")))
local macro_rules | `(tactic| walk_at "no") => `(tactic| ((with_reducible apply bl_when); (walk_at "et"); (intro h; exact absurd (show false = true from h) (by decide)); (intro _)))
local macro_rules | `(tactic| walk_at "yes") => `(tactic| ((with_reducible apply bl_when); (walk_at "et"); rotate_left; (intro h; exact absurd (show true = false from h) (by decide)); (intro _)))
local macro_rules | `(tactic| walk_at "ret") => `(tactic| ((with_reducible apply bl_retE); rotate_left; assumption; rotate_right; (walk_at "ev")))
local macro_rules | `(tactic| walk_at "absurd") => `(tactic| first | exact absurd (show false = true from (by assumption)) (by decide) | exact absurd (show true = false from (by assumption)) (by decide))
local macro_rules | `(tactic| walk_at "rv") => `(tactic| first | exact rv_isN (s := []) | exact rv_notKD (by assumption) | exact rv_inKD (by assumption) | exact rv_ixKD (by assumption))
local macro_rules | `(tactic| walk_at "isiT") => `(tactic| ((exact Nat.le_of_ble_eq_true rfl); (exact .cons (.ty _) (.cons (.ty _) .nil)); (first | exact fun _ _ => .base (.int _) | exact fun _ _ => .base (.bl _) | exact fun _ _ => .base (.str _) | exact fun _ _ => .base .non); (exact kitAny_no (by decide +kernel) (by decide +kernel))))
local macro_rules | `(tactic| walk_at "rc") => `(tactic| first | exact rc_isi_non (b := true) (by decide +kernel) | exact rc_isi_non (b := false) (by decide +kernel))
local macro_rules | `(tactic| walk_at "eu") => `(tactic| first
  | ((with_reducible apply eu_own); (walk_at "ea"); (intro _ _; walk_at "own"))
  | ((with_reducible apply eu_tup); (walk_at "ea"); (exact Nat.le_of_ble_eq_true rfl)))
local macro_rules | `(tactic| walk_at "ev") => `(tactic| ((with_reducible apply ev_own1U); (walk_at "eu"); (walk_at "ea"); (intro _ _ _ _; walk_at "own1")))
local macro_rules | `(tactic| walk_at "isr") => `(tactic| first | with_reducible exact isr_r | with_reducible exact isr_i | ((with_reducible apply isr_if) <;> (walk_at "isr")))
local macro_rules | `(tactic| walk_at "osm") => `(tactic| first | with_reducible assumption | with_reducible exact osm_add | with_reducible exact osm_sub | with_reducible exact osm_mul | with_reducible exact osm_dvo | with_reducible exact osm_neg | with_reducible exact osm_rem | with_reducible exact osm_do | with_reducible exact osm_div | with_reducible exact osm_fit | ((with_reducible apply osm); assumption) | ((with_reducible apply osm); exact (show (0 : Int).natAbs < 2 ^ 70 by decide)) | ((with_reducible apply osm); exact (show (2 : Int).natAbs < 2 ^ 70 by decide)) | ((with_reducible apply osm_if) <;> (walk_at "osm")))
local macro_rules | `(tactic| walk_at "ev") => `(tactic| first
  | ((with_reducible apply ev_inLst); (walk_at "ev"); (walk_at "ea"); (exact Nat.le_of_ble_eq_true rfl); (exact rfl); (first | exact rfl | simp [flatV])))
local macro_rules | `(tactic| walk_at "rv") => `(tactic| first | exact rv_eq scal_rv | exact rv_ne scal_rv | exact rv_eq (scal_rv (y := some _)) | exact rv_ne (scal_rv (y := some _)) | exact rv_eq (scal_rv (y := none)) | exact rv_ne (scal_rv (y := none)))
local macro_rules | `(tactic| walk_at "nz") => `(tactic| first | with_reducible assumption | ((with_reducible apply nz_i); (first | assumption | decide)))
local macro_rules | `(tactic| walk_at "ev") => `(tactic| ((with_reducible apply ev_inU); (walk_at "ev"); (walk_at "eu"); (exact rfl); (exact rfl)))
local macro_rules | `(tactic| walk_at "eu") => `(tactic| ((with_reducible apply WB.eu_ifB); (walk_at "et"); (walk_at "eu"); (walk_at "eu")))
section
variable {P : Program} {w : World} {K : PySem.W.Frag} {mg : Str → Option Value} {base : Heap}
def R__law_low (K : PySem.W.Frag) : List V → Hp → V → Prop := fun vs H v => ∃ (p : Addr) (f : Fmt), vs = [.ref p] ∧ (SqT K H p (fV f)) ∧ v = .int (lo f)
theorem r__law_low {K : PySem.W.Frag} {H : Hp} {p : Addr} {f : Fmt} (h0 : SqT K H p (fV f)) : R__law_low K [.ref p] H (.int (lo f)) := ⟨_, _, rfl, h0, rfl⟩
def R__law_high (K : PySem.W.Frag) : List V → Hp → V → Prop := fun vs H v => ∃ (p : Addr) (f : Fmt), vs = [.ref p] ∧ (SqT K H p (fV f)) ∧ v = .int (hi f)
theorem r__law_high {K : PySem.W.Frag} {H : Hp} {p : Addr} {f : Fmt} (h0 : SqT K H p (fV f)) : R__law_high K [.ref p] H (.int (hi f)) := ⟨_, _, rfl, h0, rfl⟩
def R__law_fit (K : PySem.W.Frag) : List V → Hp → V → Prop := fun vs H v => ∃ (p : Addr) (f : Fmt) (e : Int), vs = [.ref p, .int e] ∧ (SqT K H p (fV f)) ∧ (Bg e) ∧ v = rv (fitR f e)
theorem r__law_fit {K : PySem.W.Frag} {H : Hp} {p : Addr} {f : Fmt} {e : Int} (h0 : SqT K H p (fV f)) (h1 : Bg e) : R__law_fit K [.ref p, .int e] H (rv (fitR f e)) := ⟨_, _, _, rfl, h0, h1, rfl⟩
def R__law_do (K : PySem.W.Frag) : List V → Hp → V → Prop := fun vs H v => ∃ (p : Addr) (f : Fmt) (d : De) (x : Option Int) (y : Option Int), vs = [.ref p, .str (deS d), rv x, rv y] ∧ (SqT K H p (fV f)) ∧ (OSm x) ∧ (OSm y) ∧ v = rv (doR f d x y)
theorem r__law_do {K : PySem.W.Frag} {H : Hp} {p : Addr} {f : Fmt} {d : De} {x : Option Int} {y : Option Int} (h0 : SqT K H p (fV f)) (h1 : OSm x) (h2 : OSm y) : R__law_do K [.ref p, .str (deS d), rv x, rv y] H (rv (doR f d x y)) := ⟨_, _, _, _, _, rfl, h0, h1, h2, rfl⟩
theorem r__law_do_add {K : PySem.W.Frag} {H : Hp} {p : Addr} {f : Fmt} {a b : Int} (h : SqT K H p (fV f)) (ha : Sm a) (hb : Sm b) : R__law_do K [.ref p, .str "add", .int a, .int b] H (rv (fitR f (a + b))) := ⟨p, f, .add, some a, some b, rfl, h, osm ha, osm hb, rfl⟩
theorem r__law_do_addR {K : PySem.W.Frag} {H : Hp} {p : Addr} {f : Fmt} {x y : Option Int} (h : SqT K H p (fV f)) (ha : OSm x) (hb : OSm y) : R__law_do K [.ref p, .str "add", rv x, rv y] H (rv (doR f .add x y)) := ⟨p, f, .add, x, y, rfl, h, ha, hb, rfl⟩
theorem r__law_do_sub {K : PySem.W.Frag} {H : Hp} {p : Addr} {f : Fmt} {a b : Int} (h : SqT K H p (fV f)) (ha : Sm a) (hb : Sm b) : R__law_do K [.ref p, .str "subtract", .int a, .int b] H (rv (fitR f (a - b))) := ⟨p, f, .sub, some a, some b, rfl, h, osm ha, osm hb, rfl⟩
theorem r__law_do_subR {K : PySem.W.Frag} {H : Hp} {p : Addr} {f : Fmt} {x y : Option Int} (h : SqT K H p (fV f)) (ha : OSm x) (hb : OSm y) : R__law_do K [.ref p, .str "subtract", rv x, rv y] H (rv (doR f .sub x y)) := ⟨p, f, .sub, x, y, rfl, h, ha, hb, rfl⟩
theorem r__law_do_mul {K : PySem.W.Frag} {H : Hp} {p : Addr} {f : Fmt} {a b : Int} (h : SqT K H p (fV f)) (ha : Sm a) (hb : Sm b) : R__law_do K [.ref p, .str "multiply", .int a, .int b] H (rv (fitR f (a * b))) := ⟨p, f, .mul, some a, some b, rfl, h, osm ha, osm hb, rfl⟩
theorem r__law_do_mulR {K : PySem.W.Frag} {H : Hp} {p : Addr} {f : Fmt} {x y : Option Int} (h : SqT K H p (fV f)) (ha : OSm x) (hb : OSm y) : R__law_do K [.ref p, .str "multiply", rv x, rv y] H (rv (doR f .mul x y)) := ⟨p, f, .mul, x, y, rfl, h, ha, hb, rfl⟩
theorem r__law_do_sub0 {K : PySem.W.Frag} {H : Hp} {p : Addr} {f : Fmt} {y : Option Int} (h : SqT K H p (fV f)) (hb : OSm y) : R__law_do K [.ref p, .str "subtract", .int 0, rv y] H (rv (doR f .sub (some 0) y)) := ⟨p, f, .sub, some 0, y, rfl, h, osm (show (0 : Int).natAbs < 2 ^ 70 by decide), hb, rfl⟩
def R__law_size (K : PySem.W.Frag) : List V → Hp → V → Prop := fun vs H v => ∃ (a : Int) (b : Int), vs = [.int a, .int b] ∧ (b ≠ 0) ∧ (Sm a) ∧ (Sm b) ∧ v = .int ((a.natAbs : Int).fdiv b.natAbs)
theorem r__law_size {K : PySem.W.Frag} {H : Hp} {a : Int} {b : Int} (h0 : b ≠ 0) (h1 : Sm a) (h2 : Sm b) : R__law_size K [.int a, .int b] H (.int ((a.natAbs : Int).fdiv b.natAbs)) := ⟨_, _, rfl, h0, h1, h2, rfl⟩
def R__law_quotient (K : PySem.W.Frag) : List V → Hp → V → Prop := fun vs H v => ∃ (d : Dv) (a : Int) (b : Int), vs = [.str (dvS d), .int a, .int b] ∧ (b ≠ 0) ∧ (Sm a) ∧ (Sm b) ∧ v = .int (quo d a b)
theorem r__law_quotient {K : PySem.W.Frag} {H : Hp} {d : Dv} {a : Int} {b : Int} (h0 : b ≠ 0) (h1 : Sm a) (h2 : Sm b) : R__law_quotient K [.str (dvS d), .int a, .int b] H (.int (quo d a b)) := ⟨_, _, _, rfl, h0, h1, h2, rfl⟩
def R__law_divide (K : PySem.W.Frag) : List V → Hp → V → Prop := fun vs H v => ∃ (p : Addr) (f : Fmt) (x : Option Int) (y : Option Int), vs = [.ref p, rv x, rv y] ∧ (SqT K H p (fV f)) ∧ (OSm x) ∧ (OSm y) ∧ (NZ y) ∧ v = rv (divR f x y)
theorem r__law_divide {K : PySem.W.Frag} {H : Hp} {p : Addr} {f : Fmt} {x : Option Int} {y : Option Int} (h0 : SqT K H p (fV f)) (h1 : OSm x) (h2 : OSm y) (h3 : NZ y) : R__law_divide K [.ref p, rv x, rv y] H (rv (divR f x y)) := ⟨_, _, _, _, rfl, h0, h1, h2, h3, rfl⟩
def R__law_rest (K : PySem.W.Frag) : List V → Hp → V → Prop := fun vs H v => ∃ (p : Addr) (f : Fmt) (a : Int) (b : Int), vs = [.ref p, .int a, .int b] ∧ (SqT K H p (fV f)) ∧ (Sm a) ∧ (Sm b) ∧ (b ≠ 0) ∧ v = rv (fitR f (a - b * quo f.dv a b))
theorem r__law_rest {K : PySem.W.Frag} {H : Hp} {p : Addr} {f : Fmt} {a : Int} {b : Int} (h0 : SqT K H p (fV f)) (h1 : Sm a) (h2 : Sm b) (h3 : b ≠ 0) : R__law_rest K [.ref p, .int a, .int b] H (rv (fitR f (a - b * quo f.dv a b))) := ⟨_, _, _, _, rfl, h0, h1, h2, h3, rfl⟩
def R__law_minus (K : PySem.W.Frag) : List V → Hp → V → Prop := fun vs H v => ∃ (p : Addr) (f : Fmt) (x : Option Int), vs = [.ref p, rv x] ∧ (SqT K H p (fV f)) ∧ (OSm x) ∧ v = rv (doR f .sub (some 0) x)
theorem r__law_minus {K : PySem.W.Frag} {H : Hp} {p : Addr} {f : Fmt} {x : Option Int} (h0 : SqT K H p (fV f)) (h1 : OSm x) : R__law_minus K [.ref p, rv x] H (rv (doR f .sub (some 0) x)) := ⟨_, _, _, rfl, h0, h1, rfl⟩
local macro_rules | `(tactic| walk_at "own") => `(tactic| first
  | exact r__law_low (ex_t (by assumption) (by assumption))
  | exact r__law_high (ex_t (by assumption) (by assumption))
  | exact r__law_fit (ex_t (by assumption) (by assumption)) (by assumption)
  | exact r__law_do (ex_t (by assumption) (by assumption)) (by assumption) (by assumption)
  | exact r__law_do_add (ex_t (by assumption) (by assumption)) (by assumption) (by assumption)
  | exact r__law_do_addR (ex_t (by assumption) (by assumption)) (by assumption) (by assumption)
  | exact r__law_do_sub (ex_t (by assumption) (by assumption)) (by assumption) (by assumption)
  | exact r__law_do_subR (ex_t (by assumption) (by assumption)) (by assumption) (by assumption)
  | exact r__law_do_mul (ex_t (by assumption) (by assumption)) (by assumption) (by assumption)
  | exact r__law_do_mulR (ex_t (by assumption) (by assumption)) (by assumption) (by assumption)
  | exact r__law_do_sub0 (ex_t (by assumption) (by assumption)) (by assumption)
  | exact r__law_size (by assumption) (by assumption) (by assumption)
  | exact r__law_quotient (by assumption) (by assumption) (by assumption)
  | exact r__law_divide (ex_t (by assumption) (by assumption)) (by assumption) (by assumption) (by assumption)
  | exact r__law_rest (ex_t (by assumption) (by assumption)) (by assumption) (by assumption) (by assumption)
  | exact r__law_minus (ex_t (by assumption) (by assumption)) (by assumption))
abbrev s__law_high : Stmt := top 162
abbrev N__law_high : List Str := ["form"]
theorem sc__law_high : FnScope N__law_high ["form"] (defScope s__law_high) := ⟨rfl, rfl, rfl, by decide +kernel, rfl, by decide +kernel, by decide +kernel⟩
theorem ok__law_high (T : Txt w K mg) (D0 : DefAt K mg "_law_high" s__law_high)   : Cal P w K mg base CX0 1 "_law_high" ["form"] (Pu (R__law_high K)) := by
  refine D0.cal sc__law_high (fun vs H Q E h => by obtain ⟨v, ⟨_, _, rfl, _⟩, _⟩ := h; rfl) (fun _ _ _ _ _ _ us hl => match us, hl with | [_], _ => rfl) (fun f cdv A outer s H vs Q E hr h => ?_)
  obtain ⟨v, ⟨p, ⟨w0, sg, ov, dv, h4, h64⟩, rfl, hf, rfl⟩, k⟩ := h
  have hu := hu_of hr
  refine ⟨_, (pss_one (ps_ret (pe_op op_sub (pe_op op_shl pe_int (pe_op op_sub (pe_ix ix_tup (pv 0) pe_int (fun _ _ => rfl)) (pe_callTy call_int1 (by rfl) T.n_int (by decide +kernel) (pa_cons (pe_cmpR op_ne (pe_ix ix_tup (pv 0) pe_int (fun _ _ => rfl)) pe_str (nomark _)) pa_nil)))) pe_int))), bl_go ?_⟩
  walk_at "ret"
  cases sg <;> exact congrArg (fun z : Int => V.int (z - 1)) (by first | exact shl_wi (i := 0) (by omega) | exact shl_wi (i := 1) (by omega))
abbrev s__law_low : Stmt := top 161
abbrev N__law_low : List Str := ["form"]
theorem sc__law_low : FnScope N__law_low ["form"] (defScope s__law_low) := ⟨rfl, rfl, rfl, by decide +kernel, rfl, by decide +kernel, by decide +kernel⟩
theorem ok__law_low (T : Txt w K mg) (D0 : DefAt K mg "_law_low" s__law_low)   : Cal P w K mg base CX0 1 "_law_low" ["form"] (Pu (R__law_low K)) := by
  refine D0.cal sc__law_low (fun vs H Q E h => by obtain ⟨v, ⟨_, _, rfl, _⟩, _⟩ := h; rfl) (fun _ _ _ _ _ _ us hl => match us, hl with | [_], _ => rfl) (fun f cdv A outer s H vs Q E hr h => ?_)
  obtain ⟨v, ⟨p, ⟨w0, sg, ov, dv, h4, h64⟩, rfl, hf, rfl⟩, k⟩ := h
  have hu := hu_of hr
  refine ⟨_, (pss_one (ps_ret (pe_dget hu (pe_disp (pps_cons pe_str (pe_op op_sub pe_int (pe_op op_shl pe_int (pe_op op_sub (pe_ix ix_tup (pv 0) pe_int (fun _ _ => rfl)) pe_int))) (pps_cons pe_str (pe_op op_sub pe_int (pe_op op_shl pe_int (pe_op op_sub (pe_ix ix_tup (pv 0) pe_int (fun _ _ => rfl)) pe_int))) (pps_cons pe_str pe_int pps_nil))) (by rfl) (by rfl) (fun z => by cases z) (by decide)) (pe_ix ix_tup (pv 0) pe_int (fun _ _ => rfl)) (fun _ _ => rfl)))), bl_go ?_⟩
  cases sg <;> (walk_at "ret") <;> (simp only [shl_w1, WM.lo]) <;> (try (congr 1; omega))
abbrev s__law_size : Stmt := top 165
abbrev N__law_size : List Str := ["a", "b"]
theorem sc__law_size : FnScope N__law_size ["a", "b"] (defScope s__law_size) := ⟨rfl, rfl, rfl, by decide +kernel, rfl, by decide +kernel, by decide +kernel⟩
theorem ok__law_size (T : Txt w K mg) (D0 : DefAt K mg "_law_size" s__law_size)   : Cal P w K mg base CX0 1 "_law_size" ["a", "b"] (Pu (R__law_size K)) := by
  refine D0.cal sc__law_size (fun vs H Q E h => by obtain ⟨v, ⟨_, _, rfl, _⟩, _⟩ := h; rfl) (fun _ _ _ _ _ _ us hl => match us, hl with | [_, _], _ => rfl) (fun f cdv A outer s H vs Q E hr h => ?_)
  obtain ⟨v, ⟨a, b, rfl, h1, h2, h3, rfl⟩, k⟩ := h
  have hu := hu_of hr
  refine ⟨_, (pss_one (ps_ret (pe_op op_fdivB (pe_callTy call_int1 (by rfl) T.n_int (by decide +kernel) (pa_cons (pe_callB call_abs (by rfl) T.n_abs (by decide +kernel) (pa_cons (pv 0) pa_nil)) pa_nil)) (pe_callTy call_int1 (by rfl) T.n_int (by decide +kernel) (pa_cons (pe_callB call_abs (by rfl) T.n_abs (by decide +kernel) (pa_cons (pv 1) pa_nil)) pa_nil))))), bl_go ?_⟩
  have d1 : CDivB (a.natAbs : Int) (b.natAbs : Int) := sm_div (sm_abs h3) (by omega)
  walk_at "ret"
  rfl
abbrev s__law_fit : Stmt := top 163
abbrev N__law_fit : List Str := ["form", "value", "low", "high", "many", "found", "turns"]
theorem sc__law_fit : FnScope N__law_fit ["form", "value"] (defScope s__law_fit) := ⟨rfl, rfl, rfl, by decide +kernel, rfl, by decide +kernel, by decide +kernel⟩
theorem ok__law_fit (T : Txt w K mg) (D0 : DefAt K mg "_law_fit" s__law_fit) (c__law_high : Cal P w K mg base CX0 1 "_law_high" ["form"] (Pu (R__law_high K))) (c__law_low : Cal P w K mg base CX0 1 "_law_low" ["form"] (Pu (R__law_low K)))  : Cal P w K mg base CX0 2 "_law_fit" ["form", "value"] (Pu (R__law_fit K)) := by
  refine D0.cal sc__law_fit (fun vs H Q E h => by obtain ⟨v, ⟨_, _, _, rfl, _⟩, _⟩ := h; rfl) (fun _ _ _ _ _ _ us hl => match us, hl with | [_, _], _ => rfl) (fun f cdv A outer s H vs Q E hr h => ?_)
  obtain ⟨v, ⟨p, f, e, rfl, hf, he, rfl⟩, k⟩ := h
  have hu := hu_of hr
  refine ⟨_, (pss_cons (ps_par (i := 2) (j := 3) (by rfl) sc__law_fit.nd rfl rfl (by decide) rfl rfl (pa_cons (pe_own c__law_low (hr.mono (by decide)) rfl pass0 (pa_cons (pv 0) pa_nil)) (pa_cons (pe_own c__law_high (hr.mono (by decide)) rfl pass0 (pa_cons (pv 0) pa_nil)) pa_nil)) (by rfl))
      (pss_cons (ps_if (PW.pt (pw_or (pt_cmpR op_eq (pv 1) pe_str (nomark _)) (pw_or1 (pt_chain op_le op_le (pv 2) (pv 1) (pv 3))))) (pss_one (ps_ret (pv 1))) pss_nil)
      (pss_cons (ps_if (pt_cmpR op_eq (pe_ix ix_tup (pv 0) pe_int (fun _ _ => rfl)) pe_str (nomark _)) (pss_one (ps_ret pe_str)) pss_nil)
      (pss_cons (ps_if (pt_cmpR op_eq (pe_ix ix_tup (pv 0) pe_int (fun _ _ => rfl)) pe_str (nomark _)) (pss_one (ps_ret (pe_callB (call_min2 rfl) (by rfl) T.n_min (by decide +kernel) (pa_cons (pe_callB (call_max2 rfl) (by rfl) T.n_max (by decide +kernel) (pa_cons (pv 2) (pa_cons (pv 1) pa_nil))) (pa_cons (pv 3) pa_nil))))) pss_nil)
      (pss_cons (ps_par (i := 4) (j := 5) (by rfl) sc__law_fit.nd rfl rfl (by decide) rfl rfl (pa_cons (pe_op op_add (pe_op op_sub (pv 3) (pv 2)) pe_int) (pa_cons (pv 1) pa_nil)) (by rfl))
      (pss_cons (ps_set (i := 6) sc__law_fit.nd rfl (Or.inl rfl) (pe_op op_add (pe_op op_fdivB (pe_callTy call_int1 (by rfl) T.n_int (by decide +kernel) (pa_cons (pe_callB call_abs (by rfl) T.n_abs (by decide +kernel) (pa_cons (pv 1) pa_nil)) pa_nil)) (pe_callTy call_int1 (by rfl) T.n_int (by decide +kernel) (pa_cons (pv 4) pa_nil))) pe_int))
      (pss_cons (ps_set (i := 5) sc__law_fit.nd rfl (Or.inl rfl) (pe_ifExp (pt_cmpR op_lt (pv 1) (pv 2) (nomark _)) (pe_op op_add (pv 5) (pe_op op_mulW (pv 4) (pv 6))) (pe_op op_sub (pv 5) (pe_op op_mulW (pv 4) (pv 6)))))
      (pss_cons (ps_while PassesOwn.never (PW.pt (pw_or (pt_cmpR op_lt (pv 5) (pv 2) (nomark _)) (pw_or1 (pt_cmpR op_gt (pv 5) (pv 3) (nomark _))))) (pss_one (ps_set (i := 5) sc__law_fit.nd rfl (Or.inl rfl) (pe_ifExp (pt_cmpR op_lt (pv 5) (pv 2) (nomark _)) (pe_op op_add (pv 5) (pv 4)) (pe_op op_sub (pv 5) (pv 4))))))
      (pss_one (ps_ret (pv 5))))))))))), bl_go ?_⟩
  have mn : many f ≠ 0 := manyNe
  have F := facts f
  have d1 : CDivB (e.natAbs : Int) (hi f - lo f + 1) := sm_div (sm_many (f := f)) manyNe
  have m1 : CMulW (hi f - lo f + 1) ((e.natAbs : Int).fdiv (hi f - lo f + 1) + 1) := mulW_of (nat_mono (sm_many (f := f)) (by decide)) (by
    have z := natAbs_fdiv (e.natAbs : Int) (hi f - lo f + 1)
    unfold Bg at he
    omega)
  walk_at "par"
  walk_at "if"
  · intro h
    walk_at "ret"
    exact fit_yes h
  intro h
  have nf : ¬ fits f e := not_fits h
  obtain ⟨w, sg, ov, dv, h4, h64⟩ := f
  cases ov
  · walk_at "no"
    walk_at "yes"
    walk_at "ret"
    exact fit_minmax nf rfl
  · walk_at "yes"
    walk_at "ret"
    exact fit_trap nf rfl
  · walk_at "no"
    walk_at "no"
    generalize hf0 : (⟨w, sg, .wrap, dv, h4, h64⟩ : Fmt) = f at *
    have ho : f.ov = .wrap := by rw [← hf0]
    walk_at "par"
    walk_at "set"
    walk_at "set"
    obtain ⟨x0, k0, hx0, hv⟩ : ∃ x0 k0 : Int, x0 = e + many f * k0 ∧ (if decide (e < lo f) = true then V.int (e + (hi f - lo f + 1) * ((e.natAbs : Int).fdiv (hi f - lo f + 1) + 1)) else V.int (e - (hi f - lo f + 1) * ((e.natAbs : Int).fdiv (hi f - lo f + 1) + 1))) = V.int x0 := by
      by_cases hc : decide (e < lo f) = true
      · rw [if_pos hc]
        exact ⟨_, _, rfl, rfl⟩
      · rw [if_neg hc]
        refine ⟨_, -((e.natAbs : Int).fdiv (hi f - lo f + 1) + 1), rfl, ?_⟩
        rw [Int.mul_neg, Int.sub_eq_add_neg]
        rfl
    rw [hv]
    intro H1 e1
    apply q_while (fun m s' H' => ∃ x k1, s' = [some (V.ref p), some (V.int e), some (V.int (lo f)), some (V.int (hi f)), some (V.int (hi f - lo f + 1)), some (V.int x), some (V.int ((e.natAbs : Int).fdiv (hi f - lo f + 1) + 1))] ∧ Ex H H' ∧ x = e + many f * k1 ∧ m = dist f x) (dist f x0)
    · exact ⟨x0, k0, rfl, e1, hx0, rfl⟩
    · rintro m s' H' ⟨x, k1, rfl, e2, hx, rfl⟩
      apply Exists.intro
      apply And.intro
      · walk_at "et"
      apply And.intro
      · intro hb H2 e3
        refine ⟨fun s2 H4 => ∃ m', m' < dist f x ∧ ∃ y k2, s2 = [some (V.ref p), some (V.int e), some (V.int (lo f)), some (V.int (hi f)), some (V.int (hi f - lo f + 1)), some (V.int y), some (V.int ((e.natAbs : Int).fdiv (hi f - lo f + 1) + 1))] ∧ Ex H H4 ∧ y = e + many f * k2 ∧ m' = dist f y, fun _ _ z => z, ?_⟩
        (with_reducible apply s_asg)
        · walk_at "ev"
        intro H4 e4
        by_cases hlt : x < lo f
        · rw [if_pos (decide_eq_true hlt)]
          exact ⟨_, dist_up hlt, x + many f, k1 + 1, rfl, (e2.trans e3).trans e4, by rw [hx, Int.mul_add]; omega, rfl⟩
        · rw [if_neg (by simpa using hlt)]
          have hgt : x > hi f := by
            simp only [Bool.or_eq_true, decide_eq_true_eq] at hb
            omega
          exact ⟨_, dist_down hlt hgt, x - many f, k1 - 1, rfl, (e2.trans e3).trans e4, by rw [hx, Int.mul_sub]; omega, rfl⟩
      · intro hb H2 e3
        simp only [Bool.or_eq_false_iff, decide_eq_false_iff_not] at hb
        refine bl_go (bl_retE (v := V.int x) (w' := rv (fitR f e)) (ev_var rfl) (fun H3 e5 => k H3 ((e2.trans e3).trans e5)) (fit_found nf ho hx (by omega) (by omega)))
abbrev s__law_do : Stmt := top 164
abbrev N__law_do : List Str := ["form", "deed", "a", "b"]
theorem sc__law_do : FnScope N__law_do ["form", "deed", "a", "b"] (defScope s__law_do) := ⟨rfl, rfl, rfl, by decide +kernel, rfl, by decide +kernel, by decide +kernel⟩
theorem ok__law_do (T : Txt w K mg) (D0 : DefAt K mg "_law_do" s__law_do) (c__law_fit : Cal P w K mg base CX0 2 "_law_fit" ["form", "value"] (Pu (R__law_fit K)))  : Cal P w K mg base CX0 3 "_law_do" ["form", "deed", "a", "b"] (Pu (R__law_do K)) := by
  refine D0.cal sc__law_do (fun vs H Q E h => by obtain ⟨v, ⟨_, _, _, _, _, rfl, _⟩, _⟩ := h; rfl) (fun _ _ _ _ _ _ us hl => match us, hl with | [_, _, _, _], _ => rfl) (fun f cdv A outer s H vs Q E hr h => ?_)
  obtain ⟨v, ⟨p, f, d, x, y, rfl, hf, hx, hy, rfl⟩, k⟩ := h
  have hu := hu_of hr
  refine ⟨_, (pss_cons (ps_if (PW.pt (pw_or (pt_cmpR op_eq (pv 2) pe_str (nomark _)) (pw_or1 (pt_cmpR op_eq (pv 3) pe_str (nomark _))))) (pss_one (ps_ret pe_str)) pss_nil)
      (pss_cons (ps_if (pt_cmpR op_eq (pv 1) pe_str (nomark _)) (pss_one (ps_ret (pe_own c__law_fit (hr.mono (by decide)) rfl pass0 (pa_cons (pv 0) (pa_cons (pe_op op_add (pv 2) (pv 3)) pa_nil))))) pss_nil)
      (pss_one (ps_ret (pe_own c__law_fit (hr.mono (by decide)) rfl pass0 (pa_cons (pv 0) (pa_cons (pe_ifExp (pt_cmpR op_eq (pv 1) pe_str (nomark _)) (pe_op op_sub (pv 2) (pv 3)) (pe_op op_mulW (pv 2) (pv 3))) pa_nil))))))), bl_go ?_⟩
  cases x with
  | none =>
    cases y <;> (walk_at "yes") <;> (walk_at "ret") <;> rfl
  | some a =>
    cases y with
    | none =>
      walk_at "yes"
      walk_at "ret"
      rfl
    | some b =>
      have sa : Sm a := hx a rfl
      have sb : Sm b := hy b rfl
      have b1 := bg_add sa sb
      have b2 := bg_sub sa sb
      have b3 := bg_prod sa sb
      have m1 := sm_mul sa sb
      walk_at "no"
      cases d
      · walk_at "yes"
        walk_at "ret"
        rfl
      · walk_at "no"
        walk_at "ret"
        rfl
      · walk_at "no"
        walk_at "ret"
        rfl
abbrev s__law_quotient : Stmt := top 166
abbrev N__law_quotient : List Str := ["division", "a", "b", "size", "left", "negative", "up"]
theorem sc__law_quotient : FnScope N__law_quotient ["division", "a", "b"] (defScope s__law_quotient) := ⟨rfl, rfl, rfl, by decide +kernel, rfl, by decide +kernel, by decide +kernel⟩
theorem ok__law_quotient (T : Txt w K mg) (D0 : DefAt K mg "_law_quotient" s__law_quotient) (c__law_size : Cal P w K mg base CX0 1 "_law_size" ["a", "b"] (Pu (R__law_size K)))  : Cal P w K mg base CX0 2 "_law_quotient" ["division", "a", "b"] (Pu (R__law_quotient K)) := by
  refine D0.cal sc__law_quotient (fun vs H Q E h => by obtain ⟨v, ⟨_, _, _, rfl, _⟩, _⟩ := h; rfl) (fun _ _ _ _ _ _ us hl => match us, hl with | [_, _, _], _ => rfl) (fun f cdv A outer s H vs Q E hr h => ?_)
  obtain ⟨v, ⟨d, a, b, rfl, h1, h2, h3, rfl⟩, k⟩ := h
  have hu := hu_of hr
  refine ⟨_, (pss_cons (ps_set (i := 3) sc__law_quotient.nd rfl (Or.inl rfl) (pe_own c__law_size (hr.mono (by decide)) rfl pass0 (pa_cons (pv 1) (pa_cons (pv 2) pa_nil))))
      (pss_cons (ps_set (i := 4) sc__law_quotient.nd rfl (Or.inl rfl) (pe_op op_sub (pe_callB call_abs (by rfl) T.n_abs (by decide +kernel) (pa_cons (pv 1) pa_nil)) (pe_op op_mulW (pv 3) (pe_callB call_abs (by rfl) T.n_abs (by decide +kernel) (pa_cons (pv 2) pa_nil)))))
      (pss_cons (ps_set (i := 5) sc__law_quotient.nd rfl (Or.inl rfl) (pe_cmpR op_ne (pe_cmpR op_lt (pv 1) pe_int (nomark _)) (pe_cmpR op_lt (pv 2) pe_int (nomark _)) (nomark _)))
      (pss_cons (ps_if (pt_cmpR op_eq (pv 4) pe_int (nomark _)) (pss_one (ps_ret (pe_ifExp (pt_val (pv 5)) (pe_op op_sub pe_int (pv 3)) (pv 3)))) pss_nil)
      (pss_cons (ps_set (i := 6) sc__law_quotient.nd rfl (Or.inl rfl) (pe_dget hu (pe_disp (pps_cons pe_str pe_bl (pps_cons pe_str (pv 5) (pps_cons pe_str (pe_not (pv 5)) (pps_cons pe_str (pe_cmpR op_lt (pv 1) pe_int (nomark _)) (pps_cons pe_str (pe_or (pe_cmpR op_gt (pe_op op_mulW pe_int (pv 4)) (pe_callB call_abs (by rfl) T.n_abs (by decide +kernel) (pa_cons (pv 2) pa_nil)) (nomark _)) (pe_one (pe_and (pe_cmpR op_eq (pe_op op_mulW pe_int (pv 4)) (pe_callB call_abs (by rfl) T.n_abs (by decide +kernel) (pa_cons (pv 2) pa_nil)) (nomark _)) (pe_one (pe_cmpR op_eq (pe_op op_modN (pv 3) pe_int) pe_int (nomark _)))))) pps_nil))))) (by rfl) (by rfl) (fun z => by cases z) (by decide)) (pv 0) (fun _ _ => rfl)))
      (pss_cons (ps_set (i := 3) sc__law_quotient.nd rfl (Or.inl rfl) (pe_ifExp (pt_val (pv 6)) (pe_op op_add (pv 3) pe_int) (pv 3)))
      (pss_one (ps_ret (pe_ifExp (pt_val (pv 5)) (pe_op op_sub pe_int (pv 3)) (pv 3)))))))))), bl_go ?_⟩
  have s1 : Sm ((a.natAbs : Int).fdiv b.natAbs) := sm_fdiv (sm_abs h2)
  have m1 : CMulW ((a.natAbs : Int).fdiv b.natAbs) (b.natAbs : Int) := sm_mul s1 (sm_abs h3)
  have m2 : CMulW 2 ((a.natAbs : Int) - (a.natAbs : Int).fdiv b.natAbs * b.natAbs) := bg_mul (show (2 : Int).natAbs < 2 ^ 250 by decide) (bg_left (sm_abs h2) s1 (nat_mono (sm_abs h3) (by decide)))
  walk_at "set"
  walk_at "set"
  walk_at "set"
  walk_at "if"
  · intro h
    walk_at "ret"
    exact v_quo0 h1 h
  · intro h
    cases d <;> (walk_at "set") <;> (walk_at "set") <;> (try rw [ite_int]) <;> (walk_at "ret")
    · refine v_quo1 h1 h ?_
      simp only [qup, dec_bl]; rfl
    · exact v_quo1 h1 h rfl
    · refine v_quo1 h1 h ?_
      simp only [qup, dec_int]; rfl
    · refine v_quo1 h1 h ?_
      simp only [qup, dec_bl]; rfl
    · exact v_quo1 (up := false) h1 h rfl
abbrev s__law_divide : Stmt := top 167
abbrev N__law_divide : List Str := ["form", "a", "b"]
theorem sc__law_divide : FnScope N__law_divide ["form", "a", "b"] (defScope s__law_divide) := ⟨rfl, rfl, rfl, by decide +kernel, rfl, by decide +kernel, by decide +kernel⟩
theorem ok__law_divide (T : Txt w K mg) (D0 : DefAt K mg "_law_divide" s__law_divide) (c__law_fit : Cal P w K mg base CX0 2 "_law_fit" ["form", "value"] (Pu (R__law_fit K))) (c__law_quotient : Cal P w K mg base CX0 2 "_law_quotient" ["division", "a", "b"] (Pu (R__law_quotient K)))  : Cal P w K mg base CX0 3 "_law_divide" ["form", "a", "b"] (Pu (R__law_divide K)) := by
  refine D0.cal sc__law_divide (fun vs H Q E h => by obtain ⟨v, ⟨_, _, _, _, rfl, _⟩, _⟩ := h; rfl) (fun _ _ _ _ _ _ us hl => match us, hl with | [_, _, _], _ => rfl) (fun f cdv A outer s H vs Q E hr h => ?_)
  obtain ⟨v, ⟨p, f, x, y, rfl, hf, hx, hy, hz, rfl⟩, k⟩ := h
  have hu := hu_of hr
  refine ⟨_, (pss_one (ps_ret (pe_ifExp (PW.pt (pw_or (pt_cmpR op_eq (pv 1) pe_str (nomark _)) (pw_or1 (pt_cmpR op_eq (pv 2) pe_str (nomark _))))) pe_str (pe_own c__law_fit (hr.mono (by decide)) rfl pass0 (pa_cons (pv 0) (pa_cons (pe_own c__law_quotient (hr.mono (by decide)) rfl pass0 (pa_cons (pe_ix ix_tup (pv 0) pe_int (fun _ _ => rfl)) (pa_cons (pv 1) (pa_cons (pv 2) pa_nil)))) pa_nil)))))), bl_go ?_⟩
  cases x with
  | none =>
    cases y <;> (walk_at "ret") <;> rfl
  | some a =>
    cases y with
    | none =>
      walk_at "ret"
      rfl
    | some b =>
      have sa : Sm a := hx a rfl
      have sb : Sm b := hy b rfl
      have b0 : b ≠ 0 := fun z => hz (by rw [z])
      have bq : Bg (quo f.dv a b) := bg_quo sa
      walk_at "ret"
      rfl
abbrev s__law_rest : Stmt := top 168
abbrev N__law_rest : List Str := ["form", "a", "b"]
theorem sc__law_rest : FnScope N__law_rest ["form", "a", "b"] (defScope s__law_rest) := ⟨rfl, rfl, rfl, by decide +kernel, rfl, by decide +kernel, by decide +kernel⟩
theorem ok__law_rest (T : Txt w K mg) (D0 : DefAt K mg "_law_rest" s__law_rest) (c__law_fit : Cal P w K mg base CX0 2 "_law_fit" ["form", "value"] (Pu (R__law_fit K))) (c__law_quotient : Cal P w K mg base CX0 2 "_law_quotient" ["division", "a", "b"] (Pu (R__law_quotient K)))  : Cal P w K mg base CX0 3 "_law_rest" ["form", "a", "b"] (Pu (R__law_rest K)) := by
  refine D0.cal sc__law_rest (fun vs H Q E h => by obtain ⟨v, ⟨_, _, _, _, rfl, _⟩, _⟩ := h; rfl) (fun _ _ _ _ _ _ us hl => match us, hl with | [_, _, _], _ => rfl) (fun f cdv A outer s H vs Q E hr h => ?_)
  obtain ⟨v, ⟨p, f, a, b, rfl, hf, h2, h3, h4, rfl⟩, k⟩ := h
  have hu := hu_of hr
  refine ⟨_, (pss_one (ps_ret (pe_own c__law_fit (hr.mono (by decide)) rfl pass0 (pa_cons (pv 0) (pa_cons (pe_op op_sub (pv 1) (pe_op op_mulW (pv 2) (pe_own c__law_quotient (hr.mono (by decide)) rfl pass0 (pa_cons (pe_ix ix_tup (pv 0) pe_int (fun _ _ => rfl)) (pa_cons (pv 1) (pa_cons (pv 2) pa_nil)))))) pa_nil))))), bl_go ?_⟩
  have bq : Bg (a - b * quo f.dv a b) := bg_left h2 h3 (quo72 h2)
  have m1 : CMulW b (quo f.dv a b) := bg_mul h3.bg (bg_quo h2)
  walk_at "ret"
  rfl
abbrev s__law_minus : Stmt := top 169
abbrev N__law_minus : List Str := ["form", "a"]
theorem sc__law_minus : FnScope N__law_minus ["form", "a"] (defScope s__law_minus) := ⟨rfl, rfl, rfl, by decide +kernel, rfl, by decide +kernel, by decide +kernel⟩
theorem ok__law_minus (T : Txt w K mg) (D0 : DefAt K mg "_law_minus" s__law_minus) (c__law_do : Cal P w K mg base CX0 3 "_law_do" ["form", "deed", "a", "b"] (Pu (R__law_do K)))  : Cal P w K mg base CX0 4 "_law_minus" ["form", "a"] (Pu (R__law_minus K)) := by
  refine D0.cal sc__law_minus (fun vs H Q E h => by obtain ⟨v, ⟨_, _, _, rfl, _⟩, _⟩ := h; rfl) (fun _ _ _ _ _ _ us hl => match us, hl with | [_, _], _ => rfl) (fun f cdv A outer s H vs Q E hr h => ?_)
  obtain ⟨v, ⟨p, f, x, rfl, hf, hx, rfl⟩, k⟩ := h
  have hu := hu_of hr
  refine ⟨_, (pss_one (ps_ret (pe_own c__law_do (hr.mono (by decide)) rfl pass0 (pa_cons (pv 0) (pa_cons pe_str (pa_cons pe_int (pa_cons (pv 1) pa_nil))))))), bl_go ?_⟩
  walk_at "ret"
  rfl
end
end K1

set_option maxHeartbeats 4000000
namespace K1
open PySem PySem.Spec PyProof.Rows L2 Evl WM WL WLam WX WT WU StX LamX
local macro_rules | `(tactic| walk_at "ev") => `(tactic| first
  | exact ev_c
  | exact ev_var rfl
  | ((with_reducible apply ev_op); (walk_at "ev"); (walk_at "ev"); (walk_at "rv"))
  | ((with_reducible apply ev_un); (walk_at "ev"); exact ru_neg)
  | ((with_reducible apply ev_notV); (walk_at "ev"))
  | ((with_reducible apply ev_andV); (walk_at "ev"); (intro _; walk_at "ev"))
  | ((with_reducible apply ev_orV); (walk_at "ev"); (intro _; walk_at "ev"))
  | ((with_reducible apply ev_ifT); (walk_at "et"); (exact rfl); (walk_at "ev"))
  | ((with_reducible apply ev_ifF); (walk_at "et"); (exact rfl); (walk_at "ev"))
  | ((with_reducible apply ev_ifB); (walk_at "et"); (intro _; walk_at "ev"); (intro _; walk_at "ev"))
  | ((with_reducible apply ev_chainI); (walk_at "ev"); (walk_at "ev"); (walk_at "ev"))
  | ((with_reducible apply ev_own); (walk_at "ea"); (intro _ _; walk_at "own"))
  | ((with_reducible apply ev_ddS); (walk_at "dp"); (exact Nat.le_of_ble_eq_true rfl); (walk_at "ev"); (exact rfl))
  | ((with_reducible apply ev_isiT); (walk_at "ev"); (walk_at "ea"); (walk_at "isiT"))
  | ((with_reducible apply ev_cb); (walk_at "ea"); (walk_at "rc")))
local macro_rules | `(tactic| walk_at "dp") => `(tactic| first
  | exact Paired.nil
  | ((with_reducible apply dp_cons); (exact ev_c); (walk_at "ev"); (walk_at "dp")))
local macro_rules | `(tactic| walk_at "ea") => `(tactic| first
  | exact ea_nil
  | ((with_reducible apply ea_cons); (walk_at "ev"); (walk_at "ea")))
local macro_rules | `(tactic| walk_at "et") => `(tactic| first
  | ((with_reducible apply et_test); (walk_at "ev"))
  | ((with_reducible apply et_B); (walk_at "ev"))
  | ((with_reducible apply et_not); (walk_at "et"))
  | ((with_reducible apply et_and); (walk_at "et"); (intro _; walk_at "et"))
  | ((with_reducible apply et_or); (walk_at "et"); (intro _; walk_at "et")))
local macro_rules | `(tactic| walk_at "rv") => `(tactic| first
  | exact rv_I0
  | exact rv_eq rfl
  | exact rv_ne rfl
  | exact rv_isT (by assumption) rfl rfl
  | exact rv_niT (by assumption) rfl rfl
  | exact rv_isL (by assumption) rfl rfl
  | exact rv_niL (by assumption) rfl rfl
  | exact rv_ixT (by assumption) rfl
  | exact rv_ixL (by assumption) rfl
  | exact rv_ixL (by assumption) (by assumption)
  | (apply rv_I; (walk_at "side")))
local macro_rules | `(tactic| walk_at "side") => `(tactic| first
  | assumption
  | (refine And.intro ?_ (And.intro ?_ ?_) <;> (try dsimp only) <;> first | omega | decide)
  | (dsimp only; omega)
  | omega)
local macro_rules | `(tactic| walk_at "rc") => `(tactic| first
  | exact rc_abs | exact rc_max2 | exact rc_min2 | exact rc_int | exact rc_intB
  | exact rc_isi_int (b := true) (by decide +kernel)
  | exact rc_isi_int (b := false) (by decide +kernel)
  | exact rc_isi_bl (b := true) (by decide +kernel)
  | exact rc_isi_bl (b := false) (by decide +kernel)
  | exact rc_isi_str (b := true) (by decide +kernel)
  | exact rc_isi_str (b := false) (by decide +kernel)
  | exact rc_isi_T (b := true) (by assumption) (by decide +kernel)
  | exact rc_isi_T (b := false) (by assumption) (by decide +kernel)
  | exact rc_lenT (by assumption)
  | exact rc_lenL (by assumption))
local macro_rules | `(tactic| walk_at "set") => `(tactic| ((with_reducible apply bl_set); (walk_at "ev")))
local macro_rules | `(tactic| walk_at "drop") => `(tactic| ((with_reducible apply bl_drop); (walk_at "ev")))
local macro_rules | `(tactic| walk_at "par") => `(tactic| ((with_reducible apply bl_par); (walk_at "ea")))
local macro_rules | `(tactic| walk_at "if") => `(tactic| ((with_reducible apply bl_when); (walk_at "et")))
local macro_rules | `(tactic| walk_at "no") => `(tactic| ((with_reducible apply bl_when); (walk_at "et"); (intro h; exact absurd (show false = true from h) (by decide)); (intro _)))
local macro_rules | `(tactic| walk_at "yes") => `(tactic| ((with_reducible apply bl_when); (walk_at "et"); rotate_left; (intro h; exact absurd (show true = false from h) (by decide)); (intro _)))
local macro_rules | `(tactic| walk_at "ret") => `(tactic| ((with_reducible apply bl_retE); rotate_left; assumption; rotate_right; (walk_at "ev")))
local macro_rules | `(tactic| walk_at "absurd") => `(tactic| first | exact absurd (show false = true from (by assumption)) (by decide) | exact absurd (show true = false from (by assumption)) (by decide))
local macro_rules | `(tactic| walk_at "rv") => `(tactic| first | exact rv_isN (s := []) | exact rv_notKD (by assumption) | exact rv_inKD (by assumption) | exact rv_ixKD (by assumption))
local macro_rules | `(tactic| walk_at "isiT") => `(tactic| ((exact Nat.le_of_ble_eq_true rfl); (exact .cons (.ty _) (.cons (.ty _) .nil)); (first | exact fun _ _ => .base (.int _) | exact fun _ _ => .base (.bl _) | exact fun _ _ => .base (.str _) | exact fun _ _ => .base .non); (exact kitAny_no (by decide +kernel) (by decide +kernel))))
local macro_rules | `(tactic| walk_at "rc") => `(tactic| first | exact rc_isi_non (b := true) (by decide +kernel) | exact rc_isi_non (b := false) (by decide +kernel))
local macro_rules | `(tactic| walk_at "eu") => `(tactic| first
  | ((with_reducible apply eu_own); (walk_at "ea"); (intro _ _; walk_at "own"))
  | ((with_reducible apply eu_tup); (walk_at "ea"); (exact Nat.le_of_ble_eq_true rfl)))
local macro_rules | `(tactic| walk_at "ev") => `(tactic| ((with_reducible apply ev_own1U); (walk_at "eu"); (walk_at "ea"); (intro _ _ _ _; walk_at "own1")))
local macro_rules | `(tactic| walk_at "isr") => `(tactic| first | with_reducible exact isr_r | with_reducible exact isr_i | ((with_reducible apply isr_if) <;> (walk_at "isr")))
local macro_rules | `(tactic| walk_at "osm") => `(tactic| first | with_reducible assumption | with_reducible exact osm_add | with_reducible exact osm_sub | with_reducible exact osm_mul | with_reducible exact osm_dvo | with_reducible exact osm_neg | with_reducible exact osm_rem | with_reducible exact osm_do | with_reducible exact osm_div | with_reducible exact osm_fit | ((with_reducible apply osm); assumption) | ((with_reducible apply osm); exact (show (0 : Int).natAbs < 2 ^ 70 by decide)) | ((with_reducible apply osm); exact (show (2 : Int).natAbs < 2 ^ 70 by decide)) | ((with_reducible apply osm_if) <;> (walk_at "osm")))
local macro_rules | `(tactic| walk_at "ev") => `(tactic| first
  | ((with_reducible apply ev_inLst); (walk_at "ev"); (walk_at "ea"); (exact Nat.le_of_ble_eq_true rfl); (exact rfl); (first | exact rfl | simp [flatV])))
local macro_rules | `(tactic| walk_at "rv") => `(tactic| first | exact rv_eq scal_rv | exact rv_ne scal_rv | exact rv_eq (scal_rv (y := some _)) | exact rv_ne (scal_rv (y := some _)) | exact rv_eq (scal_rv (y := none)) | exact rv_ne (scal_rv (y := none)))
local macro_rules | `(tactic| walk_at "nz") => `(tactic| first | with_reducible assumption | ((with_reducible apply nz_i); (first | assumption | decide)))
local macro_rules | `(tactic| walk_at "ev") => `(tactic| ((with_reducible apply ev_inU); (walk_at "ev"); (walk_at "eu"); (exact rfl); (exact rfl)))
local macro_rules | `(tactic| walk_at "eu") => `(tactic| ((with_reducible apply WB.eu_ifB); (walk_at "et"); (walk_at "eu"); (walk_at "eu")))
section
variable {P : Program} {w : World} {K : PySem.W.Frag} {mg : Str → Option Value} {base : Heap}
local macro_rules | `(tactic| walk_at "own") => `(tactic| first
  | exact r__law_low (ex_t (by assumption) (by assumption))
  | exact r__law_high (ex_t (by assumption) (by assumption))
  | exact r__law_fit (ex_t (by assumption) (by assumption)) (by assumption)
  | exact r__law_do (ex_t (by assumption) (by assumption)) (by assumption) (by assumption)
  | exact r__law_do_add (ex_t (by assumption) (by assumption)) (by assumption) (by assumption)
  | exact r__law_do_addR (ex_t (by assumption) (by assumption)) (by assumption) (by assumption)
  | exact r__law_do_sub (ex_t (by assumption) (by assumption)) (by assumption) (by assumption)
  | exact r__law_do_subR (ex_t (by assumption) (by assumption)) (by assumption) (by assumption)
  | exact r__law_do_mul (ex_t (by assumption) (by assumption)) (by assumption) (by assumption)
  | exact r__law_do_mulR (ex_t (by assumption) (by assumption)) (by assumption) (by assumption)
  | exact r__law_do_sub0 (ex_t (by assumption) (by assumption)) (by assumption)
  | exact r__law_size (by assumption) (by assumption) (by assumption)
  | exact r__law_quotient (by assumption) (by assumption) (by assumption)
  | exact r__law_divide (ex_t (by assumption) (by assumption)) (by assumption) (by assumption) (by assumption)
  | exact r__law_rest (ex_t (by assumption) (by assumption)) (by assumption) (by assumption) (by assumption)
  | exact r__law_minus (ex_t (by assumption) (by assumption)) (by assumption))
abbrev s__law_taken : Stmt := top 157
abbrev N__law_taken : List Str := ["row", "many", "found", "cell"]
theorem sc__law_taken : FnScope N__law_taken ["row", "many"] (defScope s__law_taken) := ⟨rfl, rfl, rfl, by decide +kernel, rfl, by decide +kernel, by decide +kernel⟩
theorem ok__law_taken (T : Txt w K mg) (D0 : DefAt K mg "_law_taken" s__law_taken)   : Cal P w K mg base CX0 1 "_law_taken" ["row", "many"] (SpTaken K) := by
  refine D0.cal sc__law_taken (fun vs H Q E h => by obtain ⟨r, a, ns, m, rfl, _⟩ := h; rfl) (fun _ _ _ _ _ _ us hl => match us, hl with | [_, _], _ => rfl) (fun f cdv A outer s H vs Q E hr h => ?_)
  obtain ⟨r, a, ns, m, rfl, R, hm0, hm, k⟩ := h
  have hu := hu_of hr
  refine ⟨_, (pss_cons (ps_if (pt_cmpR op_gt (pe_ix ix_list (pv 0) pe_int (fun _ _ => rfl)) pe_int (nomark _)) (pss_cons (ps_set (i := 2) sc__law_taken.nd rfl (Or.inl rfl) (pe_op op_modN (pe_callTy call_int1 (by rfl) T.n_int (by decide +kernel) (pa_cons (pe_ix ix_list (pv 0) pe_int (fun _ _ => rfl)) pa_nil)) (pv 1)))
      (pss_cons (ps_asg (pe_op op_fdivB (pe_ix ix_list (pv 0) pe_int (fun _ _ => rfl)) (pv 1)) (pg_sub (pv 0) pe_int set_list))
      (pss_one (ps_ret (pv 2))))) pss_nil)
      (pss_cons (ps_asg (pe_op op_add (pe_ix ix_list (pv 0) pe_int (fun _ _ => rfl)) pe_int) (pg_sub (pv 0) pe_int set_list))
      (pss_cons (ps_if (pt_cmpR op_gt (pe_ix ix_list (pv 0) pe_int (fun _ _ => rfl)) (pe_callB call_len_seq (by rfl) T.n_len (by decide +kernel) (pa_cons (pe_ix ix_list (pv 0) pe_int (fun _ _ => rfl)) pa_nil)) (nomark _)) (pss_cons (ps_asg (pe_op op_modN (pe_callTy call_int1 (by rfl) T.n_int (by decide +kernel) (pa_cons (pe_op op_add (pe_op op_mulW (pe_ix ix_list (pv 0) pe_int (fun _ _ => rfl)) pe_int) pe_int) pa_nil)) pe_int) (pg_sub (pv 0) pe_int set_list))
      (pss_one (ps_ret (pe_op op_modN (pe_callTy call_int1 (by rfl) T.n_int (by decide +kernel) (pa_cons (pe_op op_fdivB (pe_ix ix_list (pv 0) pe_int (fun _ _ => rfl)) pe_int) pa_nil)) (pv 1))))) pss_nil)
      (pss_cons (ps_set (i := 3) sc__law_taken.nd rfl (Or.inl rfl) (pe_ix ix_list (pe_ix ix_list (pv 0) pe_int (fun _ _ => rfl)) (pe_op op_sub (pe_ix ix_list (pv 0) pe_int (fun _ _ => rfl)) pe_int) (fun _ _ => rfl)))
      (pss_cons (ps_asg (pe_op op_modN (pe_callTy call_int1 (by rfl) T.n_int (by decide +kernel) (pa_cons (pe_op op_add (pe_op op_add (pe_op op_mulW (pe_ix ix_list (pv 0) pe_int (fun _ _ => rfl)) pe_int) (pv 3)) pe_int) pa_nil)) pe_int) (pg_sub (pv 0) pe_int set_list))
      (pss_cons (ps_if (pt_cmpR op_ge (pv 3) (pe_op op_pow pe_int pe_int) (nomark _)) (pss_one (ps_asg (pe_op op_fdivB (pv 3) (pv 1)) (pg_sub (pv 0) pe_int set_list))) pss_nil)
      (pss_one (ps_ret (pe_op op_modN (pe_callTy call_int1 (by rfl) T.n_int (by decide +kernel) (pa_cons (pv 3) pa_nil)) (pv 1)))))))))), bl_go ?_⟩
  have scr := R.scr
  have la : (ns.map V.int).length = ns.length := List.length_map ..
  obtain ⟨p, s0, t, hp, hs, hs2, hrow⟩ := R.row
  have hl : SqL K H r [.ref a, .int p, .int s0, .int t] := sq_of hrow
  have m0 : m ≠ 0 := by omega
  have d1 : CDivB t m := sm_div hm m0
  have m1 := mul48271 hs hs2
  walk_at "if"
  · intro h
    walk_at "set"
    apply bl_row (j := 3) hrow
    · walk_at "ev"
    · walk_at "ev"
    · exact ev_c
    · exact Nat.lt_of_sub_eq_succ rfl
    intro H1 e1
    refine bl_go (bl_ret (ev_var rfl) fun H3 e3 => ?_)
    exact k _ H3 (fmod_in t hm0).1 (fmod_in t hm0).2 ((R.upd e1 hp hs hs2).ex e3) ((ExB.upd e1).trans (ExB.of e3))
  · intro _
    apply bl_row (j := 1) hrow
    · walk_at "ev"
    · walk_at "ev"
    · exact ev_c
    · exact Nat.lt_of_sub_eq_succ rfl
    intro H1 e1
    have R1 : RowOK K (upd H1 r (.lst [.ref a, .int (p + 1), .int s0, .int t])) r a ns := R.upd e1 (by omega) hs hs2
    have x1 : ExB r H (upd H1 r (.lst [.ref a, .int (p + 1), .int s0, .int t])) := ExB.upd e1
    change tSeq _ _ _ _ (upd H1 r (.lst [.ref a, .int (p + 1), .int s0, .int t]))
    generalize hH2 : upd H1 r (.lst [.ref a, .int (p + 1), .int s0, .int t]) = H2 at *
    have hrow2 : H2 r = some (.lst [.ref a, .int (p + 1), .int s0, .int t]) := by rw [← hH2]; exact upd_same
    have hl2 : SqL K H2 r [.ref a, .int (p + 1), .int s0, .int t] := sq_of hrow2
    have scr2 : SqL K H2 a (ns.map V.int) := R1.scr
    apply bl_go
    walk_at "if"
    · intro h
      apply bl_row (j := 2) hrow2
      · walk_at "ev"
      · walk_at "ev"
      · exact ev_c
      · exact Nat.lt_of_sub_eq_succ rfl
      intro H3 e3
      have fi := fmod_in (s0 * 48271 + 11) (show (0 : Int) < 2147483647 by decide)
      have R3 : RowOK K (upd H3 r (.lst [.ref a, .int (p + 1), .int ((s0 * 48271 + 11).fmod 2147483647), .int t])) r a ns := R1.upd e3 (by omega) fi.1 fi.2
      have x3 : ExB r H (upd H3 r (.lst [.ref a, .int (p + 1), .int ((s0 * 48271 + 11).fmod 2147483647), .int t])) := x1.trans (ExB.upd e3)
      change tRet _ _ _ (upd H3 r (.lst [.ref a, .int (p + 1), .int ((s0 * 48271 + 11).fmod 2147483647), .int t]))
      generalize hH4 : upd H3 r (.lst [.ref a, .int (p + 1), .int ((s0 * 48271 + 11).fmod 2147483647), .int t]) = H4 at *
      have hl4 : SqL K H4 r [.ref a, .int (p + 1), .int ((s0 * 48271 + 11).fmod 2147483647), .int t] := sq_of (by rw [← hH4]; exact upd_same)
      have d7 : CDivB ((s0 * 48271 + 11).fmod 2147483647) 7 := sm_div (show (7 : Int).natAbs < 2 ^ 70 by decide) (by decide)
      apply bl_go
      (with_reducible apply bl_ret)
      · walk_at "ev"
      · exact fun H5 e5 => k _ H5 (fmod_in _ hm0).1 (fmod_in _ hm0).2 (R3.ex e5) (x3.trans (ExB.of e5))
    · intro h
      have hlen : p + 1 ≤ ns.length := by
        have h' := of_decide_eq_false h
        rw [la] at h'
        omega
      obtain ⟨c, hc⟩ := at_int (ns := ns) (i := p + 1 - 1) (by omega) (by omega)
      have dc : CDivB c m := sm_div hm m0
      walk_at "set"
      apply bl_row (j := 2) hrow2
      · walk_at "ev"
      · walk_at "ev"
      · exact ev_c
      · exact Nat.lt_of_sub_eq_succ rfl
      intro H3 e3
      have fi := fmod_in (s0 * 48271 + c + 11) (show (0 : Int) < 2147483647 by decide)
      have R3 : RowOK K (upd H3 r (.lst [.ref a, .int (p + 1), .int ((s0 * 48271 + c + 11).fmod 2147483647), .int t])) r a ns := R1.upd e3 (by omega) fi.1 fi.2
      have x3 : ExB r H (upd H3 r (.lst [.ref a, .int (p + 1), .int ((s0 * 48271 + c + 11).fmod 2147483647), .int t])) := x1.trans (ExB.upd e3)
      change tSeq _ _ _ _ (upd H3 r (.lst [.ref a, .int (p + 1), .int ((s0 * 48271 + c + 11).fmod 2147483647), .int t]))
      generalize hH4 : upd H3 r (.lst [.ref a, .int (p + 1), .int ((s0 * 48271 + c + 11).fmod 2147483647), .int t]) = H4 at *
      have hrow4 : H4 r = some (.lst [.ref a, .int (p + 1), .int ((s0 * 48271 + c + 11).fmod 2147483647), .int t]) := by rw [← hH4]; exact upd_same
      have hl4 : SqL K H4 r [.ref a, .int (p + 1), .int ((s0 * 48271 + c + 11).fmod 2147483647), .int t] := sq_of hrow4
      apply bl_go
      walk_at "if"
      · intro _
        apply bl_rowE (j := 3) hrow4
        · walk_at "ev"
        · walk_at "ev"
        · exact ev_c
        · exact Nat.lt_of_sub_eq_succ rfl
        intro H5 e5
        have R5 : RowOK K (upd H5 r (.lst [.ref a, .int (p + 1), .int ((s0 * 48271 + c + 11).fmod 2147483647), .int (c.fdiv m)])) r a ns := R3.upd e5 (by omega) fi.1 fi.2
        dsimp only
        apply bl_go
        (with_reducible apply bl_ret)
        · walk_at "ev"
        · exact fun H6 e6 => k _ H6 (fmod_in _ hm0).1 (fmod_in _ hm0).2 (R5.ex e6) ((x3.trans (ExB.upd e5)).trans (ExB.of e6))
      · intro _
        (with_reducible apply bl_ret)
        · walk_at "ev"
        · exact fun H6 e6 => k _ H6 (fmod_in _ hm0).1 (fmod_in _ hm0).2 (R3.ex e6) (x3.trans (ExB.of e6))
abbrev s__law_pick : Stmt := top 158
abbrev N__law_pick : List Str := ["row", "kinds"]
theorem sc__law_pick : FnScope N__law_pick ["row", "kinds"] (defScope s__law_pick) := ⟨rfl, rfl, rfl, by decide +kernel, rfl, by decide +kernel, by decide +kernel⟩
theorem ok__law_pick (T : Txt w K mg) (D0 : DefAt K mg "_law_pick" s__law_pick) (c__law_taken : Cal P w K mg base CX0 1 "_law_taken" ["row", "many"] (SpTaken K))  : Cal P w K mg base CX0 2 "_law_pick" ["row", "kinds"] (SpPick K) := by
  refine D0.cal sc__law_pick (fun vs H Q E h => by obtain ⟨r, a, ns, l, xs, rfl, _⟩ := h; rfl) (fun _ _ _ _ _ _ us hl => match us, hl with | [_, _], _ => rfl) (fun f cdv A outer s H vs Q E hr h => ?_)
  obtain ⟨r, a, ns, l, xs, rfl, R, hl, hlr, hx1, hx2, k⟩ := h
  have hu := hu_of hr
  refine ⟨_, (pss_one (ps_ret (pe_ix ix_list (pv 1) (pe_own c__law_taken (hr.mono (by decide)) rfl pass0 (pa_cons (pv 0) (pa_cons (pe_callB call_len_seq (by rfl) T.n_len (by decide +kernel) (pa_cons (pv 1) pa_nil)) pa_nil))) (fun _ _ => rfl)))), bl_go ?_⟩
  intro H1 e1
  refine ⟨_, rfl, _, rfl, _, rfl, l, xs, rfl, .inl (ex_l e1 hl), r, a, ns, _, rfl, R.ex e1, ?_, sm_nat hx2, fun v H' h0 h1 R' e => ?_⟩
  · have := List.length_pos_iff.mpr hx1
    omega
  obtain ⟨w', hw, hm⟩ := at_mem (xs := xs) h0 h1
  have e2 := (ExB.of (r := r) e1).trans e
  exact ⟨l, xs, v, w', rfl, rfl, exb_l e2 hlr hl, hw, k w' H' hm R' e2⟩
abbrev s__law_format : Stmt := top 160
abbrev N__law_format : List Str := ["row", "most", "w", "signs", "overflow"]
theorem sc__law_format : FnScope N__law_format ["row", "most"] (defScope s__law_format) := ⟨rfl, rfl, rfl, by decide +kernel, rfl, by decide +kernel, by decide +kernel⟩
theorem ok__law_format (T : Txt w K mg) (D0 : DefAt K mg "_law_format" s__law_format) (c__law_pick : Cal P w K mg base CX0 2 "_law_pick" ["row", "kinds"] (SpPick K)) (c__law_taken : Cal P w K mg base CX0 1 "_law_taken" ["row", "many"] (SpTaken K))  : Cal P w K mg base CX0 3 "_law_format" ["row", "most"] (SpFormat K) := by
  refine D0.cal sc__law_format (fun vs H Q E h => by obtain ⟨r, a, ns, m, rfl, _⟩ := h; rfl) (fun _ _ _ _ _ _ us hl => match us, hl with | [_, _], _ => rfl) (fun f cdv A outer s H vs Q E hr h => ?_)
  obtain ⟨r, a, ns, m, rfl, R, hm0, k⟩ := h
  have hu := hu_of hr
  refine ⟨_, (pss_cons (ps_set (i := 2) sc__law_format.nd rfl (Or.inl rfl) (pe_callB (call_min2 rfl) (by rfl) T.n_min (by decide +kernel) (pa_cons (pv 1) (pa_cons (pe_own c__law_pick (hr.mono (by decide)) rfl pass0 (pa_cons (pv 0) (pa_cons (pe_lst (pa_cons pe_int (pa_cons pe_int (pa_cons pe_int (pa_cons pe_int (pa_cons pe_int (pa_cons pe_int (pa_cons pe_int (pa_cons pe_int (pa_cons (pe_op op_add pe_int (pe_own c__law_taken (hr.mono (by decide)) rfl pass0 (pa_cons (pv 0) (pa_cons pe_int pa_nil)))) pa_nil)))))))))) pa_nil))) pa_nil))))
      (pss_cons (ps_par (i := 3) (j := 4) (by rfl) sc__law_format.nd rfl rfl (by decide) rfl rfl (pa_cons (pe_own c__law_pick (hr.mono (by decide)) rfl pass0 (pa_cons (pv 0) (pa_cons (pe_lst (pa_cons pe_str (pa_cons pe_str (pa_cons pe_str pa_nil)))) pa_nil))) (pa_cons (pe_own c__law_pick (hr.mono (by decide)) rfl pass0 (pa_cons (pv 0) (pa_cons (pe_lst (pa_cons pe_str (pa_cons pe_str (pa_cons pe_str pa_nil)))) pa_nil))) pa_nil)) (by rfl))
      (pss_one (ps_ret (pe_tup (pa_cons (pv 2) (pa_cons (pv 3) (pa_cons (pv 4) (pa_cons (pe_own c__law_pick (hr.mono (by decide)) rfl pass0 (pa_cons (pv 0) (pa_cons (pe_lst (pa_cons pe_str (pa_cons pe_str (pa_cons pe_str (pa_cons pe_str (pa_cons pe_str pa_nil)))))) pa_nil))) pa_nil))))))))), bl_go ?_⟩
  intro H0 e0
  have R0 := R.ex e0
  refine ⟨_, rfl, _, rfl, _, rfl, r, a, ns, 61, rfl, R0, by decide, by unfold Sm; decide, fun v1 H1 a1 b1 R1 e1 => ⟨4, v1, rfl, rfl, ?_⟩⟩
  refine ⟨sz_of (n := 9) (by decide), fun l1 hl1 => pick_new (E := E0) R1 hl1 (fun z => by cases z) (Nat.le_of_ble_eq_true rfl) fun v2 H2 hm2 R2 e2 => ?_⟩
  obtain ⟨j, rfl, hj⟩ := mem_ints (is := [4, 5, 5, 6, 7, 8, 13, 64, 4 + v1]) hm2
  have hj2 : 4 ≤ j ∧ j ≤ 64 := by
    simp only [List.mem_cons, List.not_mem_nil, or_false] at hj
    omega
  obtain ⟨w, hw, hw4, hw64, hwm⟩ : ∃ w : Nat, (if j < m then j else m) = (w : Int) ∧ 4 ≤ w ∧ w ≤ 64 ∧ (w : Int) ≤ m := by
    by_cases hc : j < m
    · rw [if_pos hc]
      exact ⟨j.toNat, by omega, by omega, by omega, by omega⟩
    · rw [if_neg hc]
      exact ⟨m.toNat, by omega, by omega, by omega, by omega⟩
  refine ⟨m, j, rfl, ?_⟩
  rw [hw]
  refine ⟨_, rfl, sz_of (n := 3) (by decide), fun l2 hl2 => pick_new (E := E0) R2 hl2 (fun z => by cases z) (Nat.le_of_ble_eq_true rfl) fun v3 H3 hm3 R3 e3 => ?_⟩
  obtain ⟨sg, rfl⟩ := mem_sg hm3
  refine ⟨_, rfl, sz_of (n := 3) (by decide), fun l3 hl3 => pick_new (E := E0) R3 hl3 (fun z => by cases z) (Nat.le_of_ble_eq_true rfl) fun v4 H4 hm4 R4 e4 => ?_⟩
  obtain ⟨ov, rfl⟩ := mem_ov hm4
  refine ⟨_, _, rfl, ?_⟩
  refine ⟨_, rfl, _, rfl, _, rfl, _, rfl, sz_of (n := 5) (by decide), fun l4 hl4 => pick_new (E := E0) R4 hl4 (fun z => by cases z) (Nat.le_of_ble_eq_true rfl) fun v5 H5 hm5 R5 e5 => ?_⟩
  obtain ⟨dv, rfl⟩ := mem_dv hm5
  have e := ((((((ExB.of e0).trans e1).trans e2).trans e3).trans e4).trans e5)
  refine ⟨sz_of (n := 4) (by decide), fun p hp => ?_⟩
  exact k ⟨w, sg, ov, dv, hw4, hw64⟩ p _ hwm (e.back (R5.fresh hp) hp) upd_same (R5.new hp) (e.trans (ExB.of (Ex.new hp)))
end
end K1

set_option maxHeartbeats 4000000
namespace K1
open PySem PySem.Spec PyProof.Rows L2 Evl WM WL WLam WX WT WU StX LamX
local macro_rules | `(tactic| walk_at "ev") => `(tactic| first
  | exact ev_c
  | exact ev_var rfl
  | ((with_reducible apply ev_op); (walk_at "ev"); (walk_at "ev"); (walk_at "rv"))
  | ((with_reducible apply ev_un); (walk_at "ev"); exact ru_neg)
  | ((with_reducible apply ev_notV); (walk_at "ev"))
  | ((with_reducible apply ev_andV); (walk_at "ev"); (intro _; walk_at "ev"))
  | ((with_reducible apply ev_orV); (walk_at "ev"); (intro _; walk_at "ev"))
  | ((with_reducible apply ev_ifT); (walk_at "et"); (exact rfl); (walk_at "ev"))
  | ((with_reducible apply ev_ifF); (walk_at "et"); (exact rfl); (walk_at "ev"))
  | ((with_reducible apply ev_ifB); (walk_at "et"); (intro _; walk_at "ev"); (intro _; walk_at "ev"))
  | ((with_reducible apply ev_chainI); (walk_at "ev"); (walk_at "ev"); (walk_at "ev"))
  | ((with_reducible apply ev_own); (walk_at "ea"); (intro _ _; walk_at "own"))
  | ((with_reducible apply ev_ddS); (walk_at "dp"); (exact Nat.le_of_ble_eq_true rfl); (walk_at "ev"); (exact rfl))
  | ((with_reducible apply ev_isiT); (walk_at "ev"); (walk_at "ea"); (walk_at "isiT"))
  | ((with_reducible apply ev_cb); (walk_at "ea"); (walk_at "rc")))
local macro_rules | `(tactic| walk_at "dp") => `(tactic| first
  | exact Paired.nil
  | ((with_reducible apply dp_cons); (exact ev_c); (walk_at "ev"); (walk_at "dp")))
local macro_rules | `(tactic| walk_at "ea") => `(tactic| first
  | exact ea_nil
  | ((with_reducible apply ea_cons); (walk_at "ev"); (walk_at "ea")))
local macro_rules | `(tactic| walk_at "et") => `(tactic| first
  | ((with_reducible apply et_test); (walk_at "ev"))
  | ((with_reducible apply et_B); (walk_at "ev"))
  | ((with_reducible apply et_not); (walk_at "et"))
  | ((with_reducible apply et_and); (walk_at "et"); (intro _; walk_at "et"))
  | ((with_reducible apply et_or); (walk_at "et"); (intro _; walk_at "et")))
local macro_rules | `(tactic| walk_at "rv") => `(tactic| first
  | exact rv_I0
  | exact rv_eq rfl
  | exact rv_ne rfl
  | exact rv_isT (by assumption) rfl rfl
  | exact rv_niT (by assumption) rfl rfl
  | exact rv_isL (by assumption) rfl rfl
  | exact rv_niL (by assumption) rfl rfl
  | exact rv_ixT (by assumption) rfl
  | exact rv_ixL (by assumption) rfl
  | exact rv_ixL (by assumption) (by assumption)
  | (apply rv_I; (walk_at "side")))
local macro_rules | `(tactic| walk_at "side") => `(tactic| first
  | assumption
  | (refine And.intro ?_ (And.intro ?_ ?_) <;> (try dsimp only) <;> first | omega | decide)
  | (dsimp only; omega)
  | omega)
local macro_rules | `(tactic| walk_at "rc") => `(tactic| first
  | exact rc_abs | exact rc_max2 | exact rc_min2 | exact rc_int | exact rc_intB
  | exact rc_isi_int (b := true) (by decide +kernel)
  | exact rc_isi_int (b := false) (by decide +kernel)
  | exact rc_isi_bl (b := true) (by decide +kernel)
  | exact rc_isi_bl (b := false) (by decide +kernel)
  | exact rc_isi_str (b := true) (by decide +kernel)
  | exact rc_isi_str (b := false) (by decide +kernel)
  | exact rc_isi_T (b := true) (by assumption) (by decide +kernel)
  | exact rc_isi_T (b := false) (by assumption) (by decide +kernel)
  | exact rc_lenT (by assumption)
  | exact rc_lenL (by assumption))
local macro_rules | `(tactic| walk_at "set") => `(tactic| ((with_reducible apply bl_set); (walk_at "ev")))
local macro_rules | `(tactic| walk_at "drop") => `(tactic| ((with_reducible apply bl_drop); (walk_at "ev")))
local macro_rules | `(tactic| walk_at "par") => `(tactic| ((with_reducible apply bl_par); (walk_at "ea")))
local macro_rules | `(tactic| walk_at "if") => `(tactic| ((with_reducible apply bl_when); (walk_at "et")))
local macro_rules | `(tactic| walk_at "no") => `(tactic| ((with_reducible apply bl_when); (walk_at "et"); (intro h; exact absurd (show false = true from h) (by decide)); (intro _)))
local macro_rules | `(tactic| walk_at "yes") => `(tactic| ((with_reducible apply bl_when); (walk_at "et"); rotate_left; (intro h; exact absurd (show true = false from h) (by decide)); (intro _)))
local macro_rules | `(tactic| walk_at "ret") => `(tactic| ((with_reducible apply bl_retE); rotate_left; assumption; rotate_right; (walk_at "ev")))
local macro_rules | `(tactic| walk_at "absurd") => `(tactic| first | exact absurd (show false = true from (by assumption)) (by decide) | exact absurd (show true = false from (by assumption)) (by decide))
local macro_rules | `(tactic| walk_at "rv") => `(tactic| first | exact rv_isN (s := []) | exact rv_notKD (by assumption) | exact rv_inKD (by assumption) | exact rv_ixKD (by assumption))
local macro_rules | `(tactic| walk_at "isiT") => `(tactic| ((exact Nat.le_of_ble_eq_true rfl); (exact .cons (.ty _) (.cons (.ty _) .nil)); (first | exact fun _ _ => .base (.int _) | exact fun _ _ => .base (.bl _) | exact fun _ _ => .base (.str _) | exact fun _ _ => .base .non); (exact kitAny_no (by decide +kernel) (by decide +kernel))))
local macro_rules | `(tactic| walk_at "rc") => `(tactic| first | exact rc_isi_non (b := true) (by decide +kernel) | exact rc_isi_non (b := false) (by decide +kernel))
local macro_rules | `(tactic| walk_at "eu") => `(tactic| first
  | ((with_reducible apply eu_own); (walk_at "ea"); (intro _ _; walk_at "own"))
  | ((with_reducible apply eu_tup); (walk_at "ea"); (exact Nat.le_of_ble_eq_true rfl)))
local macro_rules | `(tactic| walk_at "ev") => `(tactic| ((with_reducible apply ev_own1U); (walk_at "eu"); (walk_at "ea"); (intro _ _ _ _; walk_at "own1")))
local macro_rules | `(tactic| walk_at "isr") => `(tactic| first | with_reducible exact isr_r | with_reducible exact isr_i | ((with_reducible apply isr_if) <;> (walk_at "isr")))
local macro_rules | `(tactic| walk_at "osm") => `(tactic| first | with_reducible assumption | with_reducible exact osm_add | with_reducible exact osm_sub | with_reducible exact osm_mul | with_reducible exact osm_dvo | with_reducible exact osm_neg | with_reducible exact osm_rem | with_reducible exact osm_do | with_reducible exact osm_div | with_reducible exact osm_fit | ((with_reducible apply osm); assumption) | ((with_reducible apply osm); exact (show (0 : Int).natAbs < 2 ^ 70 by decide)) | ((with_reducible apply osm); exact (show (2 : Int).natAbs < 2 ^ 70 by decide)) | ((with_reducible apply osm_if) <;> (walk_at "osm")))
local macro_rules | `(tactic| walk_at "ev") => `(tactic| first
  | ((with_reducible apply ev_inLst); (walk_at "ev"); (walk_at "ea"); (exact Nat.le_of_ble_eq_true rfl); (exact rfl); (first | exact rfl | simp [flatV])))
local macro_rules | `(tactic| walk_at "rv") => `(tactic| first | exact rv_eq scal_rv | exact rv_ne scal_rv | exact rv_eq (scal_rv (y := some _)) | exact rv_ne (scal_rv (y := some _)) | exact rv_eq (scal_rv (y := none)) | exact rv_ne (scal_rv (y := none)))
local macro_rules | `(tactic| walk_at "nz") => `(tactic| first | with_reducible assumption | ((with_reducible apply nz_i); (first | assumption | decide)))
local macro_rules | `(tactic| walk_at "ev") => `(tactic| ((with_reducible apply ev_inU); (walk_at "ev"); (walk_at "eu"); (exact rfl); (exact rfl)))
local macro_rules | `(tactic| walk_at "eu") => `(tactic| ((with_reducible apply WB.eu_ifB); (walk_at "et"); (walk_at "eu"); (walk_at "eu")))
local macro_rules | `(tactic| walk_at "isr") => `(tactic| first | with_reducible exact isr_r | with_reducible exact isr_i | ((with_reducible apply isr_if) <;> (walk_at "isr")))
local macro_rules | `(tactic| walk_at "osm") => `(tactic| first | with_reducible assumption | with_reducible exact osm_do | with_reducible exact osm_div | with_reducible exact osm_fit | ((with_reducible apply osm); assumption) | ((with_reducible apply osm); exact (show (0 : Int).natAbs < 2 ^ 70 by decide)) | ((with_reducible apply osm); exact (show (2 : Int).natAbs < 2 ^ 70 by decide)) | ((with_reducible apply osm_if) <;> (walk_at "osm")))
local macro_rules | `(tactic| walk_at "ev") => `(tactic| first
  | ((with_reducible apply ev_inLst); (walk_at "ev"); (walk_at "ea"); (exact Nat.le_of_ble_eq_true rfl); (exact rfl); (first | exact rfl | simp [flatV]))
  | ((with_reducible apply ev_ownL); (walk_at "ea"); (exact Nat.le_of_ble_eq_true rfl); (intro _ _ _; walk_at "ownL")))
local macro_rules | `(tactic| walk_at "rv") => `(tactic| first | exact rv_eq scal_rv | exact rv_ne scal_rv | exact rv_eq (scal_rv (y := some _)) | exact rv_ne (scal_rv (y := some _)) | exact rv_eq (scal_rv (y := none)) | exact rv_ne (scal_rv (y := none)))
section
variable {P : Program} {w : World} {K : PySem.W.Frag} {mg : Str → Option Value} {base : Heap}
def R__law_rises (K : PySem.W.Frag) : List V → Hp → V → Prop := fun vs H v => ∃ (l : Addr) (xs : List (Option Int)), vs = [.ref l] ∧ (SqL K H l (xs.map rv)) ∧ (xs.length < 64) ∧ v = .bl (risesB xs)
theorem r__law_rises {K : PySem.W.Frag} {H : Hp} {l : Addr} {xs : List (Option Int)} (h0 : SqL K H l (xs.map rv)) (h1 : xs.length < 64) : R__law_rises K [.ref l] H (.bl (risesB xs)) := ⟨_, _, rfl, h0, h1, rfl⟩
def R__law_three (K : PySem.W.Frag) : List V → Hp → V → Prop := fun vs H v => ∃ (p : Addr) (f : Fmt) (r : Rl) (a : Int) (b : Int) (c : Int), vs = [.ref p, .str (rlS r), .int a, .int b, .int c] ∧ (SqT K H p (fV f)) ∧ (fits f a) ∧ (fits f b) ∧ (fits f c) ∧ (r.ar = 3) ∧ v = .bl (ruleB f r a b c)
theorem r__law_three {K : PySem.W.Frag} {H : Hp} {p : Addr} {f : Fmt} {r : Rl} {a : Int} {b : Int} {c : Int} (h0 : SqT K H p (fV f)) (h1 : fits f a) (h2 : fits f b) (h3 : fits f c) (h4 : r.ar = 3) : R__law_three K [.ref p, .str (rlS r), .int a, .int b, .int c] H (.bl (ruleB f r a b c)) := ⟨_, _, _, _, _, _, rfl, h0, h1, h2, h3, h4, rfl⟩
def R__law_two (K : PySem.W.Frag) : List V → Hp → V → Prop := fun vs H v => ∃ (p : Addr) (f : Fmt) (r : Rl) (a : Int) (b : Int), vs = [.ref p, .str (rlS r), .int a, .int b] ∧ (SqT K H p (fV f)) ∧ (fits f a) ∧ (fits f b) ∧ (r.ar = 2) ∧ v = .bl (ruleB f r a b 0)
theorem r__law_two {K : PySem.W.Frag} {H : Hp} {p : Addr} {f : Fmt} {r : Rl} {a : Int} {b : Int} (h0 : SqT K H p (fV f)) (h1 : fits f a) (h2 : fits f b) (h3 : r.ar = 2) : R__law_two K [.ref p, .str (rlS r), .int a, .int b] H (.bl (ruleB f r a b 0)) := ⟨_, _, _, _, _, rfl, h0, h1, h2, h3, rfl⟩
theorem r__law_do_G {K : PySem.W.Frag} {H : Hp} {p : Addr} {f : Fmt} {d : De} {va vb : V} {x y : Option Int} (h : SqT K H p (fV f)) (ea : IsR va x) (eb : IsR vb y) (ha : OSm x) (hb : OSm y) : R__law_do K [.ref p, .str (deS d), va, vb] H (rv (doR f d x y)) := ⟨p, f, d, x, y, by rw [ea, eb], h, ha, hb, rfl⟩
theorem r__law_do_Ga {K : PySem.W.Frag} {H : Hp} {p : Addr} {f : Fmt} {va vb : V} {x y : Option Int} (h : SqT K H p (fV f)) (ea : IsR va x) (eb : IsR vb y) (ha : OSm x) (hb : OSm y) : R__law_do K [.ref p, .str "add", va, vb] H (rv (doR f .add x y)) := r__law_do_G (d := .add) h ea eb ha hb
theorem r__law_do_Gs {K : PySem.W.Frag} {H : Hp} {p : Addr} {f : Fmt} {va vb : V} {x y : Option Int} (h : SqT K H p (fV f)) (ea : IsR va x) (eb : IsR vb y) (ha : OSm x) (hb : OSm y) : R__law_do K [.ref p, .str "subtract", va, vb] H (rv (doR f .sub x y)) := r__law_do_G (d := .sub) h ea eb ha hb
theorem r__law_do_Gm {K : PySem.W.Frag} {H : Hp} {p : Addr} {f : Fmt} {va vb : V} {x y : Option Int} (h : SqT K H p (fV f)) (ea : IsR va x) (eb : IsR vb y) (ha : OSm x) (hb : OSm y) : R__law_do K [.ref p, .str "multiply", va, vb] H (rv (doR f .mul x y)) := r__law_do_G (d := .mul) h ea eb ha hb
theorem r__law_minus_G {K : PySem.W.Frag} {H : Hp} {p : Addr} {f : Fmt} {va : V} {x : Option Int} (h : SqT K H p (fV f)) (ea : IsR va x) (ha : OSm x) : R__law_minus K [.ref p, va] H (rv (doR f .sub (some 0) x)) := ⟨p, f, x, by rw [ea], h, ha, rfl⟩
theorem r__law_divide_G {K : PySem.W.Frag} {H : Hp} {p : Addr} {f : Fmt} {va : V} {x : Option Int} {b : Int} (h : SqT K H p (fV f)) (ea : IsR va x) (ha : OSm x) (hb : Sm b) (b0 : b ≠ 0) : R__law_divide K [.ref p, va, .int b] H (rv (divR f x (some b))) := ⟨p, f, x, some b, by rw [ea]; rfl, h, ha, osm hb, nz_i b0, rfl⟩
theorem r__law_rises_2 {K : PySem.W.Frag} {H : Hp} {l : Addr} {va vb : V} {x y : Option Int} (h : H l = some (.lst [va, vb])) (ea : IsR va x) (eb : IsR vb y) : R__law_rises K [.ref l] H (.bl (risesB [x, y])) :=
  ⟨l, [x, y], rfl, by rw [ea, eb] at h; exact sq_of h, Nat.le_of_ble_eq_true rfl, rfl⟩
theorem r__law_rises_3 {K : PySem.W.Frag} {H : Hp} {l : Addr} {va vb vc : V} {x y z : Option Int} (h : H l = some (.lst [va, vb, vc])) (ea : IsR va x) (eb : IsR vb y) (ec : IsR vc z) : R__law_rises K [.ref l] H (.bl (risesB [x, y, z])) :=
  ⟨l, [x, y, z], rfl, by rw [ea, eb, ec] at h; exact sq_of h, Nat.le_of_ble_eq_true rfl, rfl⟩
local macro_rules | `(tactic| walk_at "ownL") => `(tactic| first | ((with_reducible apply r__law_rises_2); assumption; (walk_at "isr"); (walk_at "isr")) | ((with_reducible apply r__law_rises_3); assumption; (walk_at "isr"); (walk_at "isr"); (walk_at "isr")))
local macro_rules | `(tactic| walk_at "own") => `(tactic| first
  | exact r__law_low (ex_t (by assumption) (by assumption))
  | exact r__law_high (ex_t (by assumption) (by assumption))
  | exact r__law_fit (ex_t (by assumption) (by assumption)) (by assumption)
  | exact r__law_size (by assumption) (by assumption) (by assumption)
  | exact r__law_quotient (by assumption) (by assumption) (by assumption)
  | exact r__law_rest (ex_t (by assumption) (by assumption)) (by assumption) (by assumption) (by assumption)
  | exact r__law_rises (ex_l (by assumption) (by assumption)) (by assumption)
  | exact r__law_three (ex_t (by assumption) (by assumption)) (by assumption) (by assumption) (by assumption) (by assumption)
  | exact r__law_two (ex_t (by assumption) (by assumption)) (by assumption) (by assumption) (by assumption)
  | ((with_reducible apply r__law_do_Ga); (exact (ex_t (by assumption) (by assumption))); (walk_at "isr"); (walk_at "isr"); (walk_at "osm"); (walk_at "osm"))
  | ((with_reducible apply r__law_do_Gs); (exact (ex_t (by assumption) (by assumption))); (walk_at "isr"); (walk_at "isr"); (walk_at "osm"); (walk_at "osm"))
  | ((with_reducible apply r__law_do_Gm); (exact (ex_t (by assumption) (by assumption))); (walk_at "isr"); (walk_at "isr"); (walk_at "osm"); (walk_at "osm"))
  | ((with_reducible apply r__law_minus_G); (exact (ex_t (by assumption) (by assumption))); (walk_at "isr"); (walk_at "osm"))
  | ((with_reducible apply r__law_divide_G); (exact (ex_t (by assumption) (by assumption))); (walk_at "isr"); (walk_at "osm"); (first | assumption | exact (show (2 : Int).natAbs < 2 ^ 70 by decide)); (first | assumption | decide)))
abbrev s__law_rises : Stmt := top 170
abbrev N__law_rises : List Str := ["some"]
theorem sc__law_rises : FnScope N__law_rises ["some"] (defScope s__law_rises) := ⟨rfl, rfl, rfl, by decide +kernel, rfl, by decide +kernel, by decide +kernel⟩
theorem ok__law_rises (T : Txt w K mg) (D0 : DefAt K mg "_law_rises" s__law_rises)   : Cal P w K mg base CX0 1 "_law_rises" ["some"] (Pu (R__law_rises K)) := by
  refine D0.cal sc__law_rises (fun vs H Q E h => by obtain ⟨v, ⟨_, _, rfl, _⟩, _⟩ := h; rfl) (fun _ _ _ _ _ _ us hl => match us, hl with | [_], _ => rfl) (fun f cdv A outer s H vs Q E hr h => ?_)
  obtain ⟨v, ⟨l, xs, rfl, hl, hn, rfl⟩, k⟩ := h
  have hu := hu_of hr
  refine ⟨_, (pss_one (ps_ret (pe_and (pe_cmpR op_notIn_seq pe_str (pv 0) (by rfl)) (pe_one (pe_cmpR (op_eqD hr.units) (pe_callTy call_list_of (by rfl) T.n_list (by decide +kernel) (pa_cons (pv 0) pa_nil)) (pe_callB cr_sorted (by rfl) T.n_sorted (by decide +kernel) (pa_cons (pv 0) pa_nil)) (nomark _)))))), bl_go ?_⟩
  refine bl_retE (ev_rises (i := 0) rfl hl hn ?_) k ?_
  · exact PySem.W.shaped_ints
  · rfl
abbrev s__law_three : Stmt := top 172
abbrev N__law_three : List Str := ["form", "rule", "a", "b", "c", "one", "other"]
theorem sc__law_three : FnScope N__law_three ["form", "rule", "a", "b", "c"] (defScope s__law_three) := ⟨rfl, rfl, rfl, by decide +kernel, rfl, by decide +kernel, by decide +kernel⟩
theorem ok__law_three (T : Txt w K mg) (D0 : DefAt K mg "_law_three" s__law_three) (c__law_do : Cal P w K mg base CX0 3 "_law_do" ["form", "deed", "a", "b"] (Pu (R__law_do K))) (c__law_rises : Cal P w K mg base CX0 1 "_law_rises" ["some"] (Pu (R__law_rises K)))  : Cal P w K mg base CX0 4 "_law_three" ["form", "rule", "a", "b", "c"] (Pu (R__law_three K)) := by
  refine D0.cal sc__law_three (fun vs H Q E h => by obtain ⟨v, ⟨_, _, _, _, _, _, rfl, _⟩, _⟩ := h; rfl) (fun _ _ _ _ _ _ us hl => match us, hl with | [_, _, _, _, _], _ => rfl) (fun f cdv A outer s H vs Q E hr h => ?_)
  obtain ⟨v, ⟨p, f, r, a, b, c, rfl, hf, ha, hb, hc, h3, rfl⟩, k⟩ := h
  have hu := hu_of hr
  refine ⟨_, (pss_cons (ps_if (pt_cmpR op_eq (pv 1) pe_str (nomark _)) (pss_one (ps_ret (pe_cmpR op_eq (pe_own c__law_do (hr.mono (by decide)) rfl pass0 (pa_cons (pv 0) (pa_cons pe_str (pa_cons (pe_own c__law_do (hr.mono (by decide)) rfl pass0 (pa_cons (pv 0) (pa_cons pe_str (pa_cons (pv 2) (pa_cons (pv 3) pa_nil))))) (pa_cons (pv 4) pa_nil))))) (pe_own c__law_do (hr.mono (by decide)) rfl pass0 (pa_cons (pv 0) (pa_cons pe_str (pa_cons (pv 2) (pa_cons (pe_own c__law_do (hr.mono (by decide)) rfl pass0 (pa_cons (pv 0) (pa_cons pe_str (pa_cons (pv 3) (pa_cons (pv 4) pa_nil))))) pa_nil))))) (nomark _)))) pss_nil)
      (pss_cons (ps_if (pt_cmpR op_eq (pv 1) pe_str (nomark _)) (pss_one (ps_ret (pe_or (pe_cmpR op_gt (pv 2) (pv 3) (nomark _)) (pe_one (pe_own c__law_rises (hr.mono (by decide)) rfl pass0 (pa_cons (pe_lst (pa_cons (pe_own c__law_do (hr.mono (by decide)) rfl pass0 (pa_cons (pv 0) (pa_cons pe_str (pa_cons (pv 2) (pa_cons (pv 4) pa_nil))))) (pa_cons (pe_own c__law_do (hr.mono (by decide)) rfl pass0 (pa_cons (pv 0) (pa_cons pe_str (pa_cons (pv 3) (pa_cons (pv 4) pa_nil))))) pa_nil))) pa_nil)))))) pss_nil)
      (pss_cons (ps_par (i := 5) (j := 6) (by rfl) sc__law_three.nd rfl rfl (by decide) rfl rfl (pa_cons (pe_own c__law_do (hr.mono (by decide)) rfl pass0 (pa_cons (pv 0) (pa_cons pe_str (pa_cons (pv 2) (pa_cons (pv 3) pa_nil))))) (pa_cons (pe_own c__law_do (hr.mono (by decide)) rfl pass0 (pa_cons (pv 0) (pa_cons pe_str (pa_cons (pv 2) (pa_cons (pv 4) pa_nil))))) pa_nil)) (by rfl))
      (pss_cons (ps_if (pt_cmpR op_eq (pv 1) pe_str (nomark _)) (pss_one (ps_ret (pe_cmpR op_eq (pe_own c__law_do (hr.mono (by decide)) rfl pass0 (pa_cons (pv 0) (pa_cons pe_str (pa_cons (pv 2) (pa_cons (pe_own c__law_do (hr.mono (by decide)) rfl pass0 (pa_cons (pv 0) (pa_cons pe_str (pa_cons (pv 3) (pa_cons (pv 4) pa_nil))))) pa_nil))))) (pe_own c__law_do (hr.mono (by decide)) rfl pass0 (pa_cons (pv 0) (pa_cons pe_str (pa_cons (pv 5) (pa_cons (pv 6) pa_nil))))) (nomark _)))) pss_nil)
      (pss_cons (ps_if (pt_cmpR op_eq (pv 1) pe_str (nomark _)) (pss_one (ps_ret (pe_or (pe_cmpR op_eq (pv 2) pe_int (nomark _)) (pe_or (pe_cmpR op_ne (pv 5) (pv 6) (nomark _)) (pe_one (pe_cmpR op_eq (pv 3) (pv 4) (nomark _))))))) pss_nil)
      (pss_one (ps_ret (pe_cmpR op_eq (pe_own c__law_do (hr.mono (by decide)) rfl pass0 (pa_cons (pv 0) (pa_cons pe_str (pa_cons (pv 5) (pa_cons (pv 4) pa_nil))))) (pe_own c__law_do (hr.mono (by decide)) rfl pass0 (pa_cons (pv 0) (pa_cons pe_str (pa_cons (pv 2) (pa_cons (pe_own c__law_do (hr.mono (by decide)) rfl pass0 (pa_cons (pv 0) (pa_cons pe_str (pa_cons (pv 3) (pa_cons (pv 4) pa_nil))))) pa_nil))))) (nomark _))))))))), bl_go ?_⟩
  have sa : Sm a := sm_fits ha
  have sb : Sm b := sm_fits hb
  have sc : Sm c := sm_fits hc
  cases r <;> first | (cases h3; done) | skip
  · walk_at "yes"
    walk_at "ret"
    simp only [ruleB, do_add, dec_rv]
  · walk_at "no"
    walk_at "no"
    walk_at "par"
    walk_at "no"
    walk_at "no"
    walk_at "ret"
    simp only [ruleB, do_mul, dec_rv]
  · walk_at "no"
    walk_at "no"
    walk_at "par"
    walk_at "yes"
    walk_at "ret"
    simp only [ruleB, do_mul, do_add, dec_rv]
  · walk_at "no"
    walk_at "yes"
    walk_at "ret"
    simp only [ruleB, do_add, rises2]
    try rfl
  · walk_at "no"
    walk_at "no"
    walk_at "par"
    walk_at "no"
    walk_at "yes"
    walk_at "ret"
    simp only [ruleB, do_mul, dec_rv, dec_i, dec_not, Bool.or_assoc, ne_eq]
abbrev s__law_two : Stmt := top 173
abbrev N__law_two : List Str := ["form", "rule", "a", "b", "less", "half", "quotient_v", "rest_v"]
theorem sc__law_two : FnScope N__law_two ["form", "rule", "a", "b"] (defScope s__law_two) := ⟨rfl, rfl, rfl, by decide +kernel, rfl, by decide +kernel, by decide +kernel⟩
theorem ok__law_two (T : Txt w K mg) (D0 : DefAt K mg "_law_two" s__law_two) (c__law_divide : Cal P w K mg base CX0 3 "_law_divide" ["form", "a", "b"] (Pu (R__law_divide K))) (c__law_do : Cal P w K mg base CX0 3 "_law_do" ["form", "deed", "a", "b"] (Pu (R__law_do K))) (c__law_minus : Cal P w K mg base CX0 4 "_law_minus" ["form", "a"] (Pu (R__law_minus K))) (c__law_rest : Cal P w K mg base CX0 3 "_law_rest" ["form", "a", "b"] (Pu (R__law_rest K))) (c__law_rises : Cal P w K mg base CX0 1 "_law_rises" ["some"] (Pu (R__law_rises K)))  : Cal P w K mg base CX0 5 "_law_two" ["form", "rule", "a", "b"] (Pu (R__law_two K)) := by
  refine D0.cal sc__law_two (fun vs H Q E h => by obtain ⟨v, ⟨_, _, _, _, _, rfl, _⟩, _⟩ := h; rfl) (fun _ _ _ _ _ _ us hl => match us, hl with | [_, _, _, _], _ => rfl) (fun f cdv A outer s H vs Q E hr h => ?_)
  obtain ⟨v, ⟨p, f, r, a, b, rfl, hf, ha, hb, h3, rfl⟩, k⟩ := h
  have hu := hu_of hr
  refine ⟨_, (pss_cons (ps_set (i := 4) sc__law_two.nd rfl (Or.inl rfl) (pe_own c__law_do (hr.mono (by decide)) rfl pass0 (pa_cons (pv 0) (pa_cons pe_str (pa_cons (pv 2) (pa_cons (pv 3) pa_nil))))))
      (pss_cons (ps_if (pt_cmpR op_eq (pv 1) pe_str (nomark _)) (pss_one (ps_ret (pe_cmpR op_eq (pv 4) (pe_own c__law_do (hr.mono (by decide)) rfl pass0 (pa_cons (pv 0) (pa_cons pe_str (pa_cons (pv 2) (pa_cons (pe_own c__law_minus (hr.mono (by decide)) rfl pass0 (pa_cons (pv 0) (pa_cons (pv 3) pa_nil))) pa_nil))))) (nomark _)))) pss_nil)
      (pss_cons (ps_if (pt_cmpR op_eq (pv 1) pe_str (nomark _)) (pss_one (ps_ret (pe_cmpR op_eq (pe_own c__law_do (hr.mono (by decide)) rfl pass0 (pa_cons (pv 0) (pa_cons pe_str (pa_cons (pv 4) (pa_cons (pv 3) pa_nil))))) (pv 2) (nomark _)))) pss_nil)
      (pss_cons (ps_if (pt_cmpR op_eq (pv 1) pe_str (nomark _)) (pss_one (ps_ret (pe_and (pe_cmpR op_ne (pv 4) pe_str (nomark _)) (pe_one (pe_cmpR op_eq (pe_cmpR op_lt (pv 2) (pv 3) (nomark _)) (pe_cmpR op_lt (pv 4) pe_int (nomark _)) (nomark _)))))) pss_nil)
      (pss_cons (ps_if (pt_cmpR op_eq (pv 1) pe_str (nomark _)) (pss_cons (ps_set (i := 5) sc__law_two.nd rfl (Or.inl rfl) (pe_own c__law_divide (hr.mono (by decide)) rfl pass0 (pa_cons (pv 0) (pa_cons (pe_own c__law_do (hr.mono (by decide)) rfl pass0 (pa_cons (pv 0) (pa_cons pe_str (pa_cons (pv 3) (pa_cons (pv 2) pa_nil))))) (pa_cons pe_int pa_nil)))))
      (pss_one (ps_ret (pe_or (pe_cmpR op_gt (pv 2) (pv 3) (nomark _)) (pe_one (pe_own c__law_rises (hr.mono (by decide)) rfl pass0 (pa_cons (pe_lst (pa_cons (pv 2) (pa_cons (pe_own c__law_do (hr.mono (by decide)) rfl pass0 (pa_cons (pv 0) (pa_cons pe_str (pa_cons (pv 2) (pa_cons (pv 5) pa_nil))))) (pa_cons (pv 3) pa_nil)))) pa_nil))))))) pss_nil)
      (pss_cons (ps_if (pt_cmpR op_eq (pv 1) pe_str (nomark _)) (pss_one (ps_ret (pe_or (pe_cmpR op_in_seq pe_int (pe_lst (pa_cons (pv 2) (pa_cons (pv 3) pa_nil))) (by rfl)) (pe_one (pe_cmpR op_ne (pe_own c__law_do (hr.mono (by decide)) rfl pass0 (pa_cons (pv 0) (pa_cons pe_str (pa_cons (pv 2) (pa_cons (pv 3) pa_nil))))) pe_int (nomark _)))))) pss_nil)
      (pss_cons (ps_if (pt_cmpR op_eq (pv 3) pe_int (nomark _)) (pss_one (ps_ret pe_bl)) pss_nil)
      (pss_cons (ps_par (i := 6) (j := 7) (by rfl) sc__law_two.nd rfl rfl (by decide) rfl rfl (pa_cons (pe_own c__law_divide (hr.mono (by decide)) rfl pass0 (pa_cons (pv 0) (pa_cons (pv 2) (pa_cons (pv 3) pa_nil)))) (pa_cons (pe_own c__law_rest (hr.mono (by decide)) rfl pass0 (pa_cons (pv 0) (pa_cons (pv 2) (pa_cons (pv 3) pa_nil)))) pa_nil)) (by rfl))
      (pss_cons (ps_if (pt_cmpR op_eq (pv 1) pe_str (nomark _)) (pss_one (ps_ret (pe_cmpR op_eq (pe_own c__law_do (hr.mono (by decide)) rfl pass0 (pa_cons (pv 0) (pa_cons pe_str (pa_cons (pe_own c__law_do (hr.mono (by decide)) rfl pass0 (pa_cons (pv 0) (pa_cons pe_str (pa_cons (pv 6) (pa_cons (pv 3) pa_nil))))) (pa_cons (pv 7) pa_nil))))) (pv 2) (nomark _)))) pss_nil)
      (pss_cons (ps_if (pt_cmpR op_eq (pv 1) pe_str (nomark _)) (pss_one (ps_ret (pe_and (pe_cmpR op_ne (pv 7) pe_str (nomark _)) (pe_one (pe_chain op_le op_lt pe_int (pv 7) (pe_callB call_abs (by rfl) T.n_abs (by decide +kernel) (pa_cons (pv 3) pa_nil))))))) pss_nil)
      (pss_one (ps_ret (pe_cmpR op_eq (pe_own c__law_divide (hr.mono (by decide)) rfl pass0 (pa_cons (pv 0) (pa_cons (pe_own c__law_minus (hr.mono (by decide)) rfl pass0 (pa_cons (pv 0) (pa_cons (pv 2) pa_nil))) (pa_cons (pv 3) pa_nil)))) (pe_own c__law_minus (hr.mono (by decide)) rfl pass0 (pa_cons (pv 0) (pa_cons (pv 6) pa_nil))) (nomark _)))))))))))))), bl_go ?_⟩
  have sa : Sm a := sm_fits ha
  have sb : Sm b := sm_fits hb
  cases r <;> first | (cases h3; done) | skip
  · walk_at "set"
    walk_at "yes"
    walk_at "ret"
    simp only [do_neg]
    simp only [ruleB, do_add, do_sub, dec_rv]
  · walk_at "set"
    walk_at "no"
    walk_at "yes"
    walk_at "ret"
    simp only [ruleB, do_add, do_sub, dec_rv, dec_rvi]
  · walk_at "set"
    walk_at "no"
    walk_at "no"
    walk_at "no"
    walk_at "no"
    walk_at "no"
    walk_at "if"
    · intro h
      walk_at "ret"
      rw [dec_i, decide_eq_true_eq] at h
      simp only [ruleB, decide_eq_true h, Bool.true_or]
    intro h
    rw [dec_i, decide_eq_false_iff_not] at h
    walk_at "par"
    walk_at "yes"
    walk_at "ret"
    simp only [ruleB, do_add, do_mul, do_div, dec_rv, dec_rvi, decide_eq_false h, Bool.false_or, remO]
    exact congrArg V.bl (decide_eq_decide.mpr Iff.rfl)
  · walk_at "set"
    walk_at "no"
    walk_at "no"
    walk_at "no"
    walk_at "no"
    walk_at "no"
    walk_at "if"
    · intro h
      walk_at "ret"
      rw [dec_i, decide_eq_true_eq] at h
      simp only [ruleB, decide_eq_true h, Bool.true_or]
    intro h
    rw [dec_i, decide_eq_false_iff_not] at h
    walk_at "par"
    walk_at "no"
    walk_at "yes"
    have er : remO f a b = fitR f (a - b * quo f.dv a b) := rfl
    rw [← er]
    simp only [ruleB, decide_eq_false h, Bool.false_or] at k
    generalize remO f a b = z at k ⊢
    cases z with
    | none =>
      refine bl_retE (v := .bl (false && false)) ?_ k rfl
      refine ev_andV (ev_is (v := .bl (!decide (rv none = V.str "trap"))) ?_ (by rw [dec_rvt]; rfl)) (fun z => by cases z)
      walk_at "ev"
    | some z =>
      walk_at "ret"
      rfl
  · walk_at "set"
    walk_at "no"
    walk_at "no"
    walk_at "no"
    walk_at "no"
    walk_at "no"
    walk_at "if"
    · intro h
      walk_at "ret"
      rw [dec_i, decide_eq_true_eq] at h
      simp only [ruleB, decide_eq_true h, Bool.true_or]
    intro h
    rw [dec_i, decide_eq_false_iff_not] at h
    walk_at "par"
    walk_at "no"
    walk_at "no"
    walk_at "ret"
    simp only [ruleB, do_div, do_neg, dec_rv, decide_eq_false h, Bool.false_or]
  · walk_at "set"
    walk_at "no"
    walk_at "no"
    walk_at "yes"
    simp only [ruleB] at k
    rw [do_sub]
    generalize subO f (some a) (some b) = z at k ⊢
    cases z with
    | none =>
      refine bl_retE (v := .bl (false && false)) ?_ k rfl
      refine ev_andV (ev_is (v := .bl (!decide (rv none = V.str "trap"))) ?_ (by rw [dec_rvt]; rfl)) (fun z => by cases z)
      walk_at "ev"
    | some z =>
      walk_at "ret"
      rw [dec_b]
      rfl
  · walk_at "set"
    walk_at "no"
    walk_at "no"
    walk_at "no"
    walk_at "yes"
    walk_at "set"
    walk_at "ret"
    simp only [ruleB, do_add, do_sub, do_div, rises3]
    try rfl
  · walk_at "set"
    walk_at "no"
    walk_at "no"
    walk_at "no"
    walk_at "no"
    walk_at "yes"
    walk_at "ret"
    rw [in_two, do_mul, dec_rvi, dec_not]
    rfl
end
end K1

set_option maxHeartbeats 4000000
namespace K1
open PySem PySem.Spec PyProof.Rows L2 Evl WM WL WLam WX WT WU StX LamX
local macro_rules | `(tactic| walk_at "ev") => `(tactic| first
  | exact ev_c
  | exact ev_var rfl
  | ((with_reducible apply ev_op); (walk_at "ev"); (walk_at "ev"); (walk_at "rv"))
  | ((with_reducible apply ev_un); (walk_at "ev"); exact ru_neg)
  | ((with_reducible apply ev_notV); (walk_at "ev"))
  | ((with_reducible apply ev_andV); (walk_at "ev"); (intro _; walk_at "ev"))
  | ((with_reducible apply ev_orV); (walk_at "ev"); (intro _; walk_at "ev"))
  | ((with_reducible apply ev_ifT); (walk_at "et"); (exact rfl); (walk_at "ev"))
  | ((with_reducible apply ev_ifF); (walk_at "et"); (exact rfl); (walk_at "ev"))
  | ((with_reducible apply ev_ifB); (walk_at "et"); (intro _; walk_at "ev"); (intro _; walk_at "ev"))
  | ((with_reducible apply ev_chainI); (walk_at "ev"); (walk_at "ev"); (walk_at "ev"))
  | ((with_reducible apply ev_own); (walk_at "ea"); (intro _ _; walk_at "own"))
  | ((with_reducible apply ev_ddS); (walk_at "dp"); (exact Nat.le_of_ble_eq_true rfl); (walk_at "ev"); (exact rfl))
  | ((with_reducible apply ev_isiT); (walk_at "ev"); (walk_at "ea"); (walk_at "isiT"))
  | ((with_reducible apply ev_cb); (walk_at "ea"); (walk_at "rc")))
local macro_rules | `(tactic| walk_at "dp") => `(tactic| first
  | exact Paired.nil
  | ((with_reducible apply dp_cons); (exact ev_c); (walk_at "ev"); (walk_at "dp")))
local macro_rules | `(tactic| walk_at "ea") => `(tactic| first
  | exact ea_nil
  | ((with_reducible apply ea_cons); (walk_at "ev"); (walk_at "ea")))
local macro_rules | `(tactic| walk_at "et") => `(tactic| first
  | ((with_reducible apply et_test); (walk_at "ev"))
  | ((with_reducible apply et_B); (walk_at "ev"))
  | ((with_reducible apply et_not); (walk_at "et"))
  | ((with_reducible apply et_and); (walk_at "et"); (intro _; walk_at "et"))
  | ((with_reducible apply et_or); (walk_at "et"); (intro _; walk_at "et")))
local macro_rules | `(tactic| walk_at "rv") => `(tactic| first
  | exact rv_I0
  | exact rv_eq rfl
  | exact rv_ne rfl
  | exact rv_isT (by assumption) rfl rfl
  | exact rv_niT (by assumption) rfl rfl
  | exact rv_isL (by assumption) rfl rfl
  | exact rv_niL (by assumption) rfl rfl
  | exact rv_ixT (by assumption) rfl
  | exact rv_ixL (by assumption) rfl
  | exact rv_ixL (by assumption) (by assumption)
  | (apply rv_I; (walk_at "side")))
local macro_rules | `(tactic| walk_at "side") => `(tactic| first
  | assumption
  | (refine And.intro ?_ (And.intro ?_ ?_) <;> (try dsimp only) <;> first | omega | decide)
  | (dsimp only; omega)
  | omega)
local macro_rules | `(tactic| walk_at "rc") => `(tactic| first
  | exact rc_abs | exact rc_max2 | exact rc_min2 | exact rc_int | exact rc_intB
  | exact rc_isi_int (b := true) (by decide +kernel)
  | exact rc_isi_int (b := false) (by decide +kernel)
  | exact rc_isi_bl (b := true) (by decide +kernel)
  | exact rc_isi_bl (b := false) (by decide +kernel)
  | exact rc_isi_str (b := true) (by decide +kernel)
  | exact rc_isi_str (b := false) (by decide +kernel)
  | exact rc_isi_T (b := true) (by assumption) (by decide +kernel)
  | exact rc_isi_T (b := false) (by assumption) (by decide +kernel)
  | exact rc_lenT (by assumption)
  | exact rc_lenL (by assumption))
local macro_rules | `(tactic| walk_at "set") => `(tactic| ((with_reducible apply bl_set); (walk_at "ev")))
local macro_rules | `(tactic| walk_at "drop") => `(tactic| ((with_reducible apply bl_drop); (walk_at "ev")))
local macro_rules | `(tactic| walk_at "par") => `(tactic| ((with_reducible apply bl_par); (walk_at "ea")))
local macro_rules | `(tactic| walk_at "if") => `(tactic| ((with_reducible apply bl_when); (walk_at "et")))
local macro_rules | `(tactic| walk_at "no") => `(tactic| ((with_reducible apply bl_when); (walk_at "et"); (intro h; exact absurd (show false = true from h) (by decide)); (intro _)))
local macro_rules | `(tactic| walk_at "yes") => `(tactic| ((with_reducible apply bl_when); (walk_at "et"); rotate_left; (intro h; exact absurd (show true = false from h) (by decide)); (intro _)))
local macro_rules | `(tactic| walk_at "ret") => `(tactic| ((with_reducible apply bl_retE); rotate_left; assumption; rotate_right; (walk_at "ev")))
local macro_rules | `(tactic| walk_at "absurd") => `(tactic| first | exact absurd (show false = true from (by assumption)) (by decide) | exact absurd (show true = false from (by assumption)) (by decide))
local macro_rules | `(tactic| walk_at "rv") => `(tactic| first | exact rv_isN (s := []) | exact rv_notKD (by assumption) | exact rv_inKD (by assumption) | exact rv_ixKD (by assumption))
local macro_rules | `(tactic| walk_at "isiT") => `(tactic| ((exact Nat.le_of_ble_eq_true rfl); (exact .cons (.ty _) (.cons (.ty _) .nil)); (first | exact fun _ _ => .base (.int _) | exact fun _ _ => .base (.bl _) | exact fun _ _ => .base (.str _) | exact fun _ _ => .base .non); (exact kitAny_no (by decide +kernel) (by decide +kernel))))
local macro_rules | `(tactic| walk_at "rc") => `(tactic| first | exact rc_isi_non (b := true) (by decide +kernel) | exact rc_isi_non (b := false) (by decide +kernel))
local macro_rules | `(tactic| walk_at "eu") => `(tactic| first
  | ((with_reducible apply eu_own); (walk_at "ea"); (intro _ _; walk_at "own"))
  | ((with_reducible apply eu_tup); (walk_at "ea"); (exact Nat.le_of_ble_eq_true rfl)))
local macro_rules | `(tactic| walk_at "ev") => `(tactic| ((with_reducible apply ev_own1U); (walk_at "eu"); (walk_at "ea"); (intro _ _ _ _; walk_at "own1")))
local macro_rules | `(tactic| walk_at "isr") => `(tactic| first | with_reducible exact isr_r | with_reducible exact isr_i | ((with_reducible apply isr_if) <;> (walk_at "isr")))
local macro_rules | `(tactic| walk_at "osm") => `(tactic| first | with_reducible assumption | with_reducible exact osm_add | with_reducible exact osm_sub | with_reducible exact osm_mul | with_reducible exact osm_dvo | with_reducible exact osm_neg | with_reducible exact osm_rem | with_reducible exact osm_do | with_reducible exact osm_div | with_reducible exact osm_fit | ((with_reducible apply osm); assumption) | ((with_reducible apply osm); exact (show (0 : Int).natAbs < 2 ^ 70 by decide)) | ((with_reducible apply osm); exact (show (2 : Int).natAbs < 2 ^ 70 by decide)) | ((with_reducible apply osm_if) <;> (walk_at "osm")))
local macro_rules | `(tactic| walk_at "ev") => `(tactic| first
  | ((with_reducible apply ev_inLst); (walk_at "ev"); (walk_at "ea"); (exact Nat.le_of_ble_eq_true rfl); (exact rfl); (first | exact rfl | simp [flatV])))
local macro_rules | `(tactic| walk_at "rv") => `(tactic| first | exact rv_eq scal_rv | exact rv_ne scal_rv | exact rv_eq (scal_rv (y := some _)) | exact rv_ne (scal_rv (y := some _)) | exact rv_eq (scal_rv (y := none)) | exact rv_ne (scal_rv (y := none)))
local macro_rules | `(tactic| walk_at "nz") => `(tactic| first | with_reducible assumption | ((with_reducible apply nz_i); (first | assumption | decide)))
local macro_rules | `(tactic| walk_at "ev") => `(tactic| ((with_reducible apply ev_inU); (walk_at "ev"); (walk_at "eu"); (exact rfl); (exact rfl)))
local macro_rules | `(tactic| walk_at "eu") => `(tactic| ((with_reducible apply WB.eu_ifB); (walk_at "et"); (walk_at "eu"); (walk_at "eu")))
local macro_rules | `(tactic| walk_at "isr") => `(tactic| first | with_reducible exact isr_r | with_reducible exact isr_i | ((with_reducible apply isr_if) <;> (walk_at "isr")))
local macro_rules | `(tactic| walk_at "osm") => `(tactic| first | with_reducible assumption | with_reducible exact osm_do | with_reducible exact osm_div | with_reducible exact osm_fit | ((with_reducible apply osm); assumption) | ((with_reducible apply osm); exact (show (0 : Int).natAbs < 2 ^ 70 by decide)) | ((with_reducible apply osm); exact (show (2 : Int).natAbs < 2 ^ 70 by decide)) | ((with_reducible apply osm_if) <;> (walk_at "osm")))
local macro_rules | `(tactic| walk_at "ev") => `(tactic| first
  | ((with_reducible apply ev_inLst); (walk_at "ev"); (walk_at "ea"); (exact Nat.le_of_ble_eq_true rfl); (exact rfl); (first | exact rfl | simp [flatV]))
  | ((with_reducible apply ev_ownL); (walk_at "ea"); (exact Nat.le_of_ble_eq_true rfl); (intro _ _ _; walk_at "ownL")))
local macro_rules | `(tactic| walk_at "rv") => `(tactic| first | exact rv_eq scal_rv | exact rv_ne scal_rv | exact rv_eq (scal_rv (y := some _)) | exact rv_ne (scal_rv (y := some _)) | exact rv_eq (scal_rv (y := none)) | exact rv_ne (scal_rv (y := none)))
local macro_rules | `(tactic| walk_at "ownL") => `(tactic| first | ((with_reducible apply r__law_rises_2); assumption; (walk_at "isr"); (walk_at "isr")) | ((with_reducible apply r__law_rises_3); assumption; (walk_at "isr"); (walk_at "isr"); (walk_at "isr")))
section
variable {P : Program} {w : World} {K : PySem.W.Frag} {mg : Str → Option Value} {base : Heap}
def R__law_fits (K : PySem.W.Frag) : List V → Hp → V → Prop := fun vs H v => ∃ (p : Addr) (f : Fmt) (r : Rl) (l : Addr) (xs : List Int), vs = [.ref p, .str (rlS r), .ref l] ∧ (SqT K H p (fV f)) ∧ (SqL K H l (xs.map V.int)) ∧ (xs.length = r.ar) ∧ (∀ x ∈ xs, fits f x) ∧ v = .bl (ruleL f r xs)
theorem r__law_fits {K : PySem.W.Frag} {H : Hp} {p : Addr} {f : Fmt} {r : Rl} {l : Addr} {xs : List Int} (h0 : SqT K H p (fV f)) (h1 : SqL K H l (xs.map V.int)) (h2 : xs.length = r.ar) (h3 : ∀ x ∈ xs, fits f x) : R__law_fits K [.ref p, .str (rlS r), .ref l] H (.bl (ruleL f r xs)) := ⟨_, _, _, _, _, rfl, h0, h1, h2, h3, rfl⟩
theorem r__law_quotient_fl {K : PySem.W.Frag} {H : Hp} {a b : Int} (h1 : b ≠ 0) (h2 : Sm a) (h3 : Sm b) : R__law_quotient K [.str "floor", .int a, .int b] H (.int (quo .floor a b)) := ⟨.floor, a, b, rfl, h1, h2, h3, rfl⟩
local macro_rules | `(tactic| walk_at "own") => `(tactic| first
  | exact r__law_three (ex_t (by assumption) (by assumption)) (by assumption) (by assumption) (by assumption) (by assumption)
  | exact r__law_two (ex_t (by assumption) (by assumption)) (by assumption) (by assumption) (by assumption)
  | ((with_reducible apply r__law_do_Ga); (exact (ex_t (by assumption) (by assumption))); (walk_at "isr"); (walk_at "isr"); (walk_at "osm"); (walk_at "osm"))
  | ((with_reducible apply r__law_do_Gs); (exact (ex_t (by assumption) (by assumption))); (walk_at "isr"); (walk_at "isr"); (walk_at "osm"); (walk_at "osm"))
  | ((with_reducible apply r__law_do_Gm); (exact (ex_t (by assumption) (by assumption))); (walk_at "isr"); (walk_at "isr"); (walk_at "osm"); (walk_at "osm"))
  | ((with_reducible apply r__law_minus_G); (exact (ex_t (by assumption) (by assumption))); (walk_at "isr"); (walk_at "osm"))
  | ((with_reducible apply r__law_divide_G); (exact (ex_t (by assumption) (by assumption))); (walk_at "isr"); (walk_at "osm"); (first | assumption | exact (show (2 : Int).natAbs < 2 ^ 70 by decide)); (first | assumption | decide))
  | ((with_reducible apply r__law_quotient_fl); (first | assumption | decide); assumption; (first | assumption | exact (show (2 : Int).natAbs < 2 ^ 70 by decide))))
abbrev s__law_fits : Stmt := top 174
abbrev N__law_fits : List Str := ["form", "rule", "some", "a"]
theorem sc__law_fits : FnScope N__law_fits ["form", "rule", "some"] (defScope s__law_fits) := ⟨rfl, rfl, rfl, by decide +kernel, rfl, by decide +kernel, by decide +kernel⟩
theorem ok__law_fits (T : Txt w K mg) (D0 : DefAt K mg "_law_fits" s__law_fits) (c__law_divide : Cal P w K mg base CX0 3 "_law_divide" ["form", "a", "b"] (Pu (R__law_divide K))) (c__law_do : Cal P w K mg base CX0 3 "_law_do" ["form", "deed", "a", "b"] (Pu (R__law_do K))) (c__law_minus : Cal P w K mg base CX0 4 "_law_minus" ["form", "a"] (Pu (R__law_minus K))) (c__law_quotient : Cal P w K mg base CX0 2 "_law_quotient" ["division", "a", "b"] (Pu (R__law_quotient K))) (c__law_rises : Cal P w K mg base CX0 1 "_law_rises" ["some"] (Pu (R__law_rises K))) (c__law_three : Cal P w K mg base CX0 4 "_law_three" ["form", "rule", "a", "b", "c"] (Pu (R__law_three K))) (c__law_two : Cal P w K mg base CX0 5 "_law_two" ["form", "rule", "a", "b"] (Pu (R__law_two K)))  : Cal P w K mg base CX0 6 "_law_fits" ["form", "rule", "some"] (Pu (R__law_fits K)) := by
  refine D0.cal sc__law_fits (fun vs H Q E h => by obtain ⟨v, ⟨_, _, _, _, _, rfl, _⟩, _⟩ := h; rfl) (fun _ _ _ _ _ _ us hl => match us, hl with | [_, _, _], _ => rfl) (fun f cdv A outer s H vs Q E hr h => ?_)
  obtain ⟨v, ⟨p, f, r, l, xs, rfl, hf, hl, hn, hx, rfl⟩, k⟩ := h
  have hu := hu_of hr
  refine ⟨_, (pss_cons (ps_set (i := 3) sc__law_fits.nd rfl (Or.inl rfl) (pe_ix ix_list (pv 2) pe_int (fun _ _ => rfl)))
      (pss_cons (ps_if (pt_cmpR op_eq (pe_callB call_len_seq (by rfl) T.n_len (by decide +kernel) (pa_cons (pv 2) pa_nil)) pe_int (nomark _)) (pss_one (ps_ret (pe_own c__law_three (hr.mono (by decide)) rfl pass0 (pa_cons (pv 0) (pa_cons (pv 1) (pa_cons (pv 3) (pa_cons (pe_ix ix_list (pv 2) pe_int (fun _ _ => rfl)) (pa_cons (pe_ix ix_list (pv 2) pe_int (fun _ _ => rfl)) pa_nil)))))))) pss_nil)
      (pss_cons (ps_if (pt_cmpR op_eq (pe_callB call_len_seq (by rfl) T.n_len (by decide +kernel) (pa_cons (pv 2) pa_nil)) pe_int (nomark _)) (pss_one (ps_ret (pe_own c__law_two (hr.mono (by decide)) rfl pass0 (pa_cons (pv 0) (pa_cons (pv 1) (pa_cons (pv 3) (pa_cons (pe_ix ix_list (pv 2) pe_int (fun _ _ => rfl)) pa_nil))))))) pss_nil)
      (pss_cons (ps_if (pt_cmpR op_eq (pv 1) pe_str (nomark _)) (pss_one (ps_ret (pe_cmpR op_eq (pe_own c__law_minus (hr.mono (by decide)) rfl pass0 (pa_cons (pv 0) (pa_cons (pe_own c__law_minus (hr.mono (by decide)) rfl pass0 (pa_cons (pv 0) (pa_cons (pv 3) pa_nil))) pa_nil))) (pv 3) (nomark _)))) pss_nil)
      (pss_cons (ps_if (pt_cmpR op_eq (pv 1) pe_str (nomark _)) (pss_one (ps_ret (pe_cmpR op_eq (pe_own c__law_divide (hr.mono (by decide)) rfl pass0 (pa_cons (pv 0) (pa_cons (pv 3) (pa_cons pe_int pa_nil)))) (pe_own c__law_quotient (hr.mono (by decide)) rfl pass0 (pa_cons pe_str (pa_cons (pv 3) (pa_cons pe_int pa_nil)))) (nomark _)))) pss_nil)
      (pss_cons (ps_if (pt_cmpR op_eq (pv 1) pe_str (nomark _)) (pss_one (ps_ret (pe_own c__law_rises (hr.mono (by decide)) rfl pass0 (pa_cons (pe_lst (pa_cons pe_int (pa_cons (pe_ifExp (pt_cmpR op_ge (pv 3) pe_int (nomark _)) (pv 3) (pe_own c__law_minus (hr.mono (by decide)) rfl pass0 (pa_cons (pv 0) (pa_cons (pv 3) pa_nil)))) pa_nil))) pa_nil)))) pss_nil)
      (pss_one (ps_ret (pe_own c__law_rises (hr.mono (by decide)) rfl pass0 (pa_cons (pe_lst (pa_cons pe_int (pa_cons (pe_own c__law_do (hr.mono (by decide)) rfl pass0 (pa_cons (pv 0) (pa_cons pe_str (pa_cons (pv 3) (pa_cons (pv 3) pa_nil))))) pa_nil))) pa_nil)))))))))), bl_go ?_⟩
  rcases shape hn with ⟨a, b, c, rfl, h3⟩ | ⟨a, b, rfl, h3⟩ | ⟨a, rfl, h3⟩
  · have ha : fits f a := hx a (List.mem_cons_self ..)
    have hb : fits f b := hx b (List.mem_cons_of_mem _ (List.mem_cons_self ..))
    have hc : fits f c := hx c (List.mem_cons_of_mem _ (List.mem_cons_of_mem _ (List.mem_cons_self ..)))
    replace hl : SqL K H l [.int a, .int b, .int c] := hl
    clear hx hn
    walk_at "set"
    walk_at "yes"
    walk_at "ret"
    cases r <;> first | (cases h3; done) | rfl
  · have ha : fits f a := hx a (List.mem_cons_self ..)
    have hb : fits f b := hx b (List.mem_cons_of_mem _ (List.mem_cons_self ..))
    replace hl : SqL K H l [.int a, .int b] := hl
    clear hx hn
    walk_at "set"
    walk_at "no"
    walk_at "yes"
    walk_at "ret"
    cases r <;> first | (cases h3; done) | rfl
  · have ha : fits f a := hx a (List.mem_cons_self ..)
    have sa : Sm a := sm_fits ha
    have os : OSm (some a) := osm sa
    replace hl : SqL K H l [.int a] := hl
    clear hx hn
    refine bl_set (v := .int a) (by walk_at "ev") ?_
    walk_at "no"
    walk_at "no"
    cases r <;> first | (cases h3; done) | skip
    · walk_at "yes"
      walk_at "ret"
      show _ = V.bl (ruleB f .dneg a 0 0)
      simp only [ruleB, do_neg, dec_rvi]
    · walk_at "no"
      walk_at "yes"
      walk_at "ret"
      show _ = V.bl (ruleB f .shift a 0 0)
      simp only [ruleB, do_div, dec_rvi]
      try rfl
    · walk_at "no"
      walk_at "no"
      walk_at "yes"
      walk_at "ret"
      show _ = V.bl (ruleB f .absV a 0 0)
      simp only [ruleB, do_neg, rises2, decide_eq_true_eq]
      try rfl
    · walk_at "no"
      walk_at "no"
      walk_at "no"
      walk_at "ret"
      show _ = V.bl (ruleB f .squa a 0 0)
      simp only [ruleB, do_mul, rises2]
abbrev s__law_rules : Stmt := top 171
abbrev N__law_rules : List Str := ["some"]
theorem sc__law_rules : FnScope N__law_rules [] (defScope s__law_rules) := ⟨rfl, rfl, rfl, by decide +kernel, rfl, by decide +kernel, by decide +kernel⟩
theorem ok__law_rules (T : Txt w K mg) (D0 : DefAt K mg "_law_rules" s__law_rules)   : Cal P w K mg base CX0 1 "_law_rules" [] (PuL (fun vs _ xs => vs = [] ∧ xs = rlV)) := by
  refine D0.cal sc__law_rules (fun vs H Q E h => by obtain ⟨v, ⟨rfl, _⟩, _⟩ := h; rfl) (fun _ _ _ _ _ _ us hl => match us, hl with | [], _ => rfl) (fun f cdv A outer s H vs Q E hr h => ?_)
  obtain ⟨xs0, ⟨rfl, rfl⟩, k⟩ := h
  have hu := hu_of hr
  refine ⟨_, (pss_cons (ps_set (i := 0) sc__law_rules.nd rfl (Or.inl rfl) (pe_lst (pa_cons pe_str (pa_cons pe_str (pa_cons pe_str (pa_cons pe_str (pa_cons pe_str (pa_cons pe_str (pa_cons pe_str pa_nil)))))))))
      (pss_cons (ps_set (i := 0) sc__law_rules.nd rfl (Or.inl rfl) (pe_op op_cat (pv 0) (pe_lst (pa_cons pe_str (pa_cons pe_str (pa_cons pe_str (pa_cons pe_str (pa_cons pe_str (pa_cons pe_str pa_nil)))))))))
      (pss_one (ps_ret (pe_op op_cat (pv 0) (pe_lst (pa_cons pe_str (pa_cons pe_str (pa_cons pe_str (pa_cons pe_str pa_nil)))))))))), bl_go ?_⟩
  apply bl_setL
  · apply el_lst
    · walk_at "ea"
    · exact Nat.le_of_ble_eq_true rfl
  intro l1 H1 _ e1 hl1
  apply bl_setL
  · apply el_cat
    · rfl
    · exact hl1
    · walk_at "ea"
    · exact Nat.le_of_ble_eq_true rfl
    · exact Nat.le_of_ble_eq_true rfl
  intro l2 H2 hn2 e2 hl2
  intro H3 e3
  apply bl_go
  apply bl_retL
  · apply el_cat
    · rfl
    · exact e3 _ _ hl2
    · walk_at "ea"
    · exact Nat.le_of_ble_eq_true rfl
    · exact Nat.le_of_ble_eq_true rfl
  · exact fun q H4 hq e4 hx => k q H4 (fresh_back ((e1.trans e2).trans e3) hq) (((e1.trans e2).trans e3).trans e4) hx
end
end K1

set_option maxHeartbeats 4000000
namespace K1
open PySem PySem.Spec PyProof.Rows L2 Evl WM WL WLam WX WT WU StX LamX
local macro_rules | `(tactic| walk_at "ev") => `(tactic| first
  | exact ev_c
  | exact ev_var rfl
  | ((with_reducible apply ev_op); (walk_at "ev"); (walk_at "ev"); (walk_at "rv"))
  | ((with_reducible apply ev_un); (walk_at "ev"); exact ru_neg)
  | ((with_reducible apply ev_notV); (walk_at "ev"))
  | ((with_reducible apply ev_andV); (walk_at "ev"); (intro _; walk_at "ev"))
  | ((with_reducible apply ev_orV); (walk_at "ev"); (intro _; walk_at "ev"))
  | ((with_reducible apply ev_ifT); (walk_at "et"); (exact rfl); (walk_at "ev"))
  | ((with_reducible apply ev_ifF); (walk_at "et"); (exact rfl); (walk_at "ev"))
  | ((with_reducible apply ev_ifB); (walk_at "et"); (intro _; walk_at "ev"); (intro _; walk_at "ev"))
  | ((with_reducible apply ev_chainI); (walk_at "ev"); (walk_at "ev"); (walk_at "ev"))
  | ((with_reducible apply ev_own); (walk_at "ea"); (intro _ _; walk_at "own"))
  | ((with_reducible apply ev_ddS); (walk_at "dp"); (exact Nat.le_of_ble_eq_true rfl); (walk_at "ev"); (exact rfl))
  | ((with_reducible apply ev_isiT); (walk_at "ev"); (walk_at "ea"); (walk_at "isiT"))
  | ((with_reducible apply ev_cb); (walk_at "ea"); (walk_at "rc")))
local macro_rules | `(tactic| walk_at "dp") => `(tactic| first
  | exact Paired.nil
  | ((with_reducible apply dp_cons); (exact ev_c); (walk_at "ev"); (walk_at "dp")))
local macro_rules | `(tactic| walk_at "ea") => `(tactic| first
  | exact ea_nil
  | ((with_reducible apply ea_cons); (walk_at "ev"); (walk_at "ea")))
local macro_rules | `(tactic| walk_at "et") => `(tactic| first
  | ((with_reducible apply et_test); (walk_at "ev"))
  | ((with_reducible apply et_B); (walk_at "ev"))
  | ((with_reducible apply et_not); (walk_at "et"))
  | ((with_reducible apply et_and); (walk_at "et"); (intro _; walk_at "et"))
  | ((with_reducible apply et_or); (walk_at "et"); (intro _; walk_at "et")))
local macro_rules | `(tactic| walk_at "rv") => `(tactic| first
  | exact rv_I0
  | exact rv_eq rfl
  | exact rv_ne rfl
  | exact rv_isT (by assumption) rfl rfl
  | exact rv_niT (by assumption) rfl rfl
  | exact rv_isL (by assumption) rfl rfl
  | exact rv_niL (by assumption) rfl rfl
  | exact rv_ixT (by assumption) rfl
  | exact rv_ixL (by assumption) rfl
  | exact rv_ixL (by assumption) (by assumption)
  | (apply rv_I; (walk_at "side")))
local macro_rules | `(tactic| walk_at "side") => `(tactic| first
  | assumption
  | (refine And.intro ?_ (And.intro ?_ ?_) <;> (try dsimp only) <;> first | omega | decide)
  | (dsimp only; omega)
  | omega)
local macro_rules | `(tactic| walk_at "rc") => `(tactic| first
  | exact rc_abs | exact rc_max2 | exact rc_min2 | exact rc_int | exact rc_intB
  | exact rc_isi_int (b := true) (by decide +kernel)
  | exact rc_isi_int (b := false) (by decide +kernel)
  | exact rc_isi_bl (b := true) (by decide +kernel)
  | exact rc_isi_bl (b := false) (by decide +kernel)
  | exact rc_isi_str (b := true) (by decide +kernel)
  | exact rc_isi_str (b := false) (by decide +kernel)
  | exact rc_isi_T (b := true) (by assumption) (by decide +kernel)
  | exact rc_isi_T (b := false) (by assumption) (by decide +kernel)
  | exact rc_lenT (by assumption)
  | exact rc_lenL (by assumption))
local macro_rules | `(tactic| walk_at "set") => `(tactic| ((with_reducible apply bl_set); (walk_at "ev")))
local macro_rules | `(tactic| walk_at "drop") => `(tactic| ((with_reducible apply bl_drop); (walk_at "ev")))
local macro_rules | `(tactic| walk_at "par") => `(tactic| ((with_reducible apply bl_par); (walk_at "ea")))
local macro_rules | `(tactic| walk_at "if") => `(tactic| ((with_reducible apply bl_when); (walk_at "et")))
local macro_rules | `(tactic| walk_at "no") => `(tactic| ((with_reducible apply bl_when); (walk_at "et"); (intro h; exact absurd (show false = true from h) (by decide)); (intro _)))
local macro_rules | `(tactic| walk_at "yes") => `(tactic| ((with_reducible apply bl_when); (walk_at "et"); rotate_left; (intro h; exact absurd (show true = false from h) (by decide)); (intro _)))
local macro_rules | `(tactic| walk_at "ret") => `(tactic| ((with_reducible apply bl_retE); rotate_left; assumption; rotate_right; (walk_at "ev")))
local macro_rules | `(tactic| walk_at "absurd") => `(tactic| first | exact absurd (show false = true from (by assumption)) (by decide) | exact absurd (show true = false from (by assumption)) (by decide))
local macro_rules | `(tactic| walk_at "rv") => `(tactic| first | exact rv_isN (s := []) | exact rv_notKD (by assumption) | exact rv_inKD (by assumption) | exact rv_ixKD (by assumption))
local macro_rules | `(tactic| walk_at "isiT") => `(tactic| ((exact Nat.le_of_ble_eq_true rfl); (exact .cons (.ty _) (.cons (.ty _) .nil)); (first | exact fun _ _ => .base (.int _) | exact fun _ _ => .base (.bl _) | exact fun _ _ => .base (.str _) | exact fun _ _ => .base .non); (exact kitAny_no (by decide +kernel) (by decide +kernel))))
local macro_rules | `(tactic| walk_at "rc") => `(tactic| first | exact rc_isi_non (b := true) (by decide +kernel) | exact rc_isi_non (b := false) (by decide +kernel))
local macro_rules | `(tactic| walk_at "eu") => `(tactic| first
  | ((with_reducible apply eu_own); (walk_at "ea"); (intro _ _; walk_at "own"))
  | ((with_reducible apply eu_tup); (walk_at "ea"); (exact Nat.le_of_ble_eq_true rfl)))
local macro_rules | `(tactic| walk_at "ev") => `(tactic| ((with_reducible apply ev_own1U); (walk_at "eu"); (walk_at "ea"); (intro _ _ _ _; walk_at "own1")))
local macro_rules | `(tactic| walk_at "isr") => `(tactic| first | with_reducible exact isr_r | with_reducible exact isr_i | ((with_reducible apply isr_if) <;> (walk_at "isr")))
local macro_rules | `(tactic| walk_at "osm") => `(tactic| first | with_reducible assumption | with_reducible exact osm_add | with_reducible exact osm_sub | with_reducible exact osm_mul | with_reducible exact osm_dvo | with_reducible exact osm_neg | with_reducible exact osm_rem | with_reducible exact osm_do | with_reducible exact osm_div | with_reducible exact osm_fit | ((with_reducible apply osm); assumption) | ((with_reducible apply osm); exact (show (0 : Int).natAbs < 2 ^ 70 by decide)) | ((with_reducible apply osm); exact (show (2 : Int).natAbs < 2 ^ 70 by decide)) | ((with_reducible apply osm_if) <;> (walk_at "osm")))
local macro_rules | `(tactic| walk_at "ev") => `(tactic| first
  | ((with_reducible apply ev_inLst); (walk_at "ev"); (walk_at "ea"); (exact Nat.le_of_ble_eq_true rfl); (exact rfl); (first | exact rfl | simp [flatV])))
local macro_rules | `(tactic| walk_at "rv") => `(tactic| first | exact rv_eq scal_rv | exact rv_ne scal_rv | exact rv_eq (scal_rv (y := some _)) | exact rv_ne (scal_rv (y := some _)) | exact rv_eq (scal_rv (y := none)) | exact rv_ne (scal_rv (y := none)))
local macro_rules | `(tactic| walk_at "nz") => `(tactic| first | with_reducible assumption | ((with_reducible apply nz_i); (first | assumption | decide)))
local macro_rules | `(tactic| walk_at "ev") => `(tactic| ((with_reducible apply ev_inU); (walk_at "ev"); (walk_at "eu"); (exact rfl); (exact rfl)))
local macro_rules | `(tactic| walk_at "eu") => `(tactic| ((with_reducible apply WB.eu_ifB); (walk_at "et"); (walk_at "eu"); (walk_at "eu")))
section
variable {P : Program} {w : World} {K : PySem.W.Frag} {mg : Str → Option Value} {base : Heap}
def R__law_alike (K : PySem.W.Frag) : List V → Hp → V → Prop := fun vs H v => ∃ (u : V), vs = [u, u] ∧ (flatV u = true) ∧ v = .bl true
theorem r__law_alike {K : PySem.W.Frag} {H : Hp} {u : V} (h0 : flatV u = true) : R__law_alike K [u, u] H (.bl true) := ⟨_, rfl, h0, rfl⟩
abbrev s__law_alike : Stmt := top 159
abbrev N__law_alike : List Str := ["found", "due", "k"]
theorem sc__law_alike : FnScope N__law_alike ["found", "due"] (defScope s__law_alike) := ⟨rfl, rfl, rfl, by decide +kernel, rfl, by decide +kernel, by decide +kernel⟩
theorem ok__law_alike (T : Txt w K mg) (D0 : DefAt K mg "_law_alike" s__law_alike)   : Cal P w K mg base CX0 1 "_law_alike" ["found", "due"] (Pu (R__law_alike K)) := by
  refine D0.cal sc__law_alike (fun vs H Q E h => by obtain ⟨v, ⟨_, rfl, _⟩, _⟩ := h; rfl) (fun _ _ _ _ _ _ us hl => match us, hl with | [_, _], _ => rfl) (fun f cdv A outer s H vs Q E hr h => ?_)
  obtain ⟨v0, ⟨u, rfl, hv, rfl⟩, k⟩ := h
  have hu := hu_of hr
  refine ⟨_, (pss_cons (ps_if (pt_val (pe_callB call_isiT (by rfl) T.n_isinstance (by decide +kernel) (pa_cons (pv 1) (pa_cons (pe_tup (pa_cons (pe_bltn (v := .ty "tuple") (by rfl) T.n_tuple (by decide +kernel) rfl) (pa_cons (pe_bltn (v := .ty "list") (by rfl) T.n_list (by decide +kernel) rfl) pa_nil))) pa_nil)))) pss_never pss_nil)
      (pss_cons (ps_if (PW.pt (pw_or (pt_cmpR op_isN (pv 1) pe_non (nomark _)) (pw_or1 (pt_val (pe_callB call_isi (by rfl) T.n_isinstance (by decide +kernel) (pa_cons (pv 1) (pa_cons (pe_bltn (v := .ty "str") (by rfl) T.n_str (by decide +kernel) rfl) pa_nil))))))) (pss_one (ps_ret (pe_and (pe_cmpR op_eq (pv 0) (pv 1) (nomark _)) (pe_one (pe_cmpR op_eq (pe_callB call_isi (by rfl) T.n_isinstance (by decide +kernel) (pa_cons (pv 0) (pa_cons (pe_bltn (v := .ty "str") (by rfl) T.n_str (by decide +kernel) rfl) pa_nil))) (pe_callB call_isi (by rfl) T.n_isinstance (by decide +kernel) (pa_cons (pv 1) (pa_cons (pe_bltn (v := .ty "str") (by rfl) T.n_str (by decide +kernel) rfl) pa_nil))) (nomark _)))))) pss_nil)
      (pss_one (ps_ret (pe_and (pe_callB call_isi (by rfl) T.n_isinstance (by decide +kernel) (pa_cons (pv 0) (pa_cons (pe_bltn (v := .ty "int") (by rfl) T.n_int (by decide +kernel) rfl) pa_nil))) (pe_and (pe_cmpR op_eq (pe_callB call_isi (by rfl) T.n_isinstance (by decide +kernel) (pa_cons (pv 0) (pa_cons (pe_bltn (v := .ty "bool") (by rfl) T.n_bool (by decide +kernel) rfl) pa_nil))) (pe_callB call_isi (by rfl) T.n_isinstance (by decide +kernel) (pa_cons (pv 1) (pa_cons (pe_bltn (v := .ty "bool") (by rfl) T.n_bool (by decide +kernel) rfl) pa_nil))) (nomark _)) (pe_one (pe_cmpR op_eq (pv 0) (pv 1) (nomark _))))))))), bl_go ?_⟩
  cases u with
  | non =>
    walk_at "no"
    walk_at "yes"
    walk_at "ret"
    rfl
  | bl b =>
    walk_at "no"
    walk_at "no"
    walk_at "ret"
    simp
  | int i =>
    walk_at "no"
    walk_at "no"
    walk_at "ret"
    simp
  | str z =>
    walk_at "no"
    walk_at "yes"
    walk_at "ret"
    simp
  | _ => cases hv
def R__law_prime (K : PySem.W.Frag) : List V → Hp → V → Prop := fun vs H v => ∃ (n : Nat), vs = [.int (n : Int)] ∧ v = .bl (WP.mers n)
theorem r__law_prime {K : PySem.W.Frag} {H : Hp} {n : Nat}  : R__law_prime K [.int (n : Int)] H (.bl (WP.mers n)) := ⟨_, rfl, rfl⟩
theorem in_mers (n : Nat) : inV (.int (n : Int)) [.int 2, .int 3, .int 5, .int 7, .int 13, .int 17, .int 19, .int 31, .int 61] = WP.mers n := by
  have e : ∀ k : Nat, eqV (.int (k : Int)) (.int (n : Int)) = (n == k) := fun k => by
    show ((k : Int) == (n : Int)) = (n == k)
    by_cases h : n = k
    · subst h; rw [beq_self_eq_true, beq_self_eq_true]
    · have : ¬ (k : Int) = (n : Int) := fun z => h (by omega)
      rw [beq_eq_false_iff_ne.mpr this, beq_eq_false_iff_ne.mpr h]
  unfold WP.mers inV
  show (eqV (.int 2) (.int (n : Int)) || (eqV (.int 3) (.int (n : Int)) || (eqV (.int 5) (.int (n : Int)) || (eqV (.int 7) (.int (n : Int)) || (eqV (.int 13) (.int (n : Int)) || (eqV (.int 17) (.int (n : Int)) || (eqV (.int 19) (.int (n : Int)) || (eqV (.int 31) (.int (n : Int)) || (eqV (.int 61) (.int (n : Int)) || false))))))))) = _
  rw [show eqV (.int 2) (.int (n : Int)) = (n == 2) from e 2, show eqV (.int 3) (.int (n : Int)) = (n == 3) from e 3, show eqV (.int 5) (.int (n : Int)) = (n == 5) from e 5, show eqV (.int 7) (.int (n : Int)) = (n == 7) from e 7, show eqV (.int 13) (.int (n : Int)) = (n == 13) from e 13, show eqV (.int 17) (.int (n : Int)) = (n == 17) from e 17, show eqV (.int 19) (.int (n : Int)) = (n == 19) from e 19, show eqV (.int 31) (.int (n : Int)) = (n == 31) from e 31, show eqV (.int 61) (.int (n : Int)) = (n == 61) from e 61]
  rfl
abbrev s__law_prime : Stmt := top 175
abbrev N__law_prime : List Str := ["w"]
theorem sc__law_prime : FnScope N__law_prime ["w"] (defScope s__law_prime) := ⟨rfl, rfl, rfl, by decide +kernel, rfl, by decide +kernel, by decide +kernel⟩
theorem ok__law_prime (T : Txt w K mg) (D0 : DefAt K mg "_law_prime" s__law_prime)   : Cal P w K mg base CX0 1 "_law_prime" ["w"] (Pu (R__law_prime K)) := by
  refine D0.cal sc__law_prime (fun vs H Q E h => by obtain ⟨v, ⟨_, rfl, _⟩, _⟩ := h; rfl) (fun _ _ _ _ _ _ us hl => match us, hl with | [_], _ => rfl) (fun f cdv A outer s H vs Q E hr h => ?_)
  obtain ⟨v, ⟨n, rfl, rfl⟩, k⟩ := h
  have hu := hu_of hr
  refine ⟨_, (pss_one (ps_ret (pe_cmpR op_in_seq (pv 0) (pe_lst (pa_cons pe_int (pa_cons pe_int (pa_cons pe_int (pa_cons pe_int (pa_cons pe_int (pa_cons pe_int (pa_cons pe_int (pa_cons pe_int (pa_cons pe_int pa_nil)))))))))) (by rfl)))), bl_go ?_⟩
  walk_at "ret"
  rw [in_mers]
def R__law_holds (K : PySem.W.Frag) : List V → Hp → V → Prop := fun vs H v => ∃ (p : Addr) (f : Fmt) (r : Rl), vs = [.ref p, .str (rlS r)] ∧ (SqT K H p (fV f)) ∧ v = .bl (holdsB f r)
theorem r__law_holds {K : PySem.W.Frag} {H : Hp} {p : Addr} {f : Fmt} {r : Rl} (h0 : SqT K H p (fV f)) : R__law_holds K [.ref p, .str (rlS r)] H (.bl (holdsB f r)) := ⟨_, _, _, rfl, h0, rfl⟩
local macro_rules | `(tactic| walk_at "own") => `(tactic| first
  | exact r_is_whole (by first | assumption | exact .int _ | exact Wh.ex (by assumption) (by assumption))
  | exact r_are_choices 
  | exact r_is_format (ex_t (by assumption) (by assumption))
  | exact r_check_format (ex_t (by assumption) (by assumption))
  | exact r_ends (ex_t (by assumption) (by assumption))
  | exact r_lowest (ex_t (by assumption) (by assumption))
  | exact r_highest (ex_t (by assumption) (by assumption))
  | exact r_terms_of (ex_t (by assumption) (by assumption))
  | exact r_fitted (ex_t (by assumption) (by assumption))
  | exact r__quotient_to_zero (by assumption) (by assumption) (by assumption)
  | exact r__quotient_to_even (by assumption) (by assumption) (by assumption)
  | exact r__quotient_of_euclid (by assumption) (by assumption) (by assumption)
  | exact r__exact_quotient (by assumption) (by assumption) (by assumption)
  | ((with_reducible apply r_plus_G); (exact (ex_t (by assumption) (by assumption))); (walk_at "isr"); (walk_at "isr"))
  | ((with_reducible apply r_minus_G); (exact (ex_t (by assumption) (by assumption))); (walk_at "isr"); (walk_at "isr"))
  | ((with_reducible apply r_times_G); (exact (ex_t (by assumption) (by assumption))); (walk_at "isr"); (walk_at "isr"); (walk_at "osm"); (walk_at "osm"))
  | ((with_reducible apply r_quotient_G); (exact (ex_t (by assumption) (by assumption))); (walk_at "isr"); (walk_at "isr"); (walk_at "osm"); (walk_at "osm"); (walk_at "nz"))
  | ((with_reducible apply r_opposite_G); (exact (ex_t (by assumption) (by assumption))); (walk_at "isr"))
  | exact r_rest (ex_t (by assumption) (by assumption)) (by assumption) (by assumption) (by assumption)
  | ((with_reducible apply r__at_most_G); (walk_at "isr"); (walk_at "isr"))
  | ((with_reducible apply r__below_G); (walk_at "isr"); (walk_at "isr"))
  | exact r_sum_grouping_rules (ex_t (by assumption) (by assumption)) (by assumption) (by assumption) (by assumption)
  | exact r_product_grouping_rules (ex_t (by assumption) (by assumption)) (by assumption) (by assumption) (by assumption)
  | exact r_distribution_rules (ex_t (by assumption) (by assumption)) (by assumption) (by assumption) (by assumption)
  | exact r_double_negation_rules (ex_t (by assumption) (by assumption)) (by assumption)
  | exact r_difference_rules (ex_t (by assumption) (by assumption)) (by assumption) (by assumption)
  | exact r_add_back_rules (ex_t (by assumption) (by assumption)) (by assumption) (by assumption)
  | exact r_division_rules (ex_t (by assumption) (by assumption)) (by assumption) (by assumption)
  | exact r_remainder_range_rules (ex_t (by assumption) (by assumption)) (by assumption) (by assumption)
  | exact r_negated_quotient_rules (ex_t (by assumption) (by assumption)) (by assumption) (by assumption)
  | exact r_shift_rules (ex_t (by assumption) (by assumption)) (by assumption)
  | exact r_absolute_value_rules (ex_t (by assumption) (by assumption)) (by assumption)
  | exact r_order_by_difference_rules (ex_t (by assumption) (by assumption)) (by assumption) (by assumption)
  | exact r_monotone_sum_rules (ex_t (by assumption) (by assumption)) (by assumption) (by assumption) (by assumption)
  | exact r_average_rules (ex_t (by assumption) (by assumption)) (by assumption) (by assumption)
  | exact r_square_rules (ex_t (by assumption) (by assumption)) (by assumption)
  | exact r_zero_product_rules (ex_t (by assumption) (by assumption)) (by assumption) (by assumption)
  | exact r_cancellation_rules (ex_t (by assumption) (by assumption)) (by assumption) (by assumption) (by assumption)
  | exact r_is_rule 
  | exact r_check_rule 
  | exact r__check_numbers (ex_t (by assumption) (by assumption)) (ex_t (by assumption) (by assumption)) (by assumption) (by assumption) (by assumption)
  | exact r_holds_for (ex_t (by assumption) (by assumption)) (ex_t (by assumption) (by assumption)) (by assumption) (by assumption)
  | exact r__check_exponent (by assumption) (by assumption)
  | exact r__passes_lucas_lehmer (by assumption) (by assumption) (by assumption)
  | exact r_is_mersenne (by assumption) (by assumption)
  | exact r_least_factor (by assumption) (by assumption)
  | exact r_sum_grouping_conditions 
  | exact r_product_grouping_conditions 
  | exact r_distribution_conditions 
  | exact r__negatives 
  | exact r_add_back_conditions 
  | exact r_division_conditions 
  | exact r_remainder_range_conditions 
  | exact r_negated_quotient_conditions 
  | exact r_shift_conditions 
  | exact r_absolute_value_conditions 
  | exact r_order_by_difference_conditions 
  | exact r_monotone_sum_conditions 
  | exact r_average_conditions 
  | exact r_square_conditions 
  | exact r_zero_product_conditions 
  | exact r_cancellation_conditions 
  | exact r_meets_condition (ex_t (by assumption) (by assumption))
  | exact r_holds (ex_t (by assumption) (by assumption))
  | exact r__half (ex_t (by assumption) (by assumption))
  | exact r__whole (ex_t (by assumption) (by assumption))
  | exact r__factors (ex_t (by assumption) (by assumption))
  | exact r_sum_grouping_breaches (ex_t (by assumption) (by assumption))
  | exact r_product_grouping_breaches (ex_t (by assumption) (by assumption))
  | exact r_distribution_breaches (ex_t (by assumption) (by assumption))
  | exact r_double_negation_breaches (ex_t (by assumption) (by assumption))
  | exact r_difference_breaches (ex_t (by assumption) (by assumption))
  | exact r__lowest_and_one (ex_t (by assumption) (by assumption))
  | exact r_division_breaches (ex_t (by assumption) (by assumption))
  | exact r_remainder_range_breaches (ex_t (by assumption) (by assumption)) (by assumption)
  | exact r_negated_quotient_breaches (ex_t (by assumption) (by assumption))
  | exact r_shift_breaches (ex_t (by assumption) (by assumption)) (by assumption)
  | exact r_absolute_value_breaches (ex_t (by assumption) (by assumption))
  | exact r_monotone_sum_breaches (ex_t (by assumption) (by assumption))
  | exact r_square_breaches (ex_t (by assumption) (by assumption))
  | exact r_zero_product_breaches (ex_t (by assumption) (by assumption))
  | exact r_cancellation_breaches (ex_t (by assumption) (by assumption))
  | exact r_breach (ex_t (by assumption) (by assumption)) (by assumption)
  | exact r_counterexample (ex_t (by assumption) (by assumption)) (by assumption)
  | exact r__law_low (ex_t (by assumption) (by assumption))
  | exact r__law_high (ex_t (by assumption) (by assumption))
  | exact r__law_fit (ex_t (by assumption) (by assumption)) (by assumption)
  | exact r__law_size (by assumption) (by assumption) (by assumption)
  | exact r__law_rest (ex_t (by assumption) (by assumption)) (by assumption) (by assumption) (by assumption)
  | exact r__law_rises (ex_l (by assumption) (by assumption)) (by assumption)
  | exact r__law_three (ex_t (by assumption) (by assumption)) (by assumption) (by assumption) (by assumption) (by assumption)
  | exact r__law_two (ex_t (by assumption) (by assumption)) (by assumption) (by assumption) (by assumption)
  | ((with_reducible apply r__law_do_Ga); (exact (ex_t (by assumption) (by assumption))); (walk_at "isr"); (walk_at "isr"); (walk_at "osm"); (walk_at "osm"))
  | ((with_reducible apply r__law_do_Gs); (exact (ex_t (by assumption) (by assumption))); (walk_at "isr"); (walk_at "isr"); (walk_at "osm"); (walk_at "osm"))
  | ((with_reducible apply r__law_do_Gm); (exact (ex_t (by assumption) (by assumption))); (walk_at "isr"); (walk_at "isr"); (walk_at "osm"); (walk_at "osm"))
  | ((with_reducible apply r__law_minus_G); (exact (ex_t (by assumption) (by assumption))); (walk_at "isr"); (walk_at "osm"))
  | ((with_reducible apply r__law_divide_G); (exact (ex_t (by assumption) (by assumption))); (walk_at "isr"); (walk_at "osm"); (first | assumption | exact (show (2 : Int).natAbs < 2 ^ 70 by decide)); (first | assumption | decide))
  | exact r__law_fits (ex_t (by assumption) (by assumption)) (ex_l (by assumption) (by assumption)) (by assumption) (by assumption)
  | ((with_reducible apply r__law_quotient_fl); (first | assumption | decide); assumption; (first | assumption | exact (show (2 : Int).natAbs < 2 ^ 70 by decide)))
  | exact r__law_alike (by assumption)
  | exact r__law_prime 
  | exact r__law_holds (ex_t (by assumption) (by assumption)))
abbrev s__law_holds : Stmt := top 176
abbrev N__law_holds : List Str := ["form", "rule", "w", "signs", "overflow", "division", "plain", "even", "wrap", "full", "found"]
theorem sc__law_holds : FnScope N__law_holds ["form", "rule"] (defScope s__law_holds) := ⟨rfl, rfl, rfl, by decide +kernel, rfl, by decide +kernel, by decide +kernel⟩
theorem ok__law_holds (T : Txt w K mg) (D0 : DefAt K mg "_law_holds" s__law_holds) (c__law_prime : Cal P w K mg base CX0 1 "_law_prime" ["w"] (Pu (R__law_prime K)))  : Cal P w K mg base CX0 2 "_law_holds" ["form", "rule"] (Pu (R__law_holds K)) := by
  refine D0.cal sc__law_holds (fun vs H Q E h => by obtain ⟨v, ⟨_, _, _, rfl, _⟩, _⟩ := h; rfl) (fun _ _ _ _ _ _ us hl => match us, hl with | [_, _], _ => rfl) (fun f cdv A outer s H vs Q E hr h => ?_)
  obtain ⟨v, ⟨p, ⟨w0, sg, ov, dv, h4, h64⟩, r, rfl, hf, rfl⟩, k⟩ := h
  have hu := hu_of hr
  refine ⟨_, (pss_cons (ps_asg (pv 0) (pg_tup (by rfl) (pgs_cons (pg_name (i := 2) sc__law_holds.nd rfl (Or.inl rfl)) (pgs_cons (pg_name (i := 3) sc__law_holds.nd rfl (Or.inl rfl)) (pgs_cons (pg_name (i := 4) sc__law_holds.nd rfl (Or.inl rfl)) (pgs_cons (pg_name (i := 5) sc__law_holds.nd rfl (Or.inl rfl)) pgs_nil))))))
      (pss_cons (ps_asg (pe_tup (pa_cons (pe_cmpR op_eq (pv 3) pe_str (nomark _)) (pa_cons (pe_cmpR op_eq (pv 3) pe_str (nomark _)) (pa_cons (pe_cmpR op_eq (pv 4) pe_str (nomark _)) (pa_cons (pe_cmpR op_eq (pv 4) pe_str (nomark _)) pa_nil))))) (pg_tup (by rfl) (pgs_cons (pg_name (i := 6) sc__law_holds.nd rfl (Or.inl rfl)) (pgs_cons (pg_name (i := 7) sc__law_holds.nd rfl (Or.inl rfl)) (pgs_cons (pg_name (i := 8) sc__law_holds.nd rfl (Or.inl rfl)) (pgs_cons (pg_name (i := 9) sc__law_holds.nd rfl (Or.inl rfl)) pgs_nil))))))
      (pss_cons (ps_set (i := 10) sc__law_holds.nd rfl (Or.inl rfl) (pe_disp (pps_cons pe_str (pe_or (pv 8) (pe_one (pv 6))) (pps_cons pe_str (pe_or (pv 8) (pe_one (pe_and (pv 9) (pe_one (pe_cmpR op_ne (pv 3) pe_str (nomark _)))))) pps_nil)) (by rfl) (by rfl) (fun z => by cases z) (by decide)))
      (pss_cons (ps_asg (pe_tup (pa_cons (pe_or (pv 8) (pe_one (pe_and (pv 9) (pe_one (pv 6))))) (pa_cons (pe_or (pv 7) (pe_one (pv 8))) (pa_cons (pe_or (pv 7) (pe_one (pv 8))) pa_nil)))) (pg_tup (by rfl) (pgs_cons (pg_sub (pv 10) pe_str (L2.set_dict hu)) (pgs_cons (pg_sub (pv 10) pe_str (L2.set_dict hu)) (pgs_cons (pg_sub (pv 10) pe_str (L2.set_dict hu)) pgs_nil)))))
      (pss_cons (ps_asg (pe_tup (pa_cons (pv 8) (pa_cons (pv 9) (pa_cons (pe_or (pv 6) (pe_one (pv 9))) pa_nil)))) (pg_tup (by rfl) (pgs_cons (pg_sub (pv 10) pe_str (L2.set_dict hu)) (pgs_cons (pg_sub (pv 10) pe_str (L2.set_dict hu)) (pgs_cons (pg_sub (pv 10) pe_str (L2.set_dict hu)) pgs_nil)))))
      (pss_cons (ps_dput hu (pv 10) pe_str (pe_or (pv 8) (pe_or (pe_and (pv 7) (pe_one (pe_cmpR op_eq (pv 5) pe_str (nomark _)))) (pe_one (pe_and (pv 6) (pe_one (pe_cmpR op_in_seq (pv 5) (pe_lst (pa_cons pe_str (pa_cons pe_str (pa_cons pe_str pa_nil)))) (by rfl))))))) rfl)
      (pss_cons (ps_dput hu (pv 10) pe_str (pe_or (pe_cmpR op_eq (pv 5) pe_str (nomark _)) (pe_one (pe_and (pv 6) (pe_one (pe_or (pe_cmpR op_in_seq (pv 5) (pe_lst (pa_cons pe_str (pa_cons pe_str pa_nil))) (by rfl)) (pe_one (pv 9))))))) rfl)
      (pss_cons (ps_dput hu (pv 10) pe_str (pe_or (pe_and (pv 7) (pe_one (pe_cmpR op_in_seq (pv 5) (pe_lst (pa_cons pe_str (pa_cons pe_str pa_nil))) (by rfl)))) (pe_one (pe_and (pv 6) (pe_one (pe_or (pv 9) (pe_one (pe_and (pe_cmpR op_eq (pv 4) pe_str (nomark _)) (pe_one (pe_cmpR op_eq (pv 5) pe_str (nomark _)))))))))) rfl)
      (pss_cons (ps_dput hu (pv 10) pe_str (pe_or (pe_cmpR op_in_seq (pv 5) (pe_lst (pa_cons pe_str (pa_cons pe_str pa_nil))) (by rfl)) (pe_one (pe_and (pv 6) (pe_one (pe_cmpR op_eq (pv 5) pe_str (nomark _)))))) rfl)
      (pss_cons (ps_asg (pe_tup (pa_cons (pe_or (pe_cmpR op_ne (pv 3) pe_str (nomark _)) (pe_one (pv 9))) (pa_cons (pe_and (pv 9) (pe_one (pe_not (pv 6)))) pa_nil))) (pg_tup (by rfl) (pgs_cons (pg_sub (pv 10) pe_str (L2.set_dict hu)) (pgs_cons (pg_sub (pv 10) pe_str (L2.set_dict hu)) pgs_nil))))
      (pss_cons (ps_dput hu (pv 10) pe_str (pe_or (pv 9) (pe_one (pe_and (pv 6) (pe_one (pv 8))))) rfl)
      (pss_cons (ps_dput hu (pv 10) pe_str (pe_or (pe_not (pv 8)) (pe_one (pe_and (pv 7) (pe_one (pe_own c__law_prime (hr.mono (by decide)) rfl pass0 (pa_cons (pv 2) pa_nil)))))) rfl)
      (pss_cons (ps_dput hu (pv 10) pe_str (pe_and (pv 8) (pe_and (pv 7) (pe_one (pe_own c__law_prime (hr.mono (by decide)) rfl pass0 (pa_cons (pv 2) pa_nil))))) rfl)
      (pss_one (ps_ret (pe_dget hu (pv 10) (pv 1) (fun _ _ => rfl))))))))))))))))), bl_go ?_⟩
  apply bl_unp4 (hx := hf)
  · walk_at "ev"
  · rfl
  apply bl_asgU
  · apply eu_tup
    · walk_at "ea"
    · exact Nat.le_of_ble_eq_true rfl
  intro q H1 hq e1 hx1
  refine ⟨q, _, rfl, st_of hx1, rfl, _, _, rfl, _, _, rfl, _, _, rfl, _, _, rfl, rfl, ?_⟩
  apply bl_go
  apply bl_setD
  · apply ed_disp
    · walk_at "dp"
    · exact Nat.le_of_ble_eq_true rfl
  intro d H2 hd e2 hx2
  have dn : H d = none := fresh_back e1 hd
  have F0 := Fil.start (H := H) (d := d) (H1 := H2) (ks := ["sum grouping", "product grouping"]) (vs := [_, _]) (e1.trans e2) hx2 (Nat.le_of_ble_eq_true rfl) (fun p hp => by
    rcases List.mem_cons.mp hp with rfl | hp
    · rfl
    · rw [List.mem_singleton.mp hp]; rfl)
  change Bl _ _ ([some (.ref p), some (.str (rlS r)), some (.int (w0 : Int)), some (.str (sgS sg)), some (.str (ovS ov)), some (.str (dvS dv)), some (.bl (decide (V.str (sgS sg) = V.str "unsigned"))), some (.bl (decide (V.str (sgS sg) = V.str "symmetric"))), some (.bl (decide (V.str (ovS ov) = V.str "wrap"))), some (.bl (decide (V.str (ovS ov) = V.str "saturate"))), some (.ref d)] : L2.St) _
  refine bl_fput3 F0 dn rfl (eu_tup (by walk_at "ea") (Nat.le_of_ble_eq_true rfl)) (by decide +kernel) (by decide +kernel) (by decide +kernel) (Nat.lt_of_sub_eq_succ rfl) (fun G1 F1 => ?_)
  refine bl_fput3 F1 dn rfl (eu_tup (by walk_at "ea") (Nat.le_of_ble_eq_true rfl)) (by decide +kernel) (by decide +kernel) (by decide +kernel) (Nat.lt_of_sub_eq_succ rfl) (fun G2 F2 => ?_)
  refine bl_fput F2 dn (by walk_at "ev") (ev_var rfl) ev_c (by decide +kernel) (Nat.lt_of_sub_eq_succ rfl) (fun G3 F3 => ?_)
  refine bl_fput F3 dn (by walk_at "ev") (ev_var rfl) ev_c (by decide +kernel) (Nat.lt_of_sub_eq_succ rfl) (fun G4 F4 => ?_)
  refine bl_fput F4 dn (by walk_at "ev") (ev_var rfl) ev_c (by decide +kernel) (Nat.lt_of_sub_eq_succ rfl) (fun G5 F5 => ?_)
  refine bl_fput F5 dn (by walk_at "ev") (ev_var rfl) ev_c (by decide +kernel) (Nat.lt_of_sub_eq_succ rfl) (fun G6 F6 => ?_)
  refine bl_fput2 F6 dn rfl (eu_tup (by walk_at "ea") (Nat.le_of_ble_eq_true rfl)) (by decide +kernel) (by decide +kernel) (Nat.lt_of_sub_eq_succ rfl) (fun G7 F7 => ?_)
  refine bl_fput F7 dn (by walk_at "ev") (ev_var rfl) ev_c (by decide +kernel) (Nat.lt_of_sub_eq_succ rfl) (fun G8 F8 => ?_)
  refine bl_fput F8 dn (by walk_at "ev") (ev_var rfl) ev_c (by decide +kernel) (Nat.lt_of_sub_eq_succ rfl) (fun G9 F9 => ?_)
  refine bl_fput F9 dn (by walk_at "ev") (ev_var rfl) ev_c (by decide +kernel) (Nat.lt_of_sub_eq_succ rfl) (fun G10 F10 => ?_)
  cases r
  · refine bl_retE (fil_get (z := "sum grouping") F10 (ev_var rfl) (ev_var rfl) (List.mem_of_getElem? (i := 15) rfl)) (fun H3 e3 => k H3 (F10.ex.trans e3)) ?_
    refine congrArg V.bl ?_
    cases sg <;> cases ov <;> rfl
  · refine bl_retE (fil_get (z := "product grouping") F10 (ev_var rfl) (ev_var rfl) (List.mem_of_getElem? (i := 16) rfl)) (fun H3 e3 => k H3 (F10.ex.trans e3)) ?_
    refine congrArg V.bl ?_
    cases sg <;> cases ov <;> rfl
  · refine bl_retE (fil_get (z := "distribution") F10 (ev_var rfl) (ev_var rfl) (List.mem_of_getElem? (i := 14) rfl)) (fun H3 e3 => k H3 (F10.ex.trans e3)) ?_
    refine congrArg V.bl ?_
    cases sg <;> cases ov <;> rfl
  · refine bl_retE (fil_get (z := "double negation") F10 (ev_var rfl) (ev_var rfl) (List.mem_of_getElem? (i := 13) rfl)) (fun H3 e3 => k H3 (F10.ex.trans e3)) ?_
    refine congrArg V.bl ?_
    cases sg <;> cases ov <;> rfl
  · refine bl_retE (fil_get (z := "difference") F10 (ev_var rfl) (ev_var rfl) (List.mem_of_getElem? (i := 12) rfl)) (fun H3 e3 => k H3 (F10.ex.trans e3)) ?_
    refine congrArg V.bl ?_
    cases sg <;> cases ov <;> rfl
  · refine bl_retE (fil_get (z := "add back") F10 (ev_var rfl) (ev_var rfl) (List.mem_of_getElem? (i := 11) rfl)) (fun H3 e3 => k H3 (F10.ex.trans e3)) ?_
    refine congrArg V.bl ?_
    cases sg <;> cases ov <;> rfl
  · refine bl_retE (fil_get (z := "division") F10 (ev_var rfl) (ev_var rfl) (List.mem_of_getElem? (i := 8) rfl)) (fun H3 e3 => k H3 (F10.ex.trans e3)) ?_
    refine congrArg V.bl ?_
    cases sg <;> cases ov <;> cases dv <;> rfl
  · refine bl_retE (fil_get (z := "remainder range") F10 (ev_var rfl) (ev_var rfl) (List.mem_of_getElem? (i := 7) rfl)) (fun H3 e3 => k H3 (F10.ex.trans e3)) ?_
    refine congrArg V.bl ?_
    cases sg <;> cases ov <;> cases dv <;> rfl
  · refine bl_retE (fil_get (z := "negated quotient") F10 (ev_var rfl) (ev_var rfl) (List.mem_of_getElem? (i := 6) rfl)) (fun H3 e3 => k H3 (F10.ex.trans e3)) ?_
    refine congrArg V.bl ?_
    cases sg <;> cases ov <;> cases dv <;> rfl
  · refine bl_retE (fil_get (z := "shift") F10 (ev_var rfl) (ev_var rfl) (List.mem_of_getElem? (i := 5) rfl)) (fun H3 e3 => k H3 (F10.ex.trans e3)) ?_
    refine congrArg V.bl ?_
    cases sg <;> cases ov <;> cases dv <;> rfl
  · refine bl_retE (fil_get (z := "absolute value") F10 (ev_var rfl) (ev_var rfl) (List.mem_of_getElem? (i := 4) rfl)) (fun H3 e3 => k H3 (F10.ex.trans e3)) ?_
    refine congrArg V.bl ?_
    cases sg <;> cases ov <;> rfl
  · refine bl_retE (fil_get (z := "order by difference") F10 (ev_var rfl) (ev_var rfl) (List.mem_of_getElem? (i := 3) rfl)) (fun H3 e3 => k H3 (F10.ex.trans e3)) ?_
    refine congrArg V.bl ?_
    cases sg <;> cases ov <;> rfl
  · refine bl_retE (fil_get (z := "monotone sum") F10 (ev_var rfl) (ev_var rfl) (List.mem_of_getElem? (i := 10) rfl)) (fun H3 e3 => k H3 (F10.ex.trans e3)) ?_
    refine congrArg V.bl ?_
    cases sg <;> cases ov <;> rfl
  · refine bl_retE (fil_get (z := "average") F10 (ev_var rfl) (ev_var rfl) (List.mem_of_getElem? (i := 9) rfl)) (fun H3 e3 => k H3 (F10.ex.trans e3)) ?_
    refine congrArg V.bl ?_
    cases sg <;> cases ov <;> rfl
  · refine bl_retE (fil_get (z := "square") F10 (ev_var rfl) (ev_var rfl) (List.mem_of_getElem? (i := 2) rfl)) (fun H3 e3 => k H3 (F10.ex.trans e3)) ?_
    refine congrArg V.bl ?_
    cases sg <;> cases ov <;> rfl
  · refine bl_retE (fil_get (z := "zero product") F10 (ev_var rfl) (ev_var rfl) (List.mem_of_getElem? (i := 1) rfl)) (fun H3 e3 => k H3 (F10.ex.trans e3)) ?_
    refine congrArg V.bl ?_
    cases sg <;> cases ov <;> rfl
  · refine bl_retE (fil_get (z := "cancellation") F10 (ev_var rfl) (ev_var rfl) (List.mem_of_getElem? (i := 0) rfl)) (fun H3 e3 => k H3 (F10.ex.trans e3)) ?_
    refine congrArg V.bl ?_
    cases sg <;> cases ov <;> rfl

end
end K1

set_option maxHeartbeats 4000000
namespace K1
open PySem PySem.Spec PyProof.Rows L2 Evl WM WL WLam WX WT WU StX LamX
local macro_rules | `(tactic| walk_at "ev") => `(tactic| first
  | exact ev_c
  | exact ev_var rfl
  | ((with_reducible apply ev_op); (walk_at "ev"); (walk_at "ev"); (walk_at "rv"))
  | ((with_reducible apply ev_un); (walk_at "ev"); exact ru_neg)
  | ((with_reducible apply ev_notV); (walk_at "ev"))
  | ((with_reducible apply ev_andV); (walk_at "ev"); (intro _; walk_at "ev"))
  | ((with_reducible apply ev_orV); (walk_at "ev"); (intro _; walk_at "ev"))
  | ((with_reducible apply ev_ifT); (walk_at "et"); (exact rfl); (walk_at "ev"))
  | ((with_reducible apply ev_ifF); (walk_at "et"); (exact rfl); (walk_at "ev"))
  | ((with_reducible apply ev_ifB); (walk_at "et"); (intro _; walk_at "ev"); (intro _; walk_at "ev"))
  | ((with_reducible apply ev_chainI); (walk_at "ev"); (walk_at "ev"); (walk_at "ev"))
  | ((with_reducible apply ev_own); (walk_at "ea"); (intro _ _; walk_at "own"))
  | ((with_reducible apply ev_ddS); (walk_at "dp"); (exact Nat.le_of_ble_eq_true rfl); (walk_at "ev"); (exact rfl))
  | ((with_reducible apply ev_isiT); (walk_at "ev"); (walk_at "ea"); (walk_at "isiT"))
  | ((with_reducible apply ev_cb); (walk_at "ea"); (walk_at "rc")))
local macro_rules | `(tactic| walk_at "dp") => `(tactic| first
  | exact Paired.nil
  | ((with_reducible apply dp_cons); (exact ev_c); (walk_at "ev"); (walk_at "dp")))
local macro_rules | `(tactic| walk_at "ea") => `(tactic| first
  | exact ea_nil
  | ((with_reducible apply ea_cons); (walk_at "ev"); (walk_at "ea")))
local macro_rules | `(tactic| walk_at "et") => `(tactic| first
  | ((with_reducible apply et_test); (walk_at "ev"))
  | ((with_reducible apply et_B); (walk_at "ev"))
  | ((with_reducible apply et_not); (walk_at "et"))
  | ((with_reducible apply et_and); (walk_at "et"); (intro _; walk_at "et"))
  | ((with_reducible apply et_or); (walk_at "et"); (intro _; walk_at "et")))
local macro_rules | `(tactic| walk_at "rv") => `(tactic| first
  | exact rv_I0
  | exact rv_eq rfl
  | exact rv_ne rfl
  | exact rv_isT (by assumption) rfl rfl
  | exact rv_niT (by assumption) rfl rfl
  | exact rv_isL (by assumption) rfl rfl
  | exact rv_niL (by assumption) rfl rfl
  | exact rv_ixT (by assumption) rfl
  | exact rv_ixL (by assumption) rfl
  | exact rv_ixL (by assumption) (by assumption)
  | (apply rv_I; (walk_at "side")))
local macro_rules | `(tactic| walk_at "side") => `(tactic| first
  | assumption
  | (refine And.intro ?_ (And.intro ?_ ?_) <;> (try dsimp only) <;> first | omega | decide)
  | (dsimp only; omega)
  | omega)
local macro_rules | `(tactic| walk_at "rc") => `(tactic| first
  | exact rc_abs | exact rc_max2 | exact rc_min2 | exact rc_int | exact rc_intB
  | exact rc_isi_int (b := true) (by decide +kernel)
  | exact rc_isi_int (b := false) (by decide +kernel)
  | exact rc_isi_bl (b := true) (by decide +kernel)
  | exact rc_isi_bl (b := false) (by decide +kernel)
  | exact rc_isi_str (b := true) (by decide +kernel)
  | exact rc_isi_str (b := false) (by decide +kernel)
  | exact rc_isi_T (b := true) (by assumption) (by decide +kernel)
  | exact rc_isi_T (b := false) (by assumption) (by decide +kernel)
  | exact rc_lenT (by assumption)
  | exact rc_lenL (by assumption))
local macro_rules | `(tactic| walk_at "set") => `(tactic| ((with_reducible apply bl_set); (walk_at "ev")))
local macro_rules | `(tactic| walk_at "drop") => `(tactic| ((with_reducible apply bl_drop); (walk_at "ev")))
local macro_rules | `(tactic| walk_at "par") => `(tactic| ((with_reducible apply bl_par); (walk_at "ea")))
local macro_rules | `(tactic| walk_at "if") => `(tactic| ((with_reducible apply bl_when); (walk_at "et")))
local macro_rules | `(tactic| walk_at "no") => `(tactic| ((with_reducible apply bl_when); (walk_at "et"); (intro h; exact absurd (show false = true from h) (by decide)); (intro _)))
local macro_rules | `(tactic| walk_at "yes") => `(tactic| ((with_reducible apply bl_when); (walk_at "et"); rotate_left; (intro h; exact absurd (show true = false from h) (by decide)); (intro _)))
local macro_rules | `(tactic| walk_at "ret") => `(tactic| ((with_reducible apply bl_retE); rotate_left; assumption; rotate_right; (walk_at "ev")))
local macro_rules | `(tactic| walk_at "absurd") => `(tactic| first | exact absurd (show false = true from (by assumption)) (by decide) | exact absurd (show true = false from (by assumption)) (by decide))
local macro_rules | `(tactic| walk_at "rv") => `(tactic| first | exact rv_isN (s := []) | exact rv_notKD (by assumption) | exact rv_inKD (by assumption) | exact rv_ixKD (by assumption))
local macro_rules | `(tactic| walk_at "isiT") => `(tactic| ((exact Nat.le_of_ble_eq_true rfl); (exact .cons (.ty _) (.cons (.ty _) .nil)); (first | exact fun _ _ => .base (.int _) | exact fun _ _ => .base (.bl _) | exact fun _ _ => .base (.str _) | exact fun _ _ => .base .non); (exact kitAny_no (by decide +kernel) (by decide +kernel))))
local macro_rules | `(tactic| walk_at "rc") => `(tactic| first | exact rc_isi_non (b := true) (by decide +kernel) | exact rc_isi_non (b := false) (by decide +kernel))
local macro_rules | `(tactic| walk_at "eu") => `(tactic| first
  | ((with_reducible apply eu_own); (walk_at "ea"); (intro _ _; walk_at "own"))
  | ((with_reducible apply eu_tup); (walk_at "ea"); (exact Nat.le_of_ble_eq_true rfl)))
local macro_rules | `(tactic| walk_at "ev") => `(tactic| ((with_reducible apply ev_own1U); (walk_at "eu"); (walk_at "ea"); (intro _ _ _ _; walk_at "own1")))
local macro_rules | `(tactic| walk_at "isr") => `(tactic| first | with_reducible exact isr_r | with_reducible exact isr_i | ((with_reducible apply isr_if) <;> (walk_at "isr")))
local macro_rules | `(tactic| walk_at "osm") => `(tactic| first | with_reducible assumption | with_reducible exact osm_add | with_reducible exact osm_sub | with_reducible exact osm_mul | with_reducible exact osm_dvo | with_reducible exact osm_neg | with_reducible exact osm_rem | with_reducible exact osm_do | with_reducible exact osm_div | with_reducible exact osm_fit | ((with_reducible apply osm); assumption) | ((with_reducible apply osm); exact (show (0 : Int).natAbs < 2 ^ 70 by decide)) | ((with_reducible apply osm); exact (show (2 : Int).natAbs < 2 ^ 70 by decide)) | ((with_reducible apply osm_if) <;> (walk_at "osm")))
local macro_rules | `(tactic| walk_at "ev") => `(tactic| first
  | ((with_reducible apply ev_inLst); (walk_at "ev"); (walk_at "ea"); (exact Nat.le_of_ble_eq_true rfl); (exact rfl); (first | exact rfl | simp [flatV])))
local macro_rules | `(tactic| walk_at "rv") => `(tactic| first | exact rv_eq scal_rv | exact rv_ne scal_rv | exact rv_eq (scal_rv (y := some _)) | exact rv_ne (scal_rv (y := some _)) | exact rv_eq (scal_rv (y := none)) | exact rv_ne (scal_rv (y := none)))
local macro_rules | `(tactic| walk_at "nz") => `(tactic| first | with_reducible assumption | ((with_reducible apply nz_i); (first | assumption | decide)))
local macro_rules | `(tactic| walk_at "ev") => `(tactic| ((with_reducible apply ev_inU); (walk_at "ev"); (walk_at "eu"); (exact rfl); (exact rfl)))
local macro_rules | `(tactic| walk_at "eu") => `(tactic| ((with_reducible apply WB.eu_ifB); (walk_at "et"); (walk_at "eu"); (walk_at "eu")))
local macro_rules | `(tactic| walk_at "en") => `(tactic| first
  | ((with_reducible apply WB.en_of); assumption; (walk_at "eu"))
  | ((with_reducible apply WB.en_if); (walk_at "et"); (walk_at "en"); (walk_at "en")))
local macro_rules | `(tactic| walk_at "ean") => `(tactic| first
  | exact WB.ean_nil
  | ((with_reducible apply WB.ean_cons); (walk_at "en"); (walk_at "ean")))
local macro_rules | `(tactic| walk_at "ens") => `(tactic| first
  | ((with_reducible apply WB.ens_tup); (walk_at "ean"); (exact Nat.le_of_ble_eq_true rfl))
  | ((with_reducible apply WB.ens_if2); (walk_at "et"); (walk_at "ens"); (walk_at "ens")))
local macro_rules | `(tactic| walk_at "dpN") => `(tactic| first
  | exact Paired.nil
  | ((with_reducible apply WB.dpn_cons); (exact ev_c); (walk_at "en"); (walk_at "dpN")))
section
variable {P : Program} {w : World} {K : PySem.W.Frag} {mg : Str → Option Value} {base : Heap}
local macro_rules | `(tactic| walk_at "own") => `(tactic| first
  | exact r_is_whole (by first | assumption | exact .int _ | exact Wh.ex (by assumption) (by assumption))
  | exact r_are_choices 
  | exact r_is_format (ex_t (by assumption) (by assumption))
  | exact r_check_format (ex_t (by assumption) (by assumption))
  | exact r_ends (ex_t (by assumption) (by assumption))
  | exact r_lowest (ex_t (by assumption) (by assumption))
  | exact r_highest (ex_t (by assumption) (by assumption))
  | exact r_terms_of (ex_t (by assumption) (by assumption))
  | exact r_fitted (ex_t (by assumption) (by assumption))
  | exact r__quotient_to_zero (by assumption) (by assumption) (by assumption)
  | exact r__quotient_to_even (by assumption) (by assumption) (by assumption)
  | exact r__quotient_of_euclid (by assumption) (by assumption) (by assumption)
  | exact r__exact_quotient (by assumption) (by assumption) (by assumption)
  | ((with_reducible apply r_plus_G); (exact (ex_t (by assumption) (by assumption))); (walk_at "isr"); (walk_at "isr"))
  | ((with_reducible apply r_minus_G); (exact (ex_t (by assumption) (by assumption))); (walk_at "isr"); (walk_at "isr"))
  | ((with_reducible apply r_times_G); (exact (ex_t (by assumption) (by assumption))); (walk_at "isr"); (walk_at "isr"); (walk_at "osm"); (walk_at "osm"))
  | ((with_reducible apply r_quotient_G); (exact (ex_t (by assumption) (by assumption))); (walk_at "isr"); (walk_at "isr"); (walk_at "osm"); (walk_at "osm"); (walk_at "nz"))
  | ((with_reducible apply r_opposite_G); (exact (ex_t (by assumption) (by assumption))); (walk_at "isr"))
  | exact r_rest (ex_t (by assumption) (by assumption)) (by assumption) (by assumption) (by assumption)
  | ((with_reducible apply r__at_most_G); (walk_at "isr"); (walk_at "isr"))
  | ((with_reducible apply r__below_G); (walk_at "isr"); (walk_at "isr"))
  | exact r_sum_grouping_rules (ex_t (by assumption) (by assumption)) (by assumption) (by assumption) (by assumption)
  | exact r_product_grouping_rules (ex_t (by assumption) (by assumption)) (by assumption) (by assumption) (by assumption)
  | exact r_distribution_rules (ex_t (by assumption) (by assumption)) (by assumption) (by assumption) (by assumption)
  | exact r_double_negation_rules (ex_t (by assumption) (by assumption)) (by assumption)
  | exact r_difference_rules (ex_t (by assumption) (by assumption)) (by assumption) (by assumption)
  | exact r_add_back_rules (ex_t (by assumption) (by assumption)) (by assumption) (by assumption)
  | exact r_division_rules (ex_t (by assumption) (by assumption)) (by assumption) (by assumption)
  | exact r_remainder_range_rules (ex_t (by assumption) (by assumption)) (by assumption) (by assumption)
  | exact r_negated_quotient_rules (ex_t (by assumption) (by assumption)) (by assumption) (by assumption)
  | exact r_shift_rules (ex_t (by assumption) (by assumption)) (by assumption)
  | exact r_absolute_value_rules (ex_t (by assumption) (by assumption)) (by assumption)
  | exact r_order_by_difference_rules (ex_t (by assumption) (by assumption)) (by assumption) (by assumption)
  | exact r_monotone_sum_rules (ex_t (by assumption) (by assumption)) (by assumption) (by assumption) (by assumption)
  | exact r_average_rules (ex_t (by assumption) (by assumption)) (by assumption) (by assumption)
  | exact r_square_rules (ex_t (by assumption) (by assumption)) (by assumption)
  | exact r_zero_product_rules (ex_t (by assumption) (by assumption)) (by assumption) (by assumption)
  | exact r_cancellation_rules (ex_t (by assumption) (by assumption)) (by assumption) (by assumption) (by assumption)
  | exact r_is_rule 
  | exact r_check_rule 
  | exact r__check_numbers (ex_t (by assumption) (by assumption)) (ex_t (by assumption) (by assumption)) (by assumption) (by assumption) (by assumption)
  | exact r_holds_for (ex_t (by assumption) (by assumption)) (ex_t (by assumption) (by assumption)) (by assumption) (by assumption)
  | exact r__check_exponent (by assumption) (by assumption)
  | exact r__passes_lucas_lehmer (by assumption) (by assumption) (by assumption)
  | exact r_is_mersenne (by assumption) (by assumption)
  | exact r_least_factor (by assumption) (by assumption)
  | exact r_sum_grouping_conditions 
  | exact r_product_grouping_conditions 
  | exact r_distribution_conditions 
  | exact r__negatives 
  | exact r_add_back_conditions 
  | exact r_division_conditions 
  | exact r_remainder_range_conditions 
  | exact r_negated_quotient_conditions 
  | exact r_shift_conditions 
  | exact r_absolute_value_conditions 
  | exact r_order_by_difference_conditions 
  | exact r_monotone_sum_conditions 
  | exact r_average_conditions 
  | exact r_square_conditions 
  | exact r_zero_product_conditions 
  | exact r_cancellation_conditions 
  | exact r_meets_condition (ex_t (by assumption) (by assumption))
  | exact r_holds (ex_t (by assumption) (by assumption))
  | exact r__half (ex_t (by assumption) (by assumption))
  | exact r__whole (ex_t (by assumption) (by assumption))
  | exact r__factors (ex_t (by assumption) (by assumption))
  | exact r_sum_grouping_breaches (ex_t (by assumption) (by assumption))
  | exact r_product_grouping_breaches (ex_t (by assumption) (by assumption))
  | exact r_distribution_breaches (ex_t (by assumption) (by assumption))
  | exact r_double_negation_breaches (ex_t (by assumption) (by assumption))
  | exact r_difference_breaches (ex_t (by assumption) (by assumption))
  | exact r__lowest_and_one (ex_t (by assumption) (by assumption))
  | exact r_division_breaches (ex_t (by assumption) (by assumption))
  | exact r_remainder_range_breaches (ex_t (by assumption) (by assumption)) (by assumption)
  | exact r_negated_quotient_breaches (ex_t (by assumption) (by assumption))
  | exact r_shift_breaches (ex_t (by assumption) (by assumption)) (by assumption)
  | exact r_absolute_value_breaches (ex_t (by assumption) (by assumption))
  | exact r_monotone_sum_breaches (ex_t (by assumption) (by assumption))
  | exact r_square_breaches (ex_t (by assumption) (by assumption))
  | exact r_zero_product_breaches (ex_t (by assumption) (by assumption))
  | exact r_cancellation_breaches (ex_t (by assumption) (by assumption))
  | exact r_breach (ex_t (by assumption) (by assumption)) (by assumption)
  | exact r_counterexample (ex_t (by assumption) (by assumption)) (by assumption)
  | exact r__law_low (ex_t (by assumption) (by assumption))
  | exact r__law_high (ex_t (by assumption) (by assumption))
  | exact r__law_fit (ex_t (by assumption) (by assumption)) (by assumption)
  | exact r__law_size (by assumption) (by assumption) (by assumption)
  | exact r__law_rest (ex_t (by assumption) (by assumption)) (by assumption) (by assumption) (by assumption)
  | exact r__law_rises (ex_l (by assumption) (by assumption)) (by assumption)
  | exact r__law_three (ex_t (by assumption) (by assumption)) (by assumption) (by assumption) (by assumption) (by assumption)
  | exact r__law_two (ex_t (by assumption) (by assumption)) (by assumption) (by assumption) (by assumption)
  | ((with_reducible apply r__law_do_Ga); (exact (ex_t (by assumption) (by assumption))); (walk_at "isr"); (walk_at "isr"); (walk_at "osm"); (walk_at "osm"))
  | ((with_reducible apply r__law_do_Gs); (exact (ex_t (by assumption) (by assumption))); (walk_at "isr"); (walk_at "isr"); (walk_at "osm"); (walk_at "osm"))
  | ((with_reducible apply r__law_do_Gm); (exact (ex_t (by assumption) (by assumption))); (walk_at "isr"); (walk_at "isr"); (walk_at "osm"); (walk_at "osm"))
  | ((with_reducible apply r__law_minus_G); (exact (ex_t (by assumption) (by assumption))); (walk_at "isr"); (walk_at "osm"))
  | ((with_reducible apply r__law_divide_G); (exact (ex_t (by assumption) (by assumption))); (walk_at "isr"); (walk_at "osm"); (first | assumption | exact (show (2 : Int).natAbs < 2 ^ 70 by decide)); (first | assumption | decide))
  | exact r__law_fits (ex_t (by assumption) (by assumption)) (ex_l (by assumption) (by assumption)) (by assumption) (by assumption)
  | ((with_reducible apply r__law_quotient_fl); (first | assumption | decide); assumption; (first | assumption | exact (show (2 : Int).natAbs < 2 ^ 70 by decide)))
  | exact r__law_alike (by assumption)
  | exact r__law_prime 
  | exact r__law_holds (ex_t (by assumption) (by assumption)))
def R_aliket (K : PySem.W.Frag) : List V → Hp → V → Prop := fun vs H v => ∃ (p q : Addr) (xs : List V), vs = [.ref p, .ref q] ∧ SqT K H p xs ∧ SqT K H q xs ∧ (∀ x ∈ xs, flatV x = true) ∧ xs.length ≤ 40000 ∧ v = .bl true
theorem okt__law_alike (T : Txt w K mg) (D0 : DefAt K mg "_law_alike" s__law_alike) (c__law_alike : Cal P w K mg base CX0 1 "_law_alike" ["found", "due"] (Pu (R__law_alike K))) : Cal P w K mg base CX0 2 "_law_alike" ["found", "due"] (Pu (R_aliket K)) := by
  refine D0.cal sc__law_alike (fun vs H Q E h => by obtain ⟨v, ⟨_, _, _, rfl, _⟩, _⟩ := h; rfl) (fun _ _ _ _ _ _ us hl => match us, hl with | [_, _], _ => rfl) (fun f cdv A outer s H vs Q E hr h => ?_)
  obtain ⟨v, ⟨p, q, xs, rfl, hp, hq, hf, hn, rfl⟩, k⟩ := h
  have hu := hu_of hr
  refine ⟨_, (pss_cons (ps_if (pt_val (pe_callB call_isiT (by rfl) T.n_isinstance (by decide +kernel) (pa_cons (pv 1) (pa_cons (pe_tup (pa_cons (pe_bltn (v := .ty "tuple") (by rfl) T.n_tuple (by decide +kernel) rfl) (pa_cons (pe_bltn (v := .ty "list") (by rfl) T.n_list (by decide +kernel) rfl) pa_nil))) pa_nil)))) (pss_cons (ps_if (PW.pt (pw_or (pt_not (pt_val (pe_callB call_isiT (by rfl) T.n_isinstance (by decide +kernel) (pa_cons (pv 0) (pa_cons (pe_tup (pa_cons (pe_bltn (v := .ty "tuple") (by rfl) T.n_tuple (by decide +kernel) rfl) (pa_cons (pe_bltn (v := .ty "list") (by rfl) T.n_list (by decide +kernel) rfl) pa_nil))) pa_nil))))) (pw_or1 (pt_cmpR op_ne (pe_callB call_isi (by rfl) T.n_isinstance (by decide +kernel) (pa_cons (pv 0) (pa_cons (pe_bltn (v := .ty "list") (by rfl) T.n_list (by decide +kernel) rfl) pa_nil))) (pe_callB call_isi (by rfl) T.n_isinstance (by decide +kernel) (pa_cons (pv 1) (pa_cons (pe_bltn (v := .ty "list") (by rfl) T.n_list (by decide +kernel) rfl) pa_nil))) (nomark _))))) (pss_one (ps_ret pe_bl)) pss_nil)
      (pss_cons (ps_if (pt_cmpR op_ne (pe_callB call_len_seq (by rfl) T.n_len (by decide +kernel) (pa_cons (pv 0) pa_nil)) (pe_callB call_len_seq (by rfl) T.n_len (by decide +kernel) (pa_cons (pv 1) pa_nil)) (nomark _)) (pss_one (ps_ret pe_bl)) pss_nil)
      (pss_one (ps_ret (pe_cmpR (op_eqD hr.units) (pe_lc (own := [("k", 2)]) (g := gName 2) (by rfl) sc__law_alike.nd (pi_range1 rfl T.n_range (pa_cons (pe_callB call_len_seq (by rfl) T.n_len (by decide +kernel) (pa_cons (pv 1) pa_nil)) pa_nil)) (blkOk_by (own := [("k", 2)]) (N := N__law_alike) (sc := defScope s__law_alike) (by decide +kernel)) (fun _ _ _ _ _ => pg_name (i := 2) sc__law_alike.nd rfl (Or.inl rfl)) (fun _ _ _ _ _ => pts_one (pt_not (pt_val (pe_own c__law_alike (hr.mono (by decide)) rfl pass0 (pa_cons (pe_ix (r := rIxT K) ix_tup (pv 0) (pv 2) (fun _ _ => rfl)) (pa_cons (pe_ix (r := rIxT K) ix_tup (pv 1) (pv 2) (fun _ _ => rfl)) pa_nil)))))) (fun _ _ _ _ _ => (pv 2))) (pe_lst pa_nil) (nomark _)))))) pss_nil) pss_never), bl_go ?_⟩
  refine bl_if (b := true) (et_B (ev_isTT (ev_var rfl) hq)) (fun _ => ?_) (fun z => by cases z)
  refine bl_when (b := false) ?_ (fun z => by cases z) (fun _ => ?_)
  · refine et_is (et_or (a := false) (b := false) (et_is (et_not (et_B (ev_isTT (ev_var rfl) hp))) rfl) (fun _ => ?_)) rfl
    walk_at "et"
  refine bl_when (b := false) ?_ (fun z => by cases z) (fun _ => ?_)
  · refine et_is (b := false) (a := !decide (V.int (xs.length : Int) = V.int (xs.length : Int))) (by walk_at "et") (by simp)
  refine bl_retE (v := .bl true) (nil_eq (el_is (el_lcR1 (n := (xs.length : Int)) (fun _ => false) (fun i => .int i) (by walk_at "ea") (by omega) (fun x => rfl) (fun i H1 e1 hi => ?_) (fun i H1 e1 hi z => by cases z)) (given_nil fun i _ => rfl))) k rfl
  have hi' : i < xs.length := by omega
  have ha : atI xs (i : Int) = some xs[i] := atI_nat (List.getElem?_eq_getElem hi')
  have fl : flatV xs[i] = true := hf _ (List.getElem_mem hi')
  have e : EvT (tNot (tB (tCall (Pu (R__law_alike K)) [] E0 (tCons (tOp (rIxT K) (tVar 0) (tVar 2)) (tCons (tOp (rIxT K) (tVar 1) (tVar 2)) tNil))))) [some (.ref p), some (.ref q), some (.int (i : Int))] H1 false :=
    et_is (et_not (et_B (ev_own (ea_cons (ev_op (ev_var rfl) (ev_var rfl) (rv_ixT (ex_t e1 hp) ha)) (ea_cons (ev_op (ev_var rfl) (ev_var rfl) (rv_ixT (ex_t e1 hq) ha)) ea_nil)) (fun H2 e2 => r__law_alike fl)))) rfl
  exact e
def R__law_turned (K : PySem.W.Frag) : List V → Hp → List V → Prop := fun vs H xs => ∃ (p : Addr) (f : Fmt), vs = [.ref p, .int (lo f)] ∧ (SqT K H p (fV f)) ∧ xs = (cexN f .negQ).map V.int
theorem r__law_turned {K : PySem.W.Frag} {H : Hp} {p : Addr} {f : Fmt} (h0 : SqT K H p (fV f)) : R__law_turned K [.ref p, .int (lo f)] H ((cexN f .negQ).map V.int) := ⟨_, _, rfl, h0, rfl⟩
abbrev s__law_turned : Stmt := top 177
abbrev N__law_turned : List Str := ["form", "low", "w", "signs", "overflow", "division"]
theorem sc__law_turned : FnScope N__law_turned ["form", "low"] (defScope s__law_turned) := ⟨rfl, rfl, rfl, by decide +kernel, rfl, by decide +kernel, by decide +kernel⟩
theorem ok__law_turned (T : Txt w K mg) (D0 : DefAt K mg "_law_turned" s__law_turned)   : Cal P w K mg base CX0 1 "_law_turned" ["form", "low"] (PuT (R__law_turned K)) := by
  refine D0.cal sc__law_turned (fun vs H Q E h => by obtain ⟨xs, ⟨_, _, rfl, _⟩, _⟩ := h; rfl) (fun _ _ _ _ _ _ us hl => match us, hl with | [_, _], _ => rfl) (fun f cdv A outer s H vs Q E hr h => ?_)
  obtain ⟨xs, ⟨p, ⟨w0, sg, ov, dv, h4, h64⟩, rfl, hf, rfl⟩, k⟩ := h
  have hu := hu_of hr
  refine ⟨_, (pss_cons (ps_asg (pv 0) (pg_tup (by rfl) (pgs_cons (pg_name (i := 2) sc__law_turned.nd rfl (Or.inl rfl)) (pgs_cons (pg_name (i := 3) sc__law_turned.nd rfl (Or.inl rfl)) (pgs_cons (pg_name (i := 4) sc__law_turned.nd rfl (Or.inl rfl)) (pgs_cons (pg_name (i := 5) sc__law_turned.nd rfl (Or.inl rfl)) pgs_nil))))))
      (pss_cons (ps_if (PW.pt (pw_or (pt_cmpR op_ne (pv 3) pe_str (nomark _)) (pw_or1 (PW.pt (pw_and (pt_cmpR op_eq (pv 4) pe_str (nomark _)) (pw_and1 (pt_cmpR op_eq (pv 5) pe_str (nomark _)))))))) (pss_one (ps_ret (pe_tup (pa_cons pe_int (pa_cons pe_int pa_nil))))) pss_nil)
      (pss_cons (ps_if (PW.pt (pw_or (pt_cmpR op_ne (pv 4) pe_str (nomark _)) (pw_or1 (pt_cmpR op_ne (pv 5) pe_str (nomark _))))) (pss_one (ps_ret (pe_tup (pa_cons (pv 1) (pa_cons pe_int pa_nil))))) pss_nil)
      (pss_one (ps_ret (pe_tup (pa_cons (pv 1) (pa_cons (pe_ifExp (pt_cmpR op_eq (pe_op op_modN (pv 2) pe_int) pe_int (nomark _)) (pe_op op_fdivB (pe_op op_sub (pe_op op_shl pe_int (pv 2)) pe_int) pe_int) (pe_op op_sub (pe_op op_shl pe_int (pe_op op_fdivB (pe_op op_add (pv 2) pe_int) pe_int)) pe_int)) pa_nil)))))))), bl_go ?_⟩
  have w2 : 2 ≤ w0 := by omega
  have d3 : CDivB (p2 w0 - 1) 3 := sm_div (show (3 : Int).natAbs < 2 ^ 70 by decide) (by decide)
  have hq := fdiv2s w0
  have hq' : (((w0 + 1) / 2 : Nat) : Int) ≤ 40 := by omega
  have d2 : CDivB ((w0 : Int) + 1) 2 := sm_div (show (2 : Int).natAbs < 2 ^ 70 by decide) (by decide)
  apply bl_unp4 (hx := hf)
  · walk_at "ev"
  · rfl
  cases sg
  · walk_at "yes"
    refine bl_retUE (by walk_at "eu") k ?_
    rfl
  rotate_left
  · walk_at "yes"
    refine bl_retUE (by walk_at "eu") k ?_
    rfl
  · cases ov
    rotate_left
    · all_goals
        (repeat (first | walk_at "no" | walk_at "yes"))
        refine bl_retUE (by walk_at "eu") k ?_
        cases dv <;> rfl
    · all_goals
        (repeat (first | walk_at "no" | walk_at "yes"))
        refine bl_retUE (by walk_at "eu") k ?_
        cases dv <;> rfl
    · cases dv
      case even =>
        walk_at "no"
        walk_at "no"
        have ep : decide (V.int ((w0 : Int).fmod 2) = V.int 0) = decide (w0 % 2 = 0) := by
          rw [dec_i]
          exact decide_eq_decide.mpr (par_w w0)
        have sh : (1 : Int) * 2 ^ ((w0 : Int)).toNat = p2 w0 := shl_w
        refine bl_retUE (xs := [.int (lo (⟨w0, .twos, .sat, .even, h4, h64⟩ : Fmt)), if decide (V.int ((w0 : Int).fmod 2) = V.int 0) = true then .int ((p2 w0 - 1).fdiv 3) else .int (p2 ((w0 + 1) / 2) - 2)]) (eu_tup (ea_cons (ev_var rfl) (ea_cons (ev_ifB (et_is (by walk_at "et") rfl) (fun _ => ?_) (fun _ => ?_)) ea_nil)) (Nat.le_of_ble_eq_true rfl)) k ?_
        · refine ev_is (v := .int (((1 : Int) * 2 ^ ((w0 : Int)).toNat - 1).fdiv 3)) ?_ (by rw [sh])
          rw [← sh] at d3
          walk_at "ev"
        · refine ev_is (v := .int ((1 : Int) * 2 ^ (((w0 : Int) + 1).fdiv 2).toNat - 2)) ?_ (by rw [hq, shl_n])
          walk_at "ev"
        · rw [ep]
          unfold cexN
          dsimp only
          by_cases hp : w0 % 2 = 0
          · rw [decide_eq_true hp, if_pos rfl, if_pos hp]
            rfl
          · rw [decide_eq_false hp, if_neg (by decide), if_neg hp]
            rfl
      all_goals
        (repeat (first | walk_at "no" | walk_at "yes"))
        refine bl_retUE (by walk_at "eu") k ?_
        rfl
local macro_rules | `(tactic| walk_at "own") => `(tactic| first
  | exact r_is_whole (by first | assumption | exact .int _ | exact Wh.ex (by assumption) (by assumption))
  | exact r_are_choices 
  | exact r_is_format (ex_t (by assumption) (by assumption))
  | exact r_check_format (ex_t (by assumption) (by assumption))
  | exact r_ends (ex_t (by assumption) (by assumption))
  | exact r_lowest (ex_t (by assumption) (by assumption))
  | exact r_highest (ex_t (by assumption) (by assumption))
  | exact r_terms_of (ex_t (by assumption) (by assumption))
  | exact r_fitted (ex_t (by assumption) (by assumption))
  | exact r__quotient_to_zero (by assumption) (by assumption) (by assumption)
  | exact r__quotient_to_even (by assumption) (by assumption) (by assumption)
  | exact r__quotient_of_euclid (by assumption) (by assumption) (by assumption)
  | exact r__exact_quotient (by assumption) (by assumption) (by assumption)
  | ((with_reducible apply r_plus_G); (exact (ex_t (by assumption) (by assumption))); (walk_at "isr"); (walk_at "isr"))
  | ((with_reducible apply r_minus_G); (exact (ex_t (by assumption) (by assumption))); (walk_at "isr"); (walk_at "isr"))
  | ((with_reducible apply r_times_G); (exact (ex_t (by assumption) (by assumption))); (walk_at "isr"); (walk_at "isr"); (walk_at "osm"); (walk_at "osm"))
  | ((with_reducible apply r_quotient_G); (exact (ex_t (by assumption) (by assumption))); (walk_at "isr"); (walk_at "isr"); (walk_at "osm"); (walk_at "osm"); (walk_at "nz"))
  | ((with_reducible apply r_opposite_G); (exact (ex_t (by assumption) (by assumption))); (walk_at "isr"))
  | exact r_rest (ex_t (by assumption) (by assumption)) (by assumption) (by assumption) (by assumption)
  | ((with_reducible apply r__at_most_G); (walk_at "isr"); (walk_at "isr"))
  | ((with_reducible apply r__below_G); (walk_at "isr"); (walk_at "isr"))
  | exact r_sum_grouping_rules (ex_t (by assumption) (by assumption)) (by assumption) (by assumption) (by assumption)
  | exact r_product_grouping_rules (ex_t (by assumption) (by assumption)) (by assumption) (by assumption) (by assumption)
  | exact r_distribution_rules (ex_t (by assumption) (by assumption)) (by assumption) (by assumption) (by assumption)
  | exact r_double_negation_rules (ex_t (by assumption) (by assumption)) (by assumption)
  | exact r_difference_rules (ex_t (by assumption) (by assumption)) (by assumption) (by assumption)
  | exact r_add_back_rules (ex_t (by assumption) (by assumption)) (by assumption) (by assumption)
  | exact r_division_rules (ex_t (by assumption) (by assumption)) (by assumption) (by assumption)
  | exact r_remainder_range_rules (ex_t (by assumption) (by assumption)) (by assumption) (by assumption)
  | exact r_negated_quotient_rules (ex_t (by assumption) (by assumption)) (by assumption) (by assumption)
  | exact r_shift_rules (ex_t (by assumption) (by assumption)) (by assumption)
  | exact r_absolute_value_rules (ex_t (by assumption) (by assumption)) (by assumption)
  | exact r_order_by_difference_rules (ex_t (by assumption) (by assumption)) (by assumption) (by assumption)
  | exact r_monotone_sum_rules (ex_t (by assumption) (by assumption)) (by assumption) (by assumption) (by assumption)
  | exact r_average_rules (ex_t (by assumption) (by assumption)) (by assumption) (by assumption)
  | exact r_square_rules (ex_t (by assumption) (by assumption)) (by assumption)
  | exact r_zero_product_rules (ex_t (by assumption) (by assumption)) (by assumption) (by assumption)
  | exact r_cancellation_rules (ex_t (by assumption) (by assumption)) (by assumption) (by assumption) (by assumption)
  | exact r_is_rule 
  | exact r_check_rule 
  | exact r__check_numbers (ex_t (by assumption) (by assumption)) (ex_t (by assumption) (by assumption)) (by assumption) (by assumption) (by assumption)
  | exact r_holds_for (ex_t (by assumption) (by assumption)) (ex_t (by assumption) (by assumption)) (by assumption) (by assumption)
  | exact r__check_exponent (by assumption) (by assumption)
  | exact r__passes_lucas_lehmer (by assumption) (by assumption) (by assumption)
  | exact r_is_mersenne (by assumption) (by assumption)
  | exact r_least_factor (by assumption) (by assumption)
  | exact r_sum_grouping_conditions 
  | exact r_product_grouping_conditions 
  | exact r_distribution_conditions 
  | exact r__negatives 
  | exact r_add_back_conditions 
  | exact r_division_conditions 
  | exact r_remainder_range_conditions 
  | exact r_negated_quotient_conditions 
  | exact r_shift_conditions 
  | exact r_absolute_value_conditions 
  | exact r_order_by_difference_conditions 
  | exact r_monotone_sum_conditions 
  | exact r_average_conditions 
  | exact r_square_conditions 
  | exact r_zero_product_conditions 
  | exact r_cancellation_conditions 
  | exact r_meets_condition (ex_t (by assumption) (by assumption))
  | exact r_holds (ex_t (by assumption) (by assumption))
  | exact r__half (ex_t (by assumption) (by assumption))
  | exact r__whole (ex_t (by assumption) (by assumption))
  | exact r__factors (ex_t (by assumption) (by assumption))
  | exact r_sum_grouping_breaches (ex_t (by assumption) (by assumption))
  | exact r_product_grouping_breaches (ex_t (by assumption) (by assumption))
  | exact r_distribution_breaches (ex_t (by assumption) (by assumption))
  | exact r_double_negation_breaches (ex_t (by assumption) (by assumption))
  | exact r_difference_breaches (ex_t (by assumption) (by assumption))
  | exact r__lowest_and_one (ex_t (by assumption) (by assumption))
  | exact r_division_breaches (ex_t (by assumption) (by assumption))
  | exact r_remainder_range_breaches (ex_t (by assumption) (by assumption)) (by assumption)
  | exact r_negated_quotient_breaches (ex_t (by assumption) (by assumption))
  | exact r_shift_breaches (ex_t (by assumption) (by assumption)) (by assumption)
  | exact r_absolute_value_breaches (ex_t (by assumption) (by assumption))
  | exact r_monotone_sum_breaches (ex_t (by assumption) (by assumption))
  | exact r_square_breaches (ex_t (by assumption) (by assumption))
  | exact r_zero_product_breaches (ex_t (by assumption) (by assumption))
  | exact r_cancellation_breaches (ex_t (by assumption) (by assumption))
  | exact r_breach (ex_t (by assumption) (by assumption)) (by assumption)
  | exact r_counterexample (ex_t (by assumption) (by assumption)) (by assumption)
  | exact r__law_low (ex_t (by assumption) (by assumption))
  | exact r__law_high (ex_t (by assumption) (by assumption))
  | exact r__law_fit (ex_t (by assumption) (by assumption)) (by assumption)
  | exact r__law_size (by assumption) (by assumption) (by assumption)
  | exact r__law_rest (ex_t (by assumption) (by assumption)) (by assumption) (by assumption) (by assumption)
  | exact r__law_rises (ex_l (by assumption) (by assumption)) (by assumption)
  | exact r__law_three (ex_t (by assumption) (by assumption)) (by assumption) (by assumption) (by assumption) (by assumption)
  | exact r__law_two (ex_t (by assumption) (by assumption)) (by assumption) (by assumption) (by assumption)
  | ((with_reducible apply r__law_do_Ga); (exact (ex_t (by assumption) (by assumption))); (walk_at "isr"); (walk_at "isr"); (walk_at "osm"); (walk_at "osm"))
  | ((with_reducible apply r__law_do_Gs); (exact (ex_t (by assumption) (by assumption))); (walk_at "isr"); (walk_at "isr"); (walk_at "osm"); (walk_at "osm"))
  | ((with_reducible apply r__law_do_Gm); (exact (ex_t (by assumption) (by assumption))); (walk_at "isr"); (walk_at "isr"); (walk_at "osm"); (walk_at "osm"))
  | ((with_reducible apply r__law_minus_G); (exact (ex_t (by assumption) (by assumption))); (walk_at "isr"); (walk_at "osm"))
  | ((with_reducible apply r__law_divide_G); (exact (ex_t (by assumption) (by assumption))); (walk_at "isr"); (walk_at "osm"); (first | assumption | exact (show (2 : Int).natAbs < 2 ^ 70 by decide)); (first | assumption | decide))
  | exact r__law_fits (ex_t (by assumption) (by assumption)) (ex_l (by assumption) (by assumption)) (by assumption) (by assumption)
  | ((with_reducible apply r__law_quotient_fl); (first | assumption | decide); assumption; (first | assumption | exact (show (2 : Int).natAbs < 2 ^ 70 by decide)))
  | exact r__law_alike (by assumption)
  | exact r__law_prime 
  | exact r__law_holds (ex_t (by assumption) (by assumption))
  | exact r__law_turned (ex_t (by assumption) (by assumption)))
def R__law_broken (K : PySem.W.Frag) : List V → Hp → List V → Prop := fun vs H xs => ∃ (p : Addr) (f : Fmt) (r : Rl), vs = [.ref p, .str (rlS r)] ∧ (SqT K H p (fV f)) ∧ xs = (cexN f r).map V.int
theorem r__law_broken {K : PySem.W.Frag} {H : Hp} {p : Addr} {f : Fmt} {r : Rl} (h0 : SqT K H p (fV f)) : R__law_broken K [.ref p, .str (rlS r)] H ((cexN f r).map V.int) := ⟨_, _, _, rfl, h0, rfl⟩
abbrev s__law_broken : Stmt := top 178
abbrev N__law_broken : List Str := ["form", "rule", "w", "signs", "overflow", "division", "low", "high", "half", "trap", "whole", "found", "signed", "pair"]
theorem sc__law_broken : FnScope N__law_broken ["form", "rule"] (defScope s__law_broken) := ⟨rfl, rfl, rfl, by decide +kernel, rfl, by decide +kernel, by decide +kernel⟩
theorem ok__law_broken (T : Txt w K mg) (D0 : DefAt K mg "_law_broken" s__law_broken) (c__law_high : Cal P w K mg base CX0 1 "_law_high" ["form"] (Pu (R__law_high K))) (c__law_low : Cal P w K mg base CX0 1 "_law_low" ["form"] (Pu (R__law_low K))) (c__law_turned : Cal P w K mg base CX0 1 "_law_turned" ["form", "low"] (PuT (R__law_turned K))) (c_least_factor : Cal P w K mg base CX0 4 "least_factor" ["w"] (Pu (R_least_factor K)))  : Cal P w K mg base CX0 5 "_law_broken" ["form", "rule"] (PuT (R__law_broken K)) := by
  refine D0.cal sc__law_broken (fun vs H Q E h => by obtain ⟨xs, ⟨_, _, _, rfl, _⟩, _⟩ := h; rfl) (fun _ _ _ _ _ _ us hl => match us, hl with | [_, _], _ => rfl) (fun f cdv A outer s H vs Q E hr h => ?_)
  obtain ⟨xs, ⟨p, ⟨w0, sg, ov, dv, h4, h64⟩, r, rfl, hf, rfl⟩, k⟩ := h
  have hu := hu_of hr
  refine ⟨_, (pss_cons (ps_asg (pv 0) (pg_tup (by rfl) (pgs_cons (pg_name (i := 2) sc__law_broken.nd rfl (Or.inl rfl)) (pgs_cons (pg_name (i := 3) sc__law_broken.nd rfl (Or.inl rfl)) (pgs_cons (pg_name (i := 4) sc__law_broken.nd rfl (Or.inl rfl)) (pgs_cons (pg_name (i := 5) sc__law_broken.nd rfl (Or.inl rfl)) pgs_nil))))))
      (pss_cons (ps_asg (pe_tup (pa_cons (pe_own c__law_low (hr.mono (by decide)) rfl pass0 (pa_cons (pv 0) pa_nil)) (pa_cons (pe_own c__law_high (hr.mono (by decide)) rfl pass0 (pa_cons (pv 0) pa_nil)) (pa_cons (pe_op op_shl pe_int (pe_op op_sub (pv 2) pe_int)) (pa_cons (pe_cmpR op_eq (pv 4) pe_str (nomark _)) pa_nil))))) (pg_tup (by rfl) (pgs_cons (pg_name (i := 6) sc__law_broken.nd rfl (Or.inl rfl)) (pgs_cons (pg_name (i := 7) sc__law_broken.nd rfl (Or.inl rfl)) (pgs_cons (pg_name (i := 8) sc__law_broken.nd rfl (Or.inl rfl)) (pgs_cons (pg_name (i := 9) sc__law_broken.nd rfl (Or.inl rfl)) pgs_nil))))))
      (pss_cons (ps_set (i := 10) sc__law_broken.nd rfl (Or.inl rfl) (pe_op op_sub (pe_op op_shl pe_int (pv 2)) pe_int))
      (pss_cons (ps_set (i := 11) sc__law_broken.nd rfl (Or.inl rfl) (pe_disp (pps_cons pe_str (pe_tup (pa_cons (pv 7) (pa_cons pe_int (pa_cons (pe_op op_sub pe_int pe_int) pa_nil)))) (pps_cons pe_str (pe_ifExp (pt_val (pv 9)) (pe_tup (pa_cons (pv 7) (pa_cons pe_int (pa_cons pe_int pa_nil)))) (pe_tup (pa_cons (pv 6) (pa_cons (pe_op op_sub pe_int pe_int) (pa_cons (pe_op op_sub pe_int pe_int) pa_nil))))) pps_nil)) (by rfl) (by rfl) (fun z => by cases z) (by decide)))
      (pss_cons (ps_dput hu (pv 11) pe_str (pe_ifExp (pt_val (pv 9)) (pe_tup (pa_cons pe_int (pa_cons (pv 7) (pa_cons pe_int pa_nil)))) (pe_tup (pa_cons pe_int (pa_cons (pv 7) (pa_cons (pe_op op_sub pe_int pe_int) pa_nil))))) rfl)
      (pss_cons (ps_asg (pe_ifExp (pt_cmpR op_eq (pv 3) pe_str (nomark _)) (pe_tup (pa_cons (pe_tup (pa_cons (pv 6) pa_nil)) (pa_cons (pe_tup (pa_cons (pe_op op_sub pe_int pe_int) (pa_cons (pv 6) pa_nil))) pa_nil))) (pe_tup (pa_cons (pe_tup (pa_cons pe_int pa_nil)) (pa_cons (pe_tup (pa_cons pe_int (pa_cons pe_int pa_nil))) pa_nil)))) (pg_tup (by rfl) (pgs_cons (pg_sub (pv 11) pe_str (L2.set_dict hu)) (pgs_cons (pg_sub (pv 11) pe_str (L2.set_dict hu)) pgs_nil))))
      (pss_cons (ps_asg (pe_tup (pa_cons (pe_tup (pa_cons (pv 6) (pa_cons pe_int pa_nil))) (pa_cons (pe_tup (pa_cons (pv 6) (pa_cons pe_int pa_nil))) (pa_cons (pe_tup (pa_cons (pv 6) (pa_cons pe_int pa_nil))) pa_nil)))) (pg_tup (by rfl) (pgs_cons (pg_sub (pv 11) pe_str (L2.set_dict hu)) (pgs_cons (pg_sub (pv 11) pe_str (L2.set_dict hu)) (pgs_cons (pg_sub (pv 11) pe_str (L2.set_dict hu)) pgs_nil)))))
      (pss_cons (ps_set (i := 12) sc__law_broken.nd rfl (Or.inl rfl) (pe_ifExp (pt_cmpR op_eq (pv 3) pe_str (nomark _)) (pe_tup (pa_cons (pv 6) (pa_cons (pe_op op_sub pe_int pe_int) pa_nil))) (pe_ifExp (pt_cmpR op_in_seq (pv 5) (pe_lst (pa_cons pe_str (pa_cons pe_str pa_nil))) (by rfl)) (pe_tup (pa_cons (pv 6) (pa_cons pe_int pa_nil))) (pe_tup (pa_cons (pv 7) (pa_cons pe_int pa_nil))))))
      (pss_cons (ps_dput hu (pv 11) pe_str (pe_ifExp (pt_cmpR op_ne (pv 3) pe_str (nomark _)) (pv 12) (pe_ifExp (pt_cmpR op_eq (pv 5) pe_str (nomark _)) (pe_tup (pa_cons pe_int (pa_cons pe_int pa_nil))) (pe_tup (pa_cons pe_int (pa_cons pe_int pa_nil))))) rfl)
      (pss_cons (ps_dput hu (pv 11) pe_str (pe_dget2 hu (pe_disp (pps_cons pe_str (pe_tup (pa_cons pe_int (pa_cons (pe_op op_sub pe_int pe_int) pa_nil))) (pps_cons pe_str (pe_tup (pa_cons (pe_op op_sub pe_int pe_int) (pa_cons pe_int pa_nil))) (pps_cons pe_str (pe_tup (pa_cons pe_int (pa_cons pe_int pa_nil))) (pps_cons pe_str (pe_tup (pa_cons pe_int (pa_cons pe_int pa_nil))) pps_nil)))) (by rfl) (by rfl) (fun z => by cases z) (by decide)) (pv 5) (pe_tup pa_nil) ⟨rfl, rfl, rfl, rfl⟩) rfl)
      (pss_cons (ps_asg (pe_tup (pa_cons (pe_own c__law_turned (hr.mono (by decide)) rfl pass0 (pa_cons (pv 0) (pa_cons (pv 6) pa_nil))) (pa_cons (pe_tup (pa_cons (pv 6) pa_nil)) (pa_cons (pe_tup (pa_cons (pe_op op_sub (pv 7) pe_int) (pa_cons (pv 7) (pa_cons pe_int pa_nil)))) pa_nil)))) (pg_tup (by rfl) (pgs_cons (pg_sub (pv 11) pe_str (L2.set_dict hu)) (pgs_cons (pg_sub (pv 11) pe_str (L2.set_dict hu)) (pgs_cons (pg_sub (pv 11) pe_str (L2.set_dict hu)) pgs_nil)))))
      (pss_cons (ps_dput hu (pv 11) pe_str (pe_dget2 hu (pe_disp (pps_cons pe_str (pe_tup (pa_cons (pe_op op_sub pe_int pe_int) pa_nil)) (pps_cons pe_str (pe_tup (pa_cons pe_int pa_nil)) (pps_cons pe_str (pe_tup (pa_cons pe_int pa_nil)) pps_nil))) (by rfl) (by rfl) (fun z => by cases z) (by decide)) (pv 5) (pe_tup pa_nil) ⟨rfl, rfl, rfl, rfl⟩) rfl)
      (pss_cons (ps_dput hu (pv 11) pe_str (pe_ifExp (pt_val (pv 9)) (pe_tup (pa_cons (pv 7) pa_nil)) (pe_tup (pa_cons (pe_op op_sub (pe_op op_shl pe_int (pe_op op_fdivB (pv 2) pe_int)) (pe_callTy call_int1 (by rfl) T.n_int (by decide +kernel) (pa_cons (pe_cmpR op_eq (pe_op op_modN (pv 2) pe_int) pe_int (nomark _)) pa_nil))) pa_nil))) rfl)
      (pss_cons (ps_set (i := 13) sc__law_broken.nd rfl (Or.inl rfl) (pe_ifExp (pt_cmpR op_eq (pv 3) pe_str (nomark _)) (pe_tup (pa_cons pe_int (pa_cons (pv 6) pa_nil))) (pe_tup (pa_cons pe_int (pa_cons (pv 8) pa_nil)))))
      (pss_cut (ps_if (PW.pt (pw_and (pt_cmpR op_eq (pv 3) pe_str (nomark _)) (pw_and1 (pt_cmpR op_in_seq (pv 1) (pe_lst (pa_cons pe_str (pa_cons pe_str pa_nil))) (by rfl))))) (pss_one (ps_set (i := 13) sc__law_broken.nd rfl (Or.inl rfl) (pe_tup (pa_cons (pe_own c_least_factor (hr.mono (by decide)) rfl pass0 (pa_cons (pv 2) pa_nil)) (pa_cons (pe_op op_fdivB (pv 10) (pe_callTy call_int1 (by rfl) T.n_int (by decide +kernel) (pa_cons (pe_own c_least_factor (hr.mono (by decide)) rfl pass0 (pa_cons (pv 2) pa_nil)) pa_nil))) pa_nil))))) pss_nil)
      (pss_cons (ps_asg (pe_tup (pa_cons (pv 13) (pa_cons (pe_ifExp (pt_cmpR op_eq (pv 4) pe_str (nomark _)) (pe_tup (pa_cons (pe_ix ix_tup (pv 13) pe_int (fun _ _ => rfl)) (pa_cons pe_int (pa_cons (pe_ix ix_tup (pv 13) pe_int (fun _ _ => rfl)) pa_nil)))) (pe_tup (pa_cons pe_int (pa_cons (pv 7) (pa_cons (pe_op op_sub (pv 7) pe_int) pa_nil))))) pa_nil))) (pg_tup (by rfl) (pgs_cons (pg_sub (pv 11) pe_str (L2.set_dict hu)) (pgs_cons (pg_sub (pv 11) pe_str (L2.set_dict hu)) pgs_nil))))
      (pss_one (ps_ret (pe_dget hu (pv 11) (pv 1) (fun _ _ => rfl)))))))))))))))))))), bl_go ?_⟩
  have w2 : 2 ≤ w0 := by omega
  have hq := fdiv2 w0
  have hq' : ((w0 / 2 : Nat) : Int) ≤ 40 := by omega
  have d2 : CDivB (w0 : Int) 2 := sm_div (show (2 : Int).natAbs < 2 ^ 70 by decide) (by decide)
  apply bl_unp4 (hx := hf)
  · walk_at "ev"
  · rfl
  apply bl_asgU
  · apply eu_tup
    · walk_at "ea"
    · exact Nat.le_of_ble_eq_true rfl
  intro q H1 hq0 e1 hx1
  refine ⟨q, _, rfl, st_of hx1, rfl, _, _, rfl, _, _, rfl, _, _, rfl, _, _, rfl, rfl, ?_⟩
  have hf1 := ex_t e1 hf
  dsimp only
  apply bl_go
  walk_at "set"
  apply WB.bl_setDN (B := H) e1
  · walk_at "dpN"
  · exact Nat.le_of_ble_eq_true rfl
  · exact (show ([Sum.inr "sum grouping", Sum.inr "product grouping"] : List Key).Nodup by decide +kernel)
  intro d G0 dn F0
  change Bl _ _ ([some (.ref p), some (.str (rlS r)), some (.int (w0 : Int)), some (.str (sgS sg)), some (.str (ovS ov)), some (.str (dvS dv)), some (.int (lo (⟨w0, sg, ov, dv, h4, h64⟩ : Fmt))), some (.int (hi (⟨w0, sg, ov, dv, h4, h64⟩ : Fmt))), some (.int ((1 : Int) * 2 ^ ((w0 : Int) - 1).toNat)), some (.bl (decide (V.str (ovS ov) = V.str "trap"))), some (.int ((1 : Int) * 2 ^ ((w0 : Int)).toNat - 1)), some (.ref d), none, none] : L2.St) _
  have x0 := F0.ex
  have hf0 := ex_t x0 hf
  refine WB.bl_tput1 F0 dn (by walk_at "en") (ev_var rfl) ev_c (show (["sum grouping", "product grouping"] : List Str).contains "distribution" = false by decide +kernel) (Nat.lt_of_sub_eq_succ rfl) (fun G1 F1 => ?_)
  have x1 := F1.ex
  have hf1 := ex_t x1 hf
  refine WB.bl_tput2 F1 dn rfl (by walk_at "ens") (show (["distribution", "sum grouping", "product grouping"] : List Str).contains "double negation" = false by decide +kernel) (show (["double negation", "distribution", "sum grouping", "product grouping"] : List Str).contains "difference" = false by decide +kernel) (Nat.lt_of_sub_eq_succ rfl) (fun G2 F2 => ?_)
  have x2 := F2.ex
  have hf2 := ex_t x2 hf
  refine WB.bl_tput3 F2 dn rfl (by walk_at "ens") (show (["difference", "double negation", "distribution", "sum grouping", "product grouping"] : List Str).contains "add back" = false by decide +kernel) (show (["add back", "difference", "double negation", "distribution", "sum grouping", "product grouping"] : List Str).contains "order by difference" = false by decide +kernel) (show (["order by difference", "add back", "difference", "double negation", "distribution", "sum grouping", "product grouping"] : List Str).contains "average" = false by decide +kernel) (Nat.lt_of_sub_eq_succ rfl) (fun G3 F3 => ?_)
  have x3 := F3.ex
  have hf3 := ex_t x3 hf
  refine WB.bl_setN (B := H) (by walk_at "en") (fun ps G4 hps e4' hsx => ?_)
  have F4 := F3.mono e4'
  change Bl _ _ ([some (.ref p), some (.str (rlS r)), some (.int (w0 : Int)), some (.str (sgS sg)), some (.str (ovS ov)), some (.str (dvS dv)), some (.int (lo (⟨w0, sg, ov, dv, h4, h64⟩ : Fmt))), some (.int (hi (⟨w0, sg, ov, dv, h4, h64⟩ : Fmt))), some (.int ((1 : Int) * 2 ^ ((w0 : Int) - 1).toNat)), some (.bl (decide (V.str (ovS ov) = V.str "trap"))), some (.int ((1 : Int) * 2 ^ ((w0 : Int)).toNat - 1)), some (.ref d), some (.ref ps), none] : L2.St) _
  have x4 := F4.ex
  have hf4 := ex_t x4 hf
  refine WB.bl_tput1 F4 dn (WB.en_if (by walk_at "et") (WB.en_var rfl hps hsx) (by walk_at "en")) (ev_var rfl) ev_c (show (["average", "order by difference", "add back", "difference", "double negation", "distribution", "sum grouping", "product grouping"] : List Str).contains "division" = false by decide +kernel) (Nat.lt_of_sub_eq_succ rfl) (fun G5 F5 => ?_)
  have x5 := F5.ex
  have hf5 := ex_t x5 hf
  refine WB.bl_tput1 F5 dn (WB.en_get2 (kxs := [("floor", [V.int (1), V.int (0 - 2)]), ("zero", [V.int (0 - 1), V.int (2)]), ("ceiling", [V.int (1), V.int (2)]), ("even", [V.int (3), V.int (2)])]) (z := dvS dv) (xs := (cexN (⟨w0, sg, ov, dv, h4, h64⟩ : Fmt) .remR).map V.int) (ys := []) x5 (by walk_at "dpN") (Nat.le_of_ble_eq_true rfl) (show ([Sum.inr "floor", Sum.inr "zero", Sum.inr "ceiling", Sum.inr "even"] : List Key).Nodup by decide +kernel) (ev_var rfl) (eu_tup ea_nil (Nat.zero_le _)) (by
    cases dv <;> first | exact .inl ⟨_, List.mem_of_getElem? (i := 0) rfl, rfl, rfl⟩ | exact .inl ⟨_, List.mem_of_getElem? (i := 1) rfl, rfl, rfl⟩ | exact .inl ⟨_, List.mem_of_getElem? (i := 2) rfl, rfl, rfl⟩ | exact .inl ⟨_, List.mem_of_getElem? (i := 3) rfl, rfl, rfl⟩ | exact .inr ⟨fun kx hk => (by
      simp only [List.mem_cons, List.not_mem_nil, or_false] at hk
      rcases hk with rfl | rfl | rfl | rfl <;> decide +kernel), rfl⟩)) (ev_var rfl) ev_c (show (["division", "average", "order by difference", "add back", "difference", "double negation", "distribution", "sum grouping", "product grouping"] : List Str).contains "remainder range" = false by decide +kernel) (Nat.lt_of_sub_eq_succ rfl) (fun G6 F6 => ?_)
  have x6 := F6.ex
  have hf6 := ex_t x6 hf
  refine WB.bl_tput3 F6 dn rfl (by walk_at "ens") (show (["remainder range", "division", "average", "order by difference", "add back", "difference", "double negation", "distribution", "sum grouping", "product grouping"] : List Str).contains "negated quotient" = false by decide +kernel) (show (["negated quotient", "remainder range", "division", "average", "order by difference", "add back", "difference", "double negation", "distribution", "sum grouping", "product grouping"] : List Str).contains "absolute value" = false by decide +kernel) (show (["absolute value", "negated quotient", "remainder range", "division", "average", "order by difference", "add back", "difference", "double negation", "distribution", "sum grouping", "product grouping"] : List Str).contains "monotone sum" = false by decide +kernel) (Nat.lt_of_sub_eq_succ rfl) (fun G7 F7 => ?_)
  have x7 := F7.ex
  have hf7 := ex_t x7 hf
  refine WB.bl_tput1 F7 dn (WB.en_get2 (kxs := [("zero", [V.int (0 - 1)]), ("ceiling", [V.int (1)]), ("even", [V.int (3)])]) (z := dvS dv) (xs := (cexN (⟨w0, sg, ov, dv, h4, h64⟩ : Fmt) .shift).map V.int) (ys := []) x7 (by walk_at "dpN") (Nat.le_of_ble_eq_true rfl) (show ([Sum.inr "zero", Sum.inr "ceiling", Sum.inr "even"] : List Key).Nodup by decide +kernel) (ev_var rfl) (eu_tup ea_nil (Nat.zero_le _)) (by
    cases dv <;> first | exact .inl ⟨_, List.mem_of_getElem? (i := 0) rfl, rfl, rfl⟩ | exact .inl ⟨_, List.mem_of_getElem? (i := 1) rfl, rfl, rfl⟩ | exact .inl ⟨_, List.mem_of_getElem? (i := 2) rfl, rfl, rfl⟩ | exact .inr ⟨fun kx hk => (by
      simp only [List.mem_cons, List.not_mem_nil, or_false] at hk
      rcases hk with rfl | rfl | rfl <;> decide +kernel), rfl⟩)) (ev_var rfl) ev_c (show (["monotone sum", "absolute value", "negated quotient", "remainder range", "division", "average", "order by difference", "add back", "difference", "double negation", "distribution", "sum grouping", "product grouping"] : List Str).contains "shift" = false by decide +kernel) (Nat.lt_of_sub_eq_succ rfl) (fun G8 F8 => ?_)
  have x8 := F8.ex
  have hf8 := ex_t x8 hf
  refine WB.bl_tput1 F8 dn (by walk_at "en") (ev_var rfl) ev_c (show (["shift", "monotone sum", "absolute value", "negated quotient", "remainder range", "division", "average", "order by difference", "add back", "difference", "double negation", "distribution", "sum grouping", "product grouping"] : List Str).contains "square" = false by decide +kernel) (Nat.lt_of_sub_eq_succ rfl) (fun G9 F9 => ?_)
  have x9 := F9.ex
  have hf9 := ex_t x9 hf
  refine WB.bl_setN (B := H) (xs := [.int 2, .int (if decide (V.str (sgS sg) = V.str "twos") = true then lo (⟨w0, sg, ov, dv, h4, h64⟩ : Fmt) else (1 : Int) * 2 ^ ((w0 : Int) - 1).toNat)]) (WB.en_is (by walk_at "en") (by cases sg <;> rfl)) (fun pp G10 hpp e10' hpx => ?_)
  have F10 := F9.mono e10'
  change Bl _ _ ([some (.ref p), some (.str (rlS r)), some (.int (w0 : Int)), some (.str (sgS sg)), some (.str (ovS ov)), some (.str (dvS dv)), some (.int (lo (⟨w0, sg, ov, dv, h4, h64⟩ : Fmt))), some (.int (hi (⟨w0, sg, ov, dv, h4, h64⟩ : Fmt))), some (.int ((1 : Int) * 2 ^ ((w0 : Int) - 1).toNat)), some (.bl (decide (V.str (ovS ov) = V.str "trap"))), some (.int ((1 : Int) * 2 ^ ((w0 : Int)).toNat - 1)), some (.ref d), some (.ref ps), some (.ref pp)] : L2.St) _
  have x10 := F10.ex
  have hf10 := ex_t x10 hf
  intro HA eA
  obtain ⟨kx0, hk0, FA⟩ := (F10.mono eA).named
  have hppA := eA _ _ hpx
  have hfA := ex_t FA.ex hf
  refine q_cut (M := fun s' H' => ∃ (pp : Addr) (a b : Int), s' = [some (.ref p), some (.str (rlS r)), some (.int (w0 : Int)), some (.str (sgS sg)), some (.str (ovS ov)), some (.str (dvS dv)), some (.int (lo (⟨w0, sg, ov, dv, h4, h64⟩ : Fmt))), some (.int (hi (⟨w0, sg, ov, dv, h4, h64⟩ : Fmt))), some (.int ((1 : Int) * 2 ^ ((w0 : Int) - 1).toNat)), some (.bl (decide (V.str (ovS ov) = V.str "trap"))), some (.int ((1 : Int) * 2 ^ ((w0 : Int)).toNat - 1)), some (.ref d), some (.ref ps), some (.ref pp)] ∧ H pp = none ∧ H' pp = some (.tup [.int a, .int b]) ∧ WB.FilT H d kx0 H' ∧ ((r = .zeroP ∨ r = .canc) → cexN (⟨w0, sg, ov, dv, h4, h64⟩ : Fmt) .zeroP = [a, b])) ?_ ?_
  · apply bl_go
    have lfb := lfac_bd w2 h64
    have sl : Sm (lfac w0 : Int) := by
      unfold Sm
      have : 18446744073709551616 < 2 ^ 70 := by decide
      omega
    have d1 : CDivB ((1 : Int) * 2 ^ ((w0 : Int)).toNat - 1) (lfac w0 : Int) := sm_div sl (by omega)
    have xA := FA.ex
    by_cases hs : sg = .sym ∧ (r = .zeroP ∨ r = .canc)
    · obtain ⟨hs1, hs2⟩ := hs
      subst hs1
      refine bl_ifLast (b := true) ?_ (fun _ => ?_) (fun z => by cases z)
      · refine et_is (et_and (a := true) (b := true) (by walk_at "et") (fun _ => et_is (et_test (ev_inLst (ev_var rfl) (by walk_at "ea") (Nat.le_of_ble_eq_true rfl) rfl rfl)) ?_)) rfl
        rcases hs2 with rfl | rfl <;> decide +kernel
      · refine WB.bl_setNE (B := H) (xs := [.int (lfac w0 : Int), .int (((1 : Int) * 2 ^ ((w0 : Int)).toNat - 1).fdiv (lfac w0 : Int))]) (by walk_at "en") (fun pp H2 h1 h2 h3 => ⟨pp, _, _, rfl, h1, h3, FA.mono h2, fun _ => ?_⟩)
        rw [shl_w]
        rfl
    · refine bl_ifLast (b := false) ?_ (fun z => by cases z) (fun _ H2 h2 => ?_)
      · by_cases h1 : sg = .sym
        · refine et_is (et_and (a := true) (b := false) (by subst h1; walk_at "et") (fun _ => et_is (et_test (ev_inLst (ev_var rfl) (by walk_at "ea") (Nat.le_of_ble_eq_true rfl) rfl rfl)) ?_)) rfl
          have h2 : ¬ (r = .zeroP ∨ r = .canc) := fun z => hs ⟨h1, z⟩
          cases r <;> first | exact absurd (.inl rfl) h2 | exact absurd (.inr rfl) h2 | decide +kernel
        · refine et_is (et_and (a := false) (b := false) ?_ (fun z => by cases z)) rfl
          cases sg
          · exact absurd rfl h1
          · walk_at "et"
          · walk_at "et"
      · by_cases h1 : r = .zeroP ∨ r = .canc
        · cases sg
          · exact absurd ⟨rfl, h1⟩ hs
          · exact ⟨pp, _, _, rfl, hpp, h2 _ _ hppA, FA.mono h2, fun _ => rfl⟩
          · refine ⟨pp, _, _, rfl, hpp, h2 _ _ hppA, FA.mono h2, fun _ => ?_⟩
            rw [shl_w1]
            rfl
        · cases sg
          · exact ⟨pp, _, _, rfl, hpp, h2 _ _ hppA, FA.mono h2, fun z => absurd z h1⟩
          · exact ⟨pp, _, _, rfl, hpp, h2 _ _ hppA, FA.mono h2, fun z => absurd z h1⟩
          · exact ⟨pp, _, _, rfl, hpp, h2 _ _ hppA, FA.mono h2, fun z => absurd z h1⟩
  rintro s' G11 ⟨pp, a, b, rfl, hpp, hpx, F11, hP⟩
  subst hk0
  have hpT : SqT K G11 pp [.int a, .int b] := st_of hpx
  apply bl_go
  have x11 := F11.ex
  have hf11 := ex_t x11 hf
  refine WB.bl_tput2 F11 dn rfl (WB.ens_tup (WB.ean_cons (WB.en_var rfl hpp hpx) (WB.ean_cons (WB.en_of x11 (WB.eu_ifB (by walk_at "et") (by walk_at "eu") (by walk_at "eu"))) WB.ean_nil)) (Nat.le_of_ble_eq_true rfl)) (show (["square", "shift", "monotone sum", "absolute value", "negated quotient", "remainder range", "division", "average", "order by difference", "add back", "difference", "double negation", "distribution", "sum grouping", "product grouping"] : List Str).contains "zero product" = false by decide +kernel) (show (["zero product", "square", "shift", "monotone sum", "absolute value", "negated quotient", "remainder range", "division", "average", "order by difference", "add back", "difference", "double negation", "distribution", "sum grouping", "product grouping"] : List Str).contains "cancellation" = false by decide +kernel) (Nat.lt_of_sub_eq_succ rfl) (fun G12 F12 => ?_)
  have x12 := F12.ex
  have hf12 := ex_t x12 hf
  cases r
  · refine WB.bl_retNE (z := "sum grouping") F12 (ev_var rfl) (ev_var rfl) (List.mem_of_getElem? (i := 15) rfl) ?_ k
    rfl
  · refine WB.bl_retNE (z := "product grouping") F12 (ev_var rfl) (ev_var rfl) (List.mem_of_getElem? (i := 16) rfl) ?_ k
    cases ov <;> rfl
  · refine WB.bl_retNE (z := "distribution") F12 (ev_var rfl) (ev_var rfl) (List.mem_of_getElem? (i := 14) rfl) ?_ k
    cases ov <;> rfl
  · refine WB.bl_retNE (z := "double negation") F12 (ev_var rfl) (ev_var rfl) (List.mem_of_getElem? (i := 13) rfl) ?_ k
    cases sg <;> rfl
  · refine WB.bl_retNE (z := "difference") F12 (ev_var rfl) (ev_var rfl) (List.mem_of_getElem? (i := 12) rfl) ?_ k
    cases sg <;> rfl
  · refine WB.bl_retNE (z := "add back") F12 (ev_var rfl) (ev_var rfl) (List.mem_of_getElem? (i := 11) rfl) ?_ k
    rfl
  · refine WB.bl_retNE (z := "division") F12 (ev_var rfl) (ev_var rfl) (List.mem_of_getElem? (i := 8) rfl) ?_ k
    cases sg <;> cases dv <;> rfl
  · refine WB.bl_retNE (z := "remainder range") F12 (ev_var rfl) (ev_var rfl) (List.mem_of_getElem? (i := 7) rfl) ?_ k
    rfl
  · refine WB.bl_retNE (z := "negated quotient") F12 (ev_var rfl) (ev_var rfl) (List.mem_of_getElem? (i := 6) rfl) ?_ k
    rfl
  · refine WB.bl_retNE (z := "shift") F12 (ev_var rfl) (ev_var rfl) (List.mem_of_getElem? (i := 3) rfl) ?_ k
    rfl
  · refine WB.bl_retNE (z := "absolute value") F12 (ev_var rfl) (ev_var rfl) (List.mem_of_getElem? (i := 5) rfl) ?_ k
    rfl
  · refine WB.bl_retNE (z := "order by difference") F12 (ev_var rfl) (ev_var rfl) (List.mem_of_getElem? (i := 10) rfl) ?_ k
    rfl
  · refine WB.bl_retNE (z := "monotone sum") F12 (ev_var rfl) (ev_var rfl) (List.mem_of_getElem? (i := 4) rfl) ?_ k
    rfl
  · refine WB.bl_retNE (z := "average") F12 (ev_var rfl) (ev_var rfl) (List.mem_of_getElem? (i := 9) rfl) ?_ k
    rfl
  · refine WB.bl_retNE (z := "square") F12 (ev_var rfl) (ev_var rfl) (List.mem_of_getElem? (i := 2) rfl) ?_ k
    rw [hq, shl_n, dec_i]
    unfold cexN
    dsimp only
    cases ov <;> first | rfl | skip
    all_goals
      by_cases hp : w0 % 2 = 0
      · rw [decide_eq_true ((par_w w0).mpr hp), if_pos hp]
        rfl
      · rw [decide_eq_false (fun z => hp ((par_w w0).mp z)), if_neg hp]
        exact congrArg (fun z => [V.int z]) (Int.sub_zero _)
  · refine WB.bl_retNE (z := "zero product") F12 (ev_var rfl) (ev_var rfl) (List.mem_of_getElem? (i := 1) rfl) ?_ k
    rw [hP (.inl rfl)]
    rfl
  · refine WB.bl_retNE (z := "cancellation") F12 (ev_var rfl) (ev_var rfl) (List.mem_of_getElem? (i := 0) rfl) ?_ k
    cases ov
    case wrap =>
      obtain ⟨x, y, c1, c2⟩ := canc_zero (f := ⟨w0, sg, .wrap, dv, h4, h64⟩) rfl
      have := (hP (.inr rfl)).symm.trans c1
      cases this
      rw [c2]
      rfl
    all_goals rfl

end
end K1

set_option maxHeartbeats 4000000
namespace K1
open PySem PySem.Spec PyProof.Rows L2 Evl WM WL WLam WX WT WU StX LamX
local macro_rules | `(tactic| walk_at "ev") => `(tactic| first
  | exact ev_c
  | exact ev_var rfl
  | ((with_reducible apply ev_op); (walk_at "ev"); (walk_at "ev"); (walk_at "rv"))
  | ((with_reducible apply ev_un); (walk_at "ev"); exact ru_neg)
  | ((with_reducible apply ev_notV); (walk_at "ev"))
  | ((with_reducible apply ev_andV); (walk_at "ev"); (intro _; walk_at "ev"))
  | ((with_reducible apply ev_orV); (walk_at "ev"); (intro _; walk_at "ev"))
  | ((with_reducible apply ev_ifT); (walk_at "et"); (exact rfl); (walk_at "ev"))
  | ((with_reducible apply ev_ifF); (walk_at "et"); (exact rfl); (walk_at "ev"))
  | ((with_reducible apply ev_ifB); (walk_at "et"); (intro _; walk_at "ev"); (intro _; walk_at "ev"))
  | ((with_reducible apply ev_chainI); (walk_at "ev"); (walk_at "ev"); (walk_at "ev"))
  | ((with_reducible apply ev_own); (walk_at "ea"); (intro _ _; walk_at "own"))
  | ((with_reducible apply ev_ddS); (walk_at "dp"); (exact Nat.le_of_ble_eq_true rfl); (walk_at "ev"); (exact rfl))
  | ((with_reducible apply ev_isiT); (walk_at "ev"); (walk_at "ea"); (walk_at "isiT"))
  | ((with_reducible apply ev_cb); (walk_at "ea"); (walk_at "rc")))
local macro_rules | `(tactic| walk_at "dp") => `(tactic| first
  | exact Paired.nil
  | ((with_reducible apply dp_cons); (exact ev_c); (walk_at "ev"); (walk_at "dp")))
local macro_rules | `(tactic| walk_at "ea") => `(tactic| first
  | exact ea_nil
  | ((with_reducible apply ea_cons); (walk_at "ev"); (walk_at "ea")))
local macro_rules | `(tactic| walk_at "et") => `(tactic| first
  | ((with_reducible apply et_test); (walk_at "ev"))
  | ((with_reducible apply et_B); (walk_at "ev"))
  | ((with_reducible apply et_not); (walk_at "et"))
  | ((with_reducible apply et_and); (walk_at "et"); (intro _; walk_at "et"))
  | ((with_reducible apply et_or); (walk_at "et"); (intro _; walk_at "et")))
local macro_rules | `(tactic| walk_at "rv") => `(tactic| first
  | exact rv_I0
  | exact rv_eq rfl
  | exact rv_ne rfl
  | exact rv_isT (by assumption) rfl rfl
  | exact rv_niT (by assumption) rfl rfl
  | exact rv_isL (by assumption) rfl rfl
  | exact rv_niL (by assumption) rfl rfl
  | exact rv_ixT (by assumption) rfl
  | exact rv_ixL (by assumption) rfl
  | exact rv_ixL (by assumption) (by assumption)
  | (apply rv_I; (walk_at "side")))
local macro_rules | `(tactic| walk_at "side") => `(tactic| first
  | assumption
  | (refine And.intro ?_ (And.intro ?_ ?_) <;> (try dsimp only) <;> first | omega | decide)
  | (dsimp only; omega)
  | omega)
local macro_rules | `(tactic| walk_at "rc") => `(tactic| first
  | exact rc_abs | exact rc_max2 | exact rc_min2 | exact rc_int | exact rc_intB
  | exact rc_isi_int (b := true) (by decide +kernel)
  | exact rc_isi_int (b := false) (by decide +kernel)
  | exact rc_isi_bl (b := true) (by decide +kernel)
  | exact rc_isi_bl (b := false) (by decide +kernel)
  | exact rc_isi_str (b := true) (by decide +kernel)
  | exact rc_isi_str (b := false) (by decide +kernel)
  | exact rc_isi_T (b := true) (by assumption) (by decide +kernel)
  | exact rc_isi_T (b := false) (by assumption) (by decide +kernel)
  | exact rc_lenT (by assumption)
  | exact rc_lenL (by assumption))
local macro_rules | `(tactic| walk_at "set") => `(tactic| ((with_reducible apply bl_set); (walk_at "ev")))
local macro_rules | `(tactic| walk_at "drop") => `(tactic| ((with_reducible apply bl_drop); (walk_at "ev")))
local macro_rules | `(tactic| walk_at "par") => `(tactic| ((with_reducible apply bl_par); (walk_at "ea")))
local macro_rules | `(tactic| walk_at "if") => `(tactic| ((with_reducible apply bl_when); (walk_at "et")))
local macro_rules | `(tactic| walk_at "no") => `(tactic| ((with_reducible apply bl_when); (walk_at "et"); (intro h; exact absurd (show false = true from h) (by decide)); (intro _)))
local macro_rules | `(tactic| walk_at "yes") => `(tactic| ((with_reducible apply bl_when); (walk_at "et"); rotate_left; (intro h; exact absurd (show true = false from h) (by decide)); (intro _)))
local macro_rules | `(tactic| walk_at "ret") => `(tactic| ((with_reducible apply bl_retE); rotate_left; assumption; rotate_right; (walk_at "ev")))
local macro_rules | `(tactic| walk_at "absurd") => `(tactic| first | exact absurd (show false = true from (by assumption)) (by decide) | exact absurd (show true = false from (by assumption)) (by decide))
local macro_rules | `(tactic| walk_at "rv") => `(tactic| first | exact rv_isN (s := []) | exact rv_notKD (by assumption) | exact rv_inKD (by assumption) | exact rv_ixKD (by assumption))
local macro_rules | `(tactic| walk_at "isiT") => `(tactic| ((exact Nat.le_of_ble_eq_true rfl); (exact .cons (.ty _) (.cons (.ty _) .nil)); (first | exact fun _ _ => .base (.int _) | exact fun _ _ => .base (.bl _) | exact fun _ _ => .base (.str _) | exact fun _ _ => .base .non); (exact kitAny_no (by decide +kernel) (by decide +kernel))))
local macro_rules | `(tactic| walk_at "rc") => `(tactic| first | exact rc_isi_non (b := true) (by decide +kernel) | exact rc_isi_non (b := false) (by decide +kernel))
local macro_rules | `(tactic| walk_at "eu") => `(tactic| first
  | ((with_reducible apply eu_own); (walk_at "ea"); (intro _ _; walk_at "own"))
  | ((with_reducible apply eu_tup); (walk_at "ea"); (exact Nat.le_of_ble_eq_true rfl)))
local macro_rules | `(tactic| walk_at "ev") => `(tactic| ((with_reducible apply ev_own1U); (walk_at "eu"); (walk_at "ea"); (intro _ _ _ _; walk_at "own1")))
local macro_rules | `(tactic| walk_at "isr") => `(tactic| first | with_reducible exact isr_r | with_reducible exact isr_i | ((with_reducible apply isr_if) <;> (walk_at "isr")))
local macro_rules | `(tactic| walk_at "osm") => `(tactic| first | with_reducible assumption | with_reducible exact osm_add | with_reducible exact osm_sub | with_reducible exact osm_mul | with_reducible exact osm_dvo | with_reducible exact osm_neg | with_reducible exact osm_rem | with_reducible exact osm_do | with_reducible exact osm_div | with_reducible exact osm_fit | ((with_reducible apply osm); assumption) | ((with_reducible apply osm); exact (show (0 : Int).natAbs < 2 ^ 70 by decide)) | ((with_reducible apply osm); exact (show (2 : Int).natAbs < 2 ^ 70 by decide)) | ((with_reducible apply osm_if) <;> (walk_at "osm")))
local macro_rules | `(tactic| walk_at "ev") => `(tactic| first
  | ((with_reducible apply ev_inLst); (walk_at "ev"); (walk_at "ea"); (exact Nat.le_of_ble_eq_true rfl); (exact rfl); (first | exact rfl | simp [flatV])))
local macro_rules | `(tactic| walk_at "rv") => `(tactic| first | exact rv_eq scal_rv | exact rv_ne scal_rv | exact rv_eq (scal_rv (y := some _)) | exact rv_ne (scal_rv (y := some _)) | exact rv_eq (scal_rv (y := none)) | exact rv_ne (scal_rv (y := none)))
local macro_rules | `(tactic| walk_at "nz") => `(tactic| first | with_reducible assumption | ((with_reducible apply nz_i); (first | assumption | decide)))
local macro_rules | `(tactic| walk_at "ev") => `(tactic| ((with_reducible apply ev_inU); (walk_at "ev"); (walk_at "eu"); (exact rfl); (exact rfl)))
local macro_rules | `(tactic| walk_at "eu") => `(tactic| ((with_reducible apply WB.eu_ifB); (walk_at "et"); (walk_at "eu"); (walk_at "eu")))
section
variable {P : Program} {w : World} {K : PySem.W.Frag} {mg : Str → Option Value} {base : Heap}
local macro_rules | `(tactic| walk_at "own") => `(tactic| first
  | exact r_is_whole (by first | assumption | exact .int _ | exact Wh.ex (by assumption) (by assumption))
  | exact r_are_choices 
  | exact r_is_format (ex_t (by assumption) (by assumption))
  | exact r_check_format (ex_t (by assumption) (by assumption))
  | exact r_ends (ex_t (by assumption) (by assumption))
  | exact r_lowest (ex_t (by assumption) (by assumption))
  | exact r_highest (ex_t (by assumption) (by assumption))
  | exact r_terms_of (ex_t (by assumption) (by assumption))
  | exact r_fitted (ex_t (by assumption) (by assumption))
  | exact r__quotient_to_zero (by assumption) (by assumption) (by assumption)
  | exact r__quotient_to_even (by assumption) (by assumption) (by assumption)
  | exact r__quotient_of_euclid (by assumption) (by assumption) (by assumption)
  | exact r__exact_quotient (by assumption) (by assumption) (by assumption)
  | ((with_reducible apply r_plus_G); (exact (ex_t (by assumption) (by assumption))); (walk_at "isr"); (walk_at "isr"))
  | ((with_reducible apply r_minus_G); (exact (ex_t (by assumption) (by assumption))); (walk_at "isr"); (walk_at "isr"))
  | ((with_reducible apply r_times_G); (exact (ex_t (by assumption) (by assumption))); (walk_at "isr"); (walk_at "isr"); (walk_at "osm"); (walk_at "osm"))
  | ((with_reducible apply r_quotient_G); (exact (ex_t (by assumption) (by assumption))); (walk_at "isr"); (walk_at "isr"); (walk_at "osm"); (walk_at "osm"); (walk_at "nz"))
  | ((with_reducible apply r_opposite_G); (exact (ex_t (by assumption) (by assumption))); (walk_at "isr"))
  | exact r_rest (ex_t (by assumption) (by assumption)) (by assumption) (by assumption) (by assumption)
  | ((with_reducible apply r__at_most_G); (walk_at "isr"); (walk_at "isr"))
  | ((with_reducible apply r__below_G); (walk_at "isr"); (walk_at "isr"))
  | exact r_sum_grouping_rules (ex_t (by assumption) (by assumption)) (by assumption) (by assumption) (by assumption)
  | exact r_product_grouping_rules (ex_t (by assumption) (by assumption)) (by assumption) (by assumption) (by assumption)
  | exact r_distribution_rules (ex_t (by assumption) (by assumption)) (by assumption) (by assumption) (by assumption)
  | exact r_double_negation_rules (ex_t (by assumption) (by assumption)) (by assumption)
  | exact r_difference_rules (ex_t (by assumption) (by assumption)) (by assumption) (by assumption)
  | exact r_add_back_rules (ex_t (by assumption) (by assumption)) (by assumption) (by assumption)
  | exact r_division_rules (ex_t (by assumption) (by assumption)) (by assumption) (by assumption)
  | exact r_remainder_range_rules (ex_t (by assumption) (by assumption)) (by assumption) (by assumption)
  | exact r_negated_quotient_rules (ex_t (by assumption) (by assumption)) (by assumption) (by assumption)
  | exact r_shift_rules (ex_t (by assumption) (by assumption)) (by assumption)
  | exact r_absolute_value_rules (ex_t (by assumption) (by assumption)) (by assumption)
  | exact r_order_by_difference_rules (ex_t (by assumption) (by assumption)) (by assumption) (by assumption)
  | exact r_monotone_sum_rules (ex_t (by assumption) (by assumption)) (by assumption) (by assumption) (by assumption)
  | exact r_average_rules (ex_t (by assumption) (by assumption)) (by assumption) (by assumption)
  | exact r_square_rules (ex_t (by assumption) (by assumption)) (by assumption)
  | exact r_zero_product_rules (ex_t (by assumption) (by assumption)) (by assumption) (by assumption)
  | exact r_cancellation_rules (ex_t (by assumption) (by assumption)) (by assumption) (by assumption) (by assumption)
  | exact r_is_rule 
  | exact r_check_rule 
  | exact r__check_numbers (ex_t (by assumption) (by assumption)) (ex_t (by assumption) (by assumption)) (by assumption) (by assumption) (by assumption)
  | exact r_holds_for (ex_t (by assumption) (by assumption)) (ex_t (by assumption) (by assumption)) (by assumption) (by assumption)
  | exact r__check_exponent (by assumption) (by assumption)
  | exact r__passes_lucas_lehmer (by assumption) (by assumption) (by assumption)
  | exact r_is_mersenne (by assumption) (by assumption)
  | exact r_least_factor (by assumption) (by assumption)
  | exact r_sum_grouping_conditions 
  | exact r_product_grouping_conditions 
  | exact r_distribution_conditions 
  | exact r__negatives 
  | exact r_add_back_conditions 
  | exact r_division_conditions 
  | exact r_remainder_range_conditions 
  | exact r_negated_quotient_conditions 
  | exact r_shift_conditions 
  | exact r_absolute_value_conditions 
  | exact r_order_by_difference_conditions 
  | exact r_monotone_sum_conditions 
  | exact r_average_conditions 
  | exact r_square_conditions 
  | exact r_zero_product_conditions 
  | exact r_cancellation_conditions 
  | exact r_meets_condition (ex_t (by assumption) (by assumption))
  | exact r_holds (ex_t (by assumption) (by assumption))
  | exact r__half (ex_t (by assumption) (by assumption))
  | exact r__whole (ex_t (by assumption) (by assumption))
  | exact r__factors (ex_t (by assumption) (by assumption))
  | exact r_sum_grouping_breaches (ex_t (by assumption) (by assumption))
  | exact r_product_grouping_breaches (ex_t (by assumption) (by assumption))
  | exact r_distribution_breaches (ex_t (by assumption) (by assumption))
  | exact r_double_negation_breaches (ex_t (by assumption) (by assumption))
  | exact r_difference_breaches (ex_t (by assumption) (by assumption))
  | exact r__lowest_and_one (ex_t (by assumption) (by assumption))
  | exact r_division_breaches (ex_t (by assumption) (by assumption))
  | exact r_remainder_range_breaches (ex_t (by assumption) (by assumption)) (by assumption)
  | exact r_negated_quotient_breaches (ex_t (by assumption) (by assumption))
  | exact r_shift_breaches (ex_t (by assumption) (by assumption)) (by assumption)
  | exact r_absolute_value_breaches (ex_t (by assumption) (by assumption))
  | exact r_monotone_sum_breaches (ex_t (by assumption) (by assumption))
  | exact r_square_breaches (ex_t (by assumption) (by assumption))
  | exact r_zero_product_breaches (ex_t (by assumption) (by assumption))
  | exact r_cancellation_breaches (ex_t (by assumption) (by assumption))
  | exact r_breach (ex_t (by assumption) (by assumption)) (by assumption)
  | exact r_counterexample (ex_t (by assumption) (by assumption)) (by assumption)
  | exact r__law_low (ex_t (by assumption) (by assumption))
  | exact r__law_high (ex_t (by assumption) (by assumption))
  | exact r__law_fit (ex_t (by assumption) (by assumption)) (by assumption)
  | exact r__law_size (by assumption) (by assumption) (by assumption)
  | exact r__law_rest (ex_t (by assumption) (by assumption)) (by assumption) (by assumption) (by assumption)
  | exact r__law_rises (ex_l (by assumption) (by assumption)) (by assumption)
  | exact r__law_three (ex_t (by assumption) (by assumption)) (by assumption) (by assumption) (by assumption) (by assumption)
  | exact r__law_two (ex_t (by assumption) (by assumption)) (by assumption) (by assumption) (by assumption)
  | ((with_reducible apply r__law_do_Ga); (exact (ex_t (by assumption) (by assumption))); (walk_at "isr"); (walk_at "isr"); (walk_at "osm"); (walk_at "osm"))
  | ((with_reducible apply r__law_do_Gs); (exact (ex_t (by assumption) (by assumption))); (walk_at "isr"); (walk_at "isr"); (walk_at "osm"); (walk_at "osm"))
  | ((with_reducible apply r__law_do_Gm); (exact (ex_t (by assumption) (by assumption))); (walk_at "isr"); (walk_at "isr"); (walk_at "osm"); (walk_at "osm"))
  | ((with_reducible apply r__law_minus_G); (exact (ex_t (by assumption) (by assumption))); (walk_at "isr"); (walk_at "osm"))
  | ((with_reducible apply r__law_divide_G); (exact (ex_t (by assumption) (by assumption))); (walk_at "isr"); (walk_at "osm"); (first | assumption | exact (show (2 : Int).natAbs < 2 ^ 70 by decide)); (first | assumption | decide))
  | exact r__law_fits (ex_t (by assumption) (by assumption)) (ex_l (by assumption) (by assumption)) (by assumption) (by assumption)
  | ((with_reducible apply r__law_quotient_fl); (first | assumption | decide); assumption; (first | assumption | exact (show (2 : Int).natAbs < 2 ^ 70 by decide)))
  | exact r__law_prime 
  | exact r__law_holds (ex_t (by assumption) (by assumption))
  | exact r__law_turned (ex_t (by assumption) (by assumption))
  | exact r__law_broken (ex_t (by assumption) (by assumption)))
section
variable {K : PySem.W.Frag} {s : L2.St} {H : Hp} {ta tb te tu : TE} {t : TT} {D : Ends} {tz : TS} {v : V}
theorem s_overN {xs : List V} {j : Nat} (h : EvL ta s H xs) (W : Addr → L2.St → Hp → Prop) (h0 : ∀ p H1, H p = none → Ex H H1 → H1 p = some (.lst xs) → W p s H1) (hl : ∀ p s' H', W p s' H' → SqL K H' p xs)
    (hs : ∀ p x s' H', x ∈ xs → W p s' H' → tz { D with nx := W p, ct := W p, bk := D.nx } (s'.set j (some x)) H') (hd : ∀ p s' H', W p s' H' → D.nx s' H') : tFor (iList K ta) (gName j) tz D s H :=
  s_forNL h (fun p _ => W p) h0 (fun p _ s' H' _ q => hl p s' H' q) (fun p _ x s' H' hx q => hs p x s' H' (List.mem_of_getElem? hx) q) hd
theorem rv_notB {a b c : Bool} (h : (!decide (a = b)) = c) : RV rNotB (.bl a) (.bl b) H (.bl c) := fun H1 _ Q q => ⟨a, b, rfl, rfl, by rw [h]; exact q H1 (Ex.refl H1)⟩
theorem ev_own3L {x z : V} {ys : List V} {E : XK} {R : List V → Hp → V → Prop} (h1 : Ev ta s H x) (h2 : Ev tb s H z) (h3 : EvL tu s H ys) (k : ∀ p H1, Ex H H1 → H1 p = some (.lst ys) → R [x, z, .ref p] H1 v) : Ev (tCall (Pu R) [] E (tCons ta (tCons tb (tCons tu tNil)))) s H v := fun H1 e Q q =>
  h1 H1 e _ fun H2 e2 => h2 H2 (e.trans e2) _ fun H3 e3 => h3 H3 ((e.trans e2).trans e3) _ fun p H4 _ e4 hy => by
    show Pu R ([x, z, V.ref p] ++ []) H4 Q E
    exact ⟨v, k p H4 (((e.trans e2).trans e3).trans e4) hy, fun H5 e5 => q H5 (((e2.trans e3).trans e4).trans e5)⟩
theorem el_listT {p : Addr} {xs : List V} (h : Ev te s H (.ref p)) (hx : SqT K H p xs) : EvL (tCB (fun xs H Q => ∃ p ys, xs = [V.ref p] ∧ (SqL K H p ys ∨ SqT K H p ys) ∧ ∀ l, H l = none → Q (.ref l) (upd H l (.lst ys))) (tCons te tNil)) s H xs := fun H1 e Q q =>
  h H1 e _ fun H2 e2 => ⟨p, xs, rfl, .inr (ex_t (e.trans e2) hx), fun l hl => q l _ (fresh_back e2 hl) (e2.trans (Ex.new hl)) upd_same⟩
/-- nothing of a tuple is taken -/
theorem el_noneT {p : Addr} {xs : List V} {j : Nat} {vs : List Nat} (h : Ev ta s H (.ref p)) (hx : SqT K H p xs) (hz : xs.length ≤ 40000) (hw : ∀ x, wipe ((wipe s vs).set j (some x)) vs = wipe s vs)
    (ht : ∀ (x : V) H1, Ex H H1 → x ∈ xs → EvT t ((wipe s vs).set j (some x)) H1 false) : EvL (tLc (iTup K ta) (gName j) t te vs) s H [] := fun H0 e Q q =>
  h H0 e _ fun H1 e1 => ⟨p, rfl, ⟨xs, ex_t (e.trans e1) hx⟩, fun m hm =>
    lc_tup (xs := xs) (Cw H1 (fun _ => false) (fun _ => .non) m) ⟨hm, Ex.new hm, upd_same⟩ (fun i H' _ c => ex_t ((e.trans e1).trans c.2.1) hx)
      (fun i x H' hi c => ⟨hw x, cw_turn c (by
        have := (List.getElem?_eq_some_iff.mp hi).1
        omega) (ht x H1 (e.trans e1) (List.mem_of_getElem? hi)) (fun z => by cases z)⟩)
      (fun H' c => q m H' (fresh_back e1 c.1) (e1.trans c.2.1) (by
        have z := c.2.2
        rw [given_nil (fun _ _ => rfl)] at z
        exact z))⟩
end
abbrev s_law : Stmt := top 179
abbrev N_law : List Str := ["script", "row", "turn", "form", "rule", "due", "x"]
theorem sc_law : FnScope N_law ["script"] (defScope s_law) := ⟨rfl, rfl, rfl, by decide +kernel, rfl, by decide +kernel, by decide +kernel⟩
def SpLaw (K : PySem.W.Frag) (tb : Addr) : Sp := fun vs H Q _ => ∃ (a : Addr) (ns : List Int), vs = [.ref a] ∧ SqL K H a (ns.map V.int) ∧ ns.length ≤ 63 ∧ H tb = some (.tbl #[]) ∧ ∀ H', Q (.bl true) H'
theorem law_ok {fa c tb : Addr} {oc : Value} {od an : Option Addr} {kV doc pm ct : Value} {osl : Array (Option Value)} (T : Txt w K mg) (TB : TabB base mg c tb)
    (lk : K.lookup fa = some ⟨oc, od, .func (PySem.W.fnOf "law" "law" (defArgs s_law) (defBody s_law) (defScope s_law) .none kV doc pm an (.ref c) ct), osl⟩) (hcd : PySem.W.codeIn K (.ref c) "law" = true)
    (c_counterexample : Cal P w K mg base CX0 9 "counterexample" ["form", "rule"] (PuT (R_counterexample K))) (c_holds_for : Cal P w K mg base CX0 5 "holds_for" ["form", "rule", "numbers"] (Pu (R_holds_for K))) (c__law_rules : Cal P w K mg base CX0 1 "_law_rules" [] (PuL (fun vs _ xs => vs = [] ∧ xs = rlV))) (c__law_holds : Cal P w K mg base CX0 2 "_law_holds" ["form", "rule"] (Pu (R__law_holds K))) (c__law_broken : Cal P w K mg base CX0 5 "_law_broken" ["form", "rule"] (PuT (R__law_broken K))) (c__law_fits : Cal P w K mg base CX0 6 "_law_fits" ["form", "rule", "some"] (Pu (R__law_fits K))) (c__law_format : Cal P w K mg base CX0 3 "_law_format" ["row", "most"] (SpFormat K)) (c__law_low : Cal P w K mg base CX0 1 "_law_low" ["form"] (Pu (R__law_low K))) (c__law_high : Cal P w K mg base CX0 1 "_law_high" ["form"] (Pu (R__law_high K))) (c__law_pick : Cal P w K mg base CX0 2 "_law_pick" ["row", "kinds"] (SpPick K)) (ct__law_alike : Cal P w K mg base CX0 2 "_law_alike" ["found", "due"] (Pu (R_aliket K))) :
    FnOk P w K mg base CX0 10 fa (PySem.W.fnOf "law" "law" (defArgs s_law) (defBody s_law) (defScope s_law) .none kV doc pm an (.ref c) ct) ["script"] (SpLaw K tb) := by
  refine fn_of (k := 9) lk hcd sc_law (fun vs H Q E h => by obtain ⟨a, ns, rfl, _⟩ := h; rfl) (fun A outer s H vs Q E hr h => ?_)
  obtain ⟨a, ns, rfl, hS, hlen, htb, k⟩ := h
  have hu := hu_of hr
  refine ⟨_, PSs.nox (pss_cons (ps_set (i := 1) sc_law.nd rfl (Or.inl rfl) (pe_lst (pa_cons (pv 0) (pa_cons pe_int (pa_cons pe_int (pa_cons pe_int pa_nil))))))
      (pss_cons (ps_for PassesOwn.never (by rfl) (pi_range1 rfl T.n_range (pa_cons pe_int pa_nil)) (pg_name (i := 2) sc_law.nd rfl (Or.inl rfl)) (pss_cons (ps_set (i := 3) sc_law.nd rfl (Or.inr rfl) (pe_own c__law_format (hr.mono (by decide)) rfl pass0 (pa_cons (pv 1) (pa_cons (pe_own c__law_pick (hr.mono (by decide)) rfl pass0 (pa_cons (pv 1) (pa_cons (pe_lst (pa_cons pe_int (pa_cons pe_int pa_nil))) pa_nil))) pa_nil))))
      (pss_one (ps_for PassesOwn.never (by rfl) (pi_list (pe_own0 c__law_rules (hr.mono (by decide)) rfl pass0)) (pg_name (i := 4) sc_law.nd rfl (Or.inl rfl)) (pss_one (ps_if (pt_not (pt_val (pe_own c__law_holds (hr.mono (by decide)) rfl pass0 (pa_cons (pv 3) (pa_cons (pv 4) pa_nil))))) (pss_cons (ps_set (i := 5) sc_law.nd rfl (Or.inl rfl) (pe_own c__law_broken (hr.mono (by decide)) rfl pass0 (pa_cons (pv 3) (pa_cons (pv 4) pa_nil))))
      (pss_cons (ps_if (PW.pt (pw_or (pt_not (pt_val (pe_own ct__law_alike (hr.mono (by decide)) rfl pass0 (pa_cons (pe_own c_counterexample (hr.mono (by decide)) rfl pass0 (pa_cons (pv 3) (pa_cons (pv 4) pa_nil))) (pa_cons (pv 5) pa_nil))))) (pw_or1 (pt_val (pe_own c__law_fits (hr.mono (by decide)) rfl pass0 (pa_cons (pv 3) (pa_cons (pv 4) (pa_cons (pe_callTy call_list_of (by rfl) T.n_list (by decide +kernel) (pa_cons (pv 5) pa_nil)) pa_nil)))))))) (pss_one (ps_ret pe_bl)) pss_nil)
      (pss_one (ps_if (PW.pt (pw_or (pt_cmpR (op_neD hr.units) (pe_lc (own := [("x", 6)]) (g := gName 6) (by rfl) sc_law.nd (pi_tup (pv 5)) (blkOk_by (own := [("x", 6)]) (N := N_law) (sc := defScope s_law) (by decide +kernel)) (fun _ _ _ _ _ => pg_name (i := 6) sc_law.nd rfl (Or.inl rfl)) (fun _ _ _ _ _ => pts_one (pt_not (pt_chain op_le op_le (pe_own c__law_low (hr.mono (by decide)) rfl pass0 (pa_cons (pv 3) pa_nil)) (pv 6) (pe_own c__law_high (hr.mono (by decide)) rfl pass0 (pa_cons (pv 3) pa_nil))))) (fun _ _ _ _ _ => (pv 6))) (pe_lst pa_nil) (nomark _)) (pw_or1 (pt_cmpR op_notBl (pe_own c_holds_for (hr.mono (by decide)) rfl pass0 (pa_cons (pv 3) (pa_cons (pv 4) (pa_cons (pv 5) pa_nil)))) pe_bl (nomark _))))) (pss_one (ps_ret pe_bl)) pss_nil)))) pss_nil))))))
      (pss_one (ps_ret pe_bl)))), ?_⟩
  refine seq_asg ?_
  refine ⟨_, rfl, sz_of (n := 4) (by decide), fun r hrn => ?_⟩
  dsimp only
  have R0 : RowOK K (L2.upd H r (.lst [.ref a, .int 0, .int 15301, .int 0])) r a ns := ⟨⟨0, 15301, 0, by decide, by decide, by decide, upd_same⟩, ex_l (Ex.new hrn) hS, hlen⟩
  apply q_forR1 (n := 5) (by walk_at "ea") (by decide) (fun _ s' H' => ∃ x2 x3 x4 x5 x6 : Option V, s' = [some (.ref a), some (.ref r), x2, x3, x4, x5, x6] ∧ RowOK K H' r a ns)
  · intro H2 e2
    exact ⟨_, _, _, _, _, rfl, R0.ex e2⟩
  rotate_left
  · intro s' H' _
    exact k H'
  rintro i s' H0 hi5 ⟨x2, x3, x4, x5, x6, rfl, R⟩
  refine seq_asg ?_
  refine ⟨_, rfl, _, rfl, sz_of (n := 2) (by decide), fun l0 hl0 => pick_new (E := E0) R hl0 (fun z => by cases z) (Nat.le_of_ble_eq_true rfl) fun v0 HP hm0 RP eP => ?_⟩
  obtain ⟨m, rfl, hm⟩ := mem_ints (is := [64, 20]) hm0
  have hm4 : 4 ≤ m := by
    simp only [List.mem_cons, List.not_mem_nil, or_false] at hm
    omega
  refine ⟨r, a, ns, m, rfl, RP, hm4, fun f p H1 hw hp0 hp1 R1 e1 => ?_⟩
  have hf1 : SqT K H1 p (fV f) := st_of hp1
  apply s_overN (K := K) (xs := rlV) (el_own ea_nil (fun _ _ => ⟨rfl, rfl⟩)) (fun l s' H' => ∃ x4 x5 x6 : Option V, s' = [some (.ref a), some (.ref r), some (.int (i : Int)), some (.ref p), x4, x5, x6] ∧ RowOK K H' r a ns ∧ SqT K H' p (fV f) ∧ H' l = some (.lst rlV))
  · exact fun l H2 hl e2 hx => ⟨_, _, _, rfl, R1.ex e2, ex_t e2 hf1, hx⟩
  · rintro l s' H' ⟨x4, x5, x6, _, _, _, h⟩
    exact sq_of h
  rotate_left
  · rintro l s' H' ⟨x4, x5, x6, rfl, R', _⟩
    exact ⟨_, _, _, _, _, rfl, R'⟩
  rintro l v s' H2 hv ⟨x4, x5, x6, rfl, R2, hf2, hl2⟩
  obtain ⟨rr, rfl⟩ := mem_rl hv
  apply bl_go
  refine bl_ifLast (b := !holdsB f rr) (et_not (et_B (ev_own (by walk_at "ea") (fun H7 e7 => r__law_holds (ex_t e7 hf2))))) (fun hb' => ?_) (fun _ H7 e7 => ⟨_, _, _, rfl, R2.ex e7, ex_t e7 hf2, e7 _ _ hl2⟩)
  have hb : holdsB f rr = false := by
    cases h : holdsB f rr with
    | false => rfl
    | true => rw [h] at hb'; cases hb'
  obtain ⟨cb1, cb2, cb3⟩ := cex_breaks hb
  have c40 : ((cexN f rr).map V.int).length ≤ 40000 := by
    rw [List.length_map, cb3]
    exact Nat.le_trans (ar_le rr) (by decide)
  apply bl_setU (xs := (cexN f rr).map V.int)
  · exact eu_own (by walk_at "ea") (fun H7 e7 => r__law_broken (ex_t e7 hf2))
  intro q H3 hq e3 hx3
  have hf3 := ex_t e3 hf2
  have hq3 : SqT K H3 q ((cexN f rr).map V.int) := st_of hx3
  refine bl_when (b := false) (et_is (et_or (a := false) (b := false) (et_is (et_not (a := true) (et_B ?_)) rfl) (fun _ => et_B (ev_is ?_ (congrArg V.bl cb1)))) rfl) (fun z => by cases z) (fun _ => ?_)
  · exact ev_own1U (eu_own (by walk_at "ea") (fun H7 e7 => r_counterexample (ex_t e7 hf3) hb)) (ea_cons (ev_var rfl) ea_nil) (fun p1 H7 e7 hp1 => ⟨p1, q, _, rfl, st_of hp1, ex_t e7 hq3, fun x hx => by
      obtain ⟨z, _, rfl⟩ := List.mem_map.mp hx
      rfl, c40, rfl⟩)
  · exact ev_own3L (by walk_at "ev") (by walk_at "ev") (el_listT (ev_var rfl) hq3) (fun p1 H7 e7 hp1 => r__law_fits (ex_t e7 hf3) (sq_of hp1) cb3 cb2)
  refine bl_ifLast (b := false) (et_is (et_or (a := false) (b := false) (et_test (nil_ne (el_noneT (ev_var rfl) hq3 c40 (fun x => rfl) (fun x H7 e7 hx => ?_)))) (fun _ => ?_)) rfl) (fun z => by cases z) (fun _ H7 e7 => ⟨_, _, _, rfl, R2.ex (e3.trans e7), ex_t e7 hf3, (e3.trans e7) _ _ hl2⟩)
  · obtain ⟨z, hz, rfl⟩ := List.mem_map.mp hx
    have fz := cb2 z hz
    have hf7 := ex_t e7 hf3
    refine et_is (et_not (a := true) (et_is (a := decide (lo f ≤ z) && decide (z ≤ hi f)) ?_ (by rw [decide_eq_true fz.1, decide_eq_true fz.2]; rfl))) rfl
    walk_at "et"
  · refine et_test (ev_op (ev_is (ev_own (by walk_at "ea") (fun H7 e7 => r_holds_for (ex_t e7 hf3) (ex_t e7 hq3) cb3 cb2)) (congrArg V.bl cb1)) ev_c (rv_notB (by decide)))
end
end K1

set_option maxHeartbeats 0
namespace K1
open PySem PySem.Spec PyProof.Rows L2 Evl WM WL WLam WX WT WU StX LamX
section
variable {P : Program} {w : World} {K : PySem.W.Frag} {mg : Str → Option Value} {base : Heap}
theorem tab_keys {h : Heap} (S : He.SaysX fa fn ts [("law", none)] ex w h K) (i : Nat) {z : He.Tab} (e : ts[i]? = some z := by rfl) : He.dicW K (z.1 K) = some (He.keysIn w.params z.2) := by
  have a := congrArg (fun y : He.AlT => y.2[i]?) S.t
  have a1 : (ts.map fun z => He.dicW K (z.1 K))[i]? = (ts.map fun z => some (He.keysIn w.params z.2))[i]? := a
  rw [List.getElem?_map, List.getElem?_map, e] at a1
  exact Option.some.inj a1
theorem txt_of {h : Heap} (X : K.In h) (G : h.Ns mainGlobals mg) (S : He.SaysX fa fn ts [("law", none)] ex w h K) : Txt w K mg := by
  have c := S.t.d
  have e := S.more
  unfold ex at e
  obtain ⟨e_SIGNS, e⟩ := He.ba e
  obtain ⟨e_OVERFLOWS, e⟩ := He.ba e
  obtain ⟨e_DIVISIONS, e⟩ := He.ba e
  obtain ⟨e_ARITIES, e⟩ := He.ba e
  obtain ⟨e_CHECKS, e⟩ := He.ba e
  obtain ⟨e_CONDITIONS, e⟩ := He.ba e
  obtain ⟨e_BREACHES, e⟩ := He.ba e
  have w_ARITIES : ∃ es n, KDict K w (He.ga K "ARITIES") es n ∧ es.toList.map He.keyOf = He.keysIn w.params tk_ARITIES := dicW_keys (tab_keys S 0)
  have u_ARITIES : KDE K w (He.ga K "ARITIES") := by obtain ⟨es, n, a, _⟩ := w_ARITIES; exact ⟨es, n, a⟩
  have w_CHECKS : ∃ es n, KDict K w (He.ga K "CHECKS") es n ∧ es.toList.map He.keyOf = He.keysIn w.params tk_CHECKS := dicW_keys (tab_keys S 1)
  have u_CHECKS : KDE K w (He.ga K "CHECKS") := by obtain ⟨es, n, a, _⟩ := w_CHECKS; exact ⟨es, n, a⟩
  have w_CONDITIONS : ∃ es n, KDict K w (He.ga K "CONDITIONS") es n ∧ es.toList.map He.keyOf = He.keysIn w.params tk_CONDITIONS := dicW_keys (tab_keys S 2)
  have u_CONDITIONS : KDE K w (He.ga K "CONDITIONS") := by obtain ⟨es, n, a, _⟩ := w_CONDITIONS; exact ⟨es, n, a⟩
  have w_BREACHES : ∃ es n, KDict K w (He.ga K "BREACHES") es n ∧ es.toList.map He.keyOf = He.keysIn w.params tk_BREACHES := dicW_keys (tab_keys S 3)
  have u_BREACHES : KDE K w (He.ga K "BREACHES") := by obtain ⟨es, n, a, _⟩ := w_BREACHES; exact ⟨es, n, a⟩
  exact {
    n_isinstance := He.free_ok X G (c.fact 107 (f := .free "isinstance") rfl)
    n_int := He.free_ok X G (c.fact 108 (f := .free "int") rfl)
    n_bool := He.free_ok X G (c.fact 109 (f := .free "bool") rfl)
    n_tuple := He.free_ok X G (c.fact 110 (f := .free "tuple") rfl)
    n_str := He.free_ok X G (c.fact 111 (f := .free "str") rfl)
    n_list := He.free_ok X G (c.fact 112 (f := .free "list") rfl)
    n_len := He.free_ok X G (c.fact 113 (f := .free "len") rfl)
    n_abs := He.free_ok X G (c.fact 114 (f := .free "abs") rfl)
    n_min := He.free_ok X G (c.fact 115 (f := .free "min") rfl)
    n_max := He.free_ok X G (c.fact 116 (f := .free "max") rfl)
    n_range := He.free_ok X G (c.fact 117 (f := .free "range") rfl)
    n_sorted := He.free_ok X G (c.fact 118 (f := .free "sorted") rfl)
    g_LEAST_WIDTH := He.int_ok X G (c.fact 119 (f := .int "LEAST_WIDTH" 4) rfl)
    g_GREATEST_WIDTH := He.int_ok X G (c.fact 120 (f := .int "GREATEST_WIDTH" 64) rfl)
    g_LEAST_EXPONENT := He.int_ok X G (c.fact 121 (f := .int "LEAST_EXPONENT" 2) rfl)
    g_GREATEST_EXPONENT := He.int_ok X G (c.fact 122 (f := .int "GREATEST_EXPONENT" 64) rfl)
    g_TRAP := He.str_ok X G (c.fact 123 (f := .str "TRAP" "trap") rfl)
    g_SIGNS := He.glo_ok X G (c.fact 124 (f := .glo "SIGNS") rfl)
    t_SIGNS := He.tupB_ok e_SIGNS
    g_OVERFLOWS := He.glo_ok X G (c.fact 125 (f := .glo "OVERFLOWS") rfl)
    t_OVERFLOWS := He.tupB_ok e_OVERFLOWS
    g_DIVISIONS := He.glo_ok X G (c.fact 126 (f := .glo "DIVISIONS") rfl)
    t_DIVISIONS := He.tupB_ok e_DIVISIONS
    g_ARITIES := He.glo_ok X G (c.fact 127 (f := .glo "ARITIES") rfl)
    k_ARITIES := u_ARITIES
    q_ARITIES := w_ARITIES
    v_ARITIES := fun r => match r with
      | .sumG => kdct_of (q := ("sum grouping", .int 3)) u_ARITIES e_ARITIES (List.mem_of_getElem? (i := 0) rfl)
      | .prodG => kdct_of (q := ("product grouping", .int 3)) u_ARITIES e_ARITIES (List.mem_of_getElem? (i := 1) rfl)
      | .dist => kdct_of (q := ("distribution", .int 3)) u_ARITIES e_ARITIES (List.mem_of_getElem? (i := 2) rfl)
      | .dneg => kdct_of (q := ("double negation", .int 1)) u_ARITIES e_ARITIES (List.mem_of_getElem? (i := 3) rfl)
      | .diff => kdct_of (q := ("difference", .int 2)) u_ARITIES e_ARITIES (List.mem_of_getElem? (i := 4) rfl)
      | .addB => kdct_of (q := ("add back", .int 2)) u_ARITIES e_ARITIES (List.mem_of_getElem? (i := 5) rfl)
      | .divi => kdct_of (q := ("division", .int 2)) u_ARITIES e_ARITIES (List.mem_of_getElem? (i := 6) rfl)
      | .remR => kdct_of (q := ("remainder range", .int 2)) u_ARITIES e_ARITIES (List.mem_of_getElem? (i := 7) rfl)
      | .negQ => kdct_of (q := ("negated quotient", .int 2)) u_ARITIES e_ARITIES (List.mem_of_getElem? (i := 8) rfl)
      | .shift => kdct_of (q := ("shift", .int 1)) u_ARITIES e_ARITIES (List.mem_of_getElem? (i := 9) rfl)
      | .absV => kdct_of (q := ("absolute value", .int 1)) u_ARITIES e_ARITIES (List.mem_of_getElem? (i := 10) rfl)
      | .ordD => kdct_of (q := ("order by difference", .int 2)) u_ARITIES e_ARITIES (List.mem_of_getElem? (i := 11) rfl)
      | .monoS => kdct_of (q := ("monotone sum", .int 3)) u_ARITIES e_ARITIES (List.mem_of_getElem? (i := 12) rfl)
      | .aver => kdct_of (q := ("average", .int 2)) u_ARITIES e_ARITIES (List.mem_of_getElem? (i := 13) rfl)
      | .squa => kdct_of (q := ("square", .int 1)) u_ARITIES e_ARITIES (List.mem_of_getElem? (i := 14) rfl)
      | .zeroP => kdct_of (q := ("zero product", .int 2)) u_ARITIES e_ARITIES (List.mem_of_getElem? (i := 15) rfl)
      | .canc => kdct_of (q := ("cancellation", .int 3)) u_ARITIES e_ARITIES (List.mem_of_getElem? (i := 16) rfl)
    g_CHECKS := He.glo_ok X G (c.fact 128 (f := .glo "CHECKS") rfl)
    k_CHECKS := u_CHECKS
    v_CHECKS := fun r => match r with
      | .sumG => kdct_of (q := ("sum grouping", .glo "sum_grouping_rules")) u_CHECKS e_CHECKS (List.mem_of_getElem? (i := 0) rfl)
      | .prodG => kdct_of (q := ("product grouping", .glo "product_grouping_rules")) u_CHECKS e_CHECKS (List.mem_of_getElem? (i := 1) rfl)
      | .dist => kdct_of (q := ("distribution", .glo "distribution_rules")) u_CHECKS e_CHECKS (List.mem_of_getElem? (i := 2) rfl)
      | .dneg => kdct_of (q := ("double negation", .glo "double_negation_rules")) u_CHECKS e_CHECKS (List.mem_of_getElem? (i := 3) rfl)
      | .diff => kdct_of (q := ("difference", .glo "difference_rules")) u_CHECKS e_CHECKS (List.mem_of_getElem? (i := 4) rfl)
      | .addB => kdct_of (q := ("add back", .glo "add_back_rules")) u_CHECKS e_CHECKS (List.mem_of_getElem? (i := 5) rfl)
      | .divi => kdct_of (q := ("division", .glo "division_rules")) u_CHECKS e_CHECKS (List.mem_of_getElem? (i := 6) rfl)
      | .remR => kdct_of (q := ("remainder range", .glo "remainder_range_rules")) u_CHECKS e_CHECKS (List.mem_of_getElem? (i := 7) rfl)
      | .negQ => kdct_of (q := ("negated quotient", .glo "negated_quotient_rules")) u_CHECKS e_CHECKS (List.mem_of_getElem? (i := 8) rfl)
      | .shift => kdct_of (q := ("shift", .glo "shift_rules")) u_CHECKS e_CHECKS (List.mem_of_getElem? (i := 9) rfl)
      | .absV => kdct_of (q := ("absolute value", .glo "absolute_value_rules")) u_CHECKS e_CHECKS (List.mem_of_getElem? (i := 10) rfl)
      | .ordD => kdct_of (q := ("order by difference", .glo "order_by_difference_rules")) u_CHECKS e_CHECKS (List.mem_of_getElem? (i := 11) rfl)
      | .monoS => kdct_of (q := ("monotone sum", .glo "monotone_sum_rules")) u_CHECKS e_CHECKS (List.mem_of_getElem? (i := 12) rfl)
      | .aver => kdct_of (q := ("average", .glo "average_rules")) u_CHECKS e_CHECKS (List.mem_of_getElem? (i := 13) rfl)
      | .squa => kdct_of (q := ("square", .glo "square_rules")) u_CHECKS e_CHECKS (List.mem_of_getElem? (i := 14) rfl)
      | .zeroP => kdct_of (q := ("zero product", .glo "zero_product_rules")) u_CHECKS e_CHECKS (List.mem_of_getElem? (i := 15) rfl)
      | .canc => kdct_of (q := ("cancellation", .glo "cancellation_rules")) u_CHECKS e_CHECKS (List.mem_of_getElem? (i := 16) rfl)
    g_CONDITIONS := He.glo_ok X G (c.fact 129 (f := .glo "CONDITIONS") rfl)
    k_CONDITIONS := u_CONDITIONS
    v_CONDITIONS := fun r => match r with
      | .sumG => kdct_of (q := ("sum grouping", .glo "sum_grouping_conditions")) u_CONDITIONS e_CONDITIONS (List.mem_of_getElem? (i := 0) rfl)
      | .prodG => kdct_of (q := ("product grouping", .glo "product_grouping_conditions")) u_CONDITIONS e_CONDITIONS (List.mem_of_getElem? (i := 1) rfl)
      | .dist => kdct_of (q := ("distribution", .glo "distribution_conditions")) u_CONDITIONS e_CONDITIONS (List.mem_of_getElem? (i := 2) rfl)
      | .dneg => kdct_of (q := ("double negation", .glo "_negatives")) u_CONDITIONS e_CONDITIONS (List.mem_of_getElem? (i := 3) rfl)
      | .diff => kdct_of (q := ("difference", .glo "_negatives")) u_CONDITIONS e_CONDITIONS (List.mem_of_getElem? (i := 4) rfl)
      | .addB => kdct_of (q := ("add back", .glo "add_back_conditions")) u_CONDITIONS e_CONDITIONS (List.mem_of_getElem? (i := 5) rfl)
      | .divi => kdct_of (q := ("division", .glo "division_conditions")) u_CONDITIONS e_CONDITIONS (List.mem_of_getElem? (i := 6) rfl)
      | .remR => kdct_of (q := ("remainder range", .glo "remainder_range_conditions")) u_CONDITIONS e_CONDITIONS (List.mem_of_getElem? (i := 7) rfl)
      | .negQ => kdct_of (q := ("negated quotient", .glo "negated_quotient_conditions")) u_CONDITIONS e_CONDITIONS (List.mem_of_getElem? (i := 8) rfl)
      | .shift => kdct_of (q := ("shift", .glo "shift_conditions")) u_CONDITIONS e_CONDITIONS (List.mem_of_getElem? (i := 9) rfl)
      | .absV => kdct_of (q := ("absolute value", .glo "absolute_value_conditions")) u_CONDITIONS e_CONDITIONS (List.mem_of_getElem? (i := 10) rfl)
      | .ordD => kdct_of (q := ("order by difference", .glo "order_by_difference_conditions")) u_CONDITIONS e_CONDITIONS (List.mem_of_getElem? (i := 11) rfl)
      | .monoS => kdct_of (q := ("monotone sum", .glo "monotone_sum_conditions")) u_CONDITIONS e_CONDITIONS (List.mem_of_getElem? (i := 12) rfl)
      | .aver => kdct_of (q := ("average", .glo "average_conditions")) u_CONDITIONS e_CONDITIONS (List.mem_of_getElem? (i := 13) rfl)
      | .squa => kdct_of (q := ("square", .glo "square_conditions")) u_CONDITIONS e_CONDITIONS (List.mem_of_getElem? (i := 14) rfl)
      | .zeroP => kdct_of (q := ("zero product", .glo "zero_product_conditions")) u_CONDITIONS e_CONDITIONS (List.mem_of_getElem? (i := 15) rfl)
      | .canc => kdct_of (q := ("cancellation", .glo "cancellation_conditions")) u_CONDITIONS e_CONDITIONS (List.mem_of_getElem? (i := 16) rfl)
    g_BREACHES := He.glo_ok X G (c.fact 130 (f := .glo "BREACHES") rfl)
    k_BREACHES := u_BREACHES
    v_BREACHES := fun r => match r with
      | .sumG => kdct_of (q := ("sum grouping", .glo "sum_grouping_breaches")) u_BREACHES e_BREACHES (List.mem_of_getElem? (i := 0) rfl)
      | .prodG => kdct_of (q := ("product grouping", .glo "product_grouping_breaches")) u_BREACHES e_BREACHES (List.mem_of_getElem? (i := 1) rfl)
      | .dist => kdct_of (q := ("distribution", .glo "distribution_breaches")) u_BREACHES e_BREACHES (List.mem_of_getElem? (i := 2) rfl)
      | .dneg => kdct_of (q := ("double negation", .glo "double_negation_breaches")) u_BREACHES e_BREACHES (List.mem_of_getElem? (i := 3) rfl)
      | .diff => kdct_of (q := ("difference", .glo "difference_breaches")) u_BREACHES e_BREACHES (List.mem_of_getElem? (i := 4) rfl)
      | .addB => kdct_of (q := ("add back", .glo "_lowest_and_one")) u_BREACHES e_BREACHES (List.mem_of_getElem? (i := 5) rfl)
      | .divi => kdct_of (q := ("division", .glo "division_breaches")) u_BREACHES e_BREACHES (List.mem_of_getElem? (i := 6) rfl)
      | .remR => kdct_of (q := ("remainder range", .glo "remainder_range_breaches")) u_BREACHES e_BREACHES (List.mem_of_getElem? (i := 7) rfl)
      | .negQ => kdct_of (q := ("negated quotient", .glo "negated_quotient_breaches")) u_BREACHES e_BREACHES (List.mem_of_getElem? (i := 8) rfl)
      | .shift => kdct_of (q := ("shift", .glo "shift_breaches")) u_BREACHES e_BREACHES (List.mem_of_getElem? (i := 9) rfl)
      | .absV => kdct_of (q := ("absolute value", .glo "absolute_value_breaches")) u_BREACHES e_BREACHES (List.mem_of_getElem? (i := 10) rfl)
      | .ordD => kdct_of (q := ("order by difference", .glo "_lowest_and_one")) u_BREACHES e_BREACHES (List.mem_of_getElem? (i := 11) rfl)
      | .monoS => kdct_of (q := ("monotone sum", .glo "monotone_sum_breaches")) u_BREACHES e_BREACHES (List.mem_of_getElem? (i := 12) rfl)
      | .aver => kdct_of (q := ("average", .glo "_lowest_and_one")) u_BREACHES e_BREACHES (List.mem_of_getElem? (i := 13) rfl)
      | .squa => kdct_of (q := ("square", .glo "square_breaches")) u_BREACHES e_BREACHES (List.mem_of_getElem? (i := 14) rfl)
      | .zeroP => kdct_of (q := ("zero product", .glo "zero_product_breaches")) u_BREACHES e_BREACHES (List.mem_of_getElem? (i := 15) rfl)
      | .canc => kdct_of (q := ("cancellation", .glo "cancellation_breaches")) u_BREACHES e_BREACHES (List.mem_of_getElem? (i := 16) rfl) }
theorem defAt_of {h : Heap} (X : K.In h) (G : h.Ns mainGlobals mg) {x : Str} {st : Stmt} (g : (He.Fa.glo x).ok K = true) (d : ∃ fd, FunD K x x (defArgs st) (defBody st) (defScope st) [] [] (He.ga K x) fd) : DefAt K mg x st := by
  obtain ⟨fd, F⟩ := d
  exact ⟨_, fd, F, He.glo_ok X G g⟩
theorem defAtN_of {h : Heap} (X : K.In h) (G : h.Ns mainGlobals mg) {x nm : Str} {st : Stmt} (g : (He.Fa.glo x).ok K = true) (d : ∃ fd, FunD K nm nm (defArgs st) (defBody st) (defScope st) [] [] (He.ga K x) fd) : DefAtN K mg x nm st := by
  obtain ⟨fd, F⟩ := d
  exact ⟨_, fd, F, He.glo_ok X G g⟩
theorem law_at {w : World} {fa0 : Addr} {h : Heap} (X : K.In h) (S : He.SaysX fa fn ts [("law", none)] ex w h K) (G : h.Ns mainGlobals mg) (hfa : mg ("law" : Str) = some (.ref fa0)) :
    LamX.LawAtS PySem.Challenge.rw_widthrules_k01_whole_counterexamples w K CX0 10 63 "script" mg fa0 h := by
  have c := S.t.d
  have T := txt_of X G S
  have D_is_whole : DefAt K mg "is_whole" s_is_whole := (defAt_of X G (c.fact 0 (f := .glo "is_whole") rfl) (c.def_ 0 (d := dd_is_whole) rfl))
  have D_are_choices : DefAt K mg "are_choices" s_are_choices := (defAt_of X G (c.fact 2 (f := .glo "are_choices") rfl) (c.def_ 2 (d := dd_are_choices) rfl))
  have D_is_format : DefAt K mg "is_format" s_is_format := (defAt_of X G (c.fact 1 (f := .glo "is_format") rfl) (c.def_ 1 (d := dd_is_format) rfl))
  have D_check_format : DefAt K mg "check_format" s_check_format := (defAt_of X G (c.fact 3 (f := .glo "check_format") rfl) (c.def_ 3 (d := dd_check_format) rfl))
  have D_ends : DefAt K mg "ends" s_ends := (defAt_of X G (c.fact 4 (f := .glo "ends") rfl) (c.def_ 4 (d := dd_ends) rfl))
  have D_lowest : DefAt K mg "lowest" s_lowest := (defAt_of X G (c.fact 5 (f := .glo "lowest") rfl) (c.def_ 5 (d := dd_lowest) rfl))
  have D_highest : DefAt K mg "highest" s_highest := (defAt_of X G (c.fact 6 (f := .glo "highest") rfl) (c.def_ 6 (d := dd_highest) rfl))
  have D_terms_of : DefAt K mg "terms_of" s_terms_of := (defAt_of X G (c.fact 47 (f := .glo "terms_of") rfl) (c.def_ 47 (d := dd_terms_of) rfl))
  have D_fitted : DefAt K mg "fitted" s_fitted := (defAt_of X G (c.fact 48 (f := .glo "fitted") rfl) (c.def_ 48 (d := dd_fitted) rfl))
  have D__quotient_to_zero : DefAt K mg "_quotient_to_zero" s__quotient_to_zero := (defAt_of X G (c.fact 56 (f := .glo "_quotient_to_zero") rfl) (c.def_ 56 (d := dd__quotient_to_zero) rfl))
  have D__quotient_to_even : DefAt K mg "_quotient_to_even" s__quotient_to_even := (defAt_of X G (c.fact 57 (f := .glo "_quotient_to_even") rfl) (c.def_ 57 (d := dd__quotient_to_even) rfl))
  have D__quotient_of_euclid : DefAt K mg "_quotient_of_euclid" s__quotient_of_euclid := (defAt_of X G (c.fact 58 (f := .glo "_quotient_of_euclid") rfl) (c.def_ 58 (d := dd__quotient_of_euclid) rfl))
  have D__exact_quotient : DefAt K mg "_exact_quotient" s__exact_quotient := (defAt_of X G (c.fact 55 (f := .glo "_exact_quotient") rfl) (c.def_ 55 (d := dd__exact_quotient) rfl))
  have D_plus : DefAt K mg "plus" s_plus := (defAt_of X G (c.fact 49 (f := .glo "plus") rfl) (c.def_ 49 (d := dd_plus) rfl))
  have D_minus : DefAt K mg "minus" s_minus := (defAt_of X G (c.fact 50 (f := .glo "minus") rfl) (c.def_ 50 (d := dd_minus) rfl))
  have D_times : DefAt K mg "times" s_times := (defAt_of X G (c.fact 51 (f := .glo "times") rfl) (c.def_ 51 (d := dd_times) rfl))
  have D_opposite : DefAt K mg "opposite" s_opposite := (defAt_of X G (c.fact 52 (f := .glo "opposite") rfl) (c.def_ 52 (d := dd_opposite) rfl))
  have D_quotient : DefAt K mg "quotient" s_quotient := (defAt_of X G (c.fact 53 (f := .glo "quotient") rfl) (c.def_ 53 (d := dd_quotient) rfl))
  have D_rest : DefAt K mg "rest" s_rest := (defAt_of X G (c.fact 54 (f := .glo "rest") rfl) (c.def_ 54 (d := dd_rest) rfl))
  have D__at_most : DefAt K mg "_at_most" s__at_most := (defAt_of X G (c.fact 63 (f := .glo "_at_most") rfl) (c.def_ 63 (d := dd__at_most) rfl))
  have D__below : DefAt K mg "_below" s__below := (defAt_of X G (c.fact 64 (f := .glo "_below") rfl) (c.def_ 64 (d := dd__below) rfl))
  have D_sum_grouping_rules : DefAtN K mg "sum_grouping_rules" "_sum_grouping" s_sum_grouping_rules := (defAtN_of X G (c.fact 65 (f := .glo "sum_grouping_rules") rfl) (c.def_ 65 (d := dd_sum_grouping_rules) rfl))
  have D_product_grouping_rules : DefAtN K mg "product_grouping_rules" "_product_grouping" s_product_grouping_rules := (defAtN_of X G (c.fact 66 (f := .glo "product_grouping_rules") rfl) (c.def_ 66 (d := dd_product_grouping_rules) rfl))
  have D_distribution_rules : DefAtN K mg "distribution_rules" "_distribution" s_distribution_rules := (defAtN_of X G (c.fact 67 (f := .glo "distribution_rules") rfl) (c.def_ 67 (d := dd_distribution_rules) rfl))
  have D_double_negation_rules : DefAtN K mg "double_negation_rules" "_double_negation" s_double_negation_rules := (defAtN_of X G (c.fact 68 (f := .glo "double_negation_rules") rfl) (c.def_ 68 (d := dd_double_negation_rules) rfl))
  have D_difference_rules : DefAtN K mg "difference_rules" "_difference" s_difference_rules := (defAtN_of X G (c.fact 69 (f := .glo "difference_rules") rfl) (c.def_ 69 (d := dd_difference_rules) rfl))
  have D_add_back_rules : DefAtN K mg "add_back_rules" "_add_back" s_add_back_rules := (defAtN_of X G (c.fact 70 (f := .glo "add_back_rules") rfl) (c.def_ 70 (d := dd_add_back_rules) rfl))
  have D_division_rules : DefAtN K mg "division_rules" "_division" s_division_rules := (defAtN_of X G (c.fact 71 (f := .glo "division_rules") rfl) (c.def_ 71 (d := dd_division_rules) rfl))
  have D_remainder_range_rules : DefAtN K mg "remainder_range_rules" "_remainder_range" s_remainder_range_rules := (defAtN_of X G (c.fact 72 (f := .glo "remainder_range_rules") rfl) (c.def_ 72 (d := dd_remainder_range_rules) rfl))
  have D_negated_quotient_rules : DefAtN K mg "negated_quotient_rules" "_negated_quotient" s_negated_quotient_rules := (defAtN_of X G (c.fact 73 (f := .glo "negated_quotient_rules") rfl) (c.def_ 73 (d := dd_negated_quotient_rules) rfl))
  have D_shift_rules : DefAtN K mg "shift_rules" "_shift" s_shift_rules := (defAtN_of X G (c.fact 74 (f := .glo "shift_rules") rfl) (c.def_ 74 (d := dd_shift_rules) rfl))
  have D_absolute_value_rules : DefAtN K mg "absolute_value_rules" "_absolute_value" s_absolute_value_rules := (defAtN_of X G (c.fact 75 (f := .glo "absolute_value_rules") rfl) (c.def_ 75 (d := dd_absolute_value_rules) rfl))
  have D_order_by_difference_rules : DefAtN K mg "order_by_difference_rules" "_order_by_difference" s_order_by_difference_rules := (defAtN_of X G (c.fact 76 (f := .glo "order_by_difference_rules") rfl) (c.def_ 76 (d := dd_order_by_difference_rules) rfl))
  have D_monotone_sum_rules : DefAtN K mg "monotone_sum_rules" "_monotone_sum" s_monotone_sum_rules := (defAtN_of X G (c.fact 77 (f := .glo "monotone_sum_rules") rfl) (c.def_ 77 (d := dd_monotone_sum_rules) rfl))
  have D_average_rules : DefAtN K mg "average_rules" "_average" s_average_rules := (defAtN_of X G (c.fact 78 (f := .glo "average_rules") rfl) (c.def_ 78 (d := dd_average_rules) rfl))
  have D_square_rules : DefAtN K mg "square_rules" "_square" s_square_rules := (defAtN_of X G (c.fact 79 (f := .glo "square_rules") rfl) (c.def_ 79 (d := dd_square_rules) rfl))
  have D_zero_product_rules : DefAtN K mg "zero_product_rules" "_zero_product" s_zero_product_rules := (defAtN_of X G (c.fact 80 (f := .glo "zero_product_rules") rfl) (c.def_ 80 (d := dd_zero_product_rules) rfl))
  have D_cancellation_rules : DefAtN K mg "cancellation_rules" "_cancellation" s_cancellation_rules := (defAtN_of X G (c.fact 81 (f := .glo "cancellation_rules") rfl) (c.def_ 81 (d := dd_cancellation_rules) rfl))
  have D_is_rule : DefAt K mg "is_rule" s_is_rule := (defAt_of X G (c.fact 60 (f := .glo "is_rule") rfl) (c.def_ 60 (d := dd_is_rule) rfl))
  have D_check_rule : DefAt K mg "check_rule" s_check_rule := (defAt_of X G (c.fact 61 (f := .glo "check_rule") rfl) (c.def_ 61 (d := dd_check_rule) rfl))
  have D__check_numbers : DefAt K mg "_check_numbers" s__check_numbers := (defAt_of X G (c.fact 62 (f := .glo "_check_numbers") rfl) (c.def_ 62 (d := dd__check_numbers) rfl))
  have D_holds_for : DefAt K mg "holds_for" s_holds_for := (defAt_of X G (c.fact 59 (f := .glo "holds_for") rfl) (c.def_ 59 (d := dd_holds_for) rfl))
  have D__check_exponent : DefAt K mg "_check_exponent" s__check_exponent := (defAt_of X G (c.fact 9 (f := .glo "_check_exponent") rfl) (c.def_ 9 (d := dd__check_exponent) rfl))
  have D__passes_lucas_lehmer : DefAt K mg "_passes_lucas_lehmer" s__passes_lucas_lehmer := (defAt_of X G (c.fact 10 (f := .glo "_passes_lucas_lehmer") rfl) (c.def_ 10 (d := dd__passes_lucas_lehmer) rfl))
  have D_is_mersenne : DefAt K mg "is_mersenne" s_is_mersenne := (defAt_of X G (c.fact 7 (f := .glo "is_mersenne") rfl) (c.def_ 7 (d := dd_is_mersenne) rfl))
  have D_least_factor : DefAt K mg "least_factor" s_least_factor := (defAt_of X G (c.fact 8 (f := .glo "least_factor") rfl) (c.def_ 8 (d := dd_least_factor) rfl))
  have D_sum_grouping_conditions : DefAtN K mg "sum_grouping_conditions" "_sum_grouping" s_sum_grouping_conditions := (defAtN_of X G (c.fact 31 (f := .glo "sum_grouping_conditions") rfl) (c.def_ 31 (d := dd_sum_grouping_conditions) rfl))
  have D_product_grouping_conditions : DefAtN K mg "product_grouping_conditions" "_product_grouping" s_product_grouping_conditions := (defAtN_of X G (c.fact 32 (f := .glo "product_grouping_conditions") rfl) (c.def_ 32 (d := dd_product_grouping_conditions) rfl))
  have D_distribution_conditions : DefAtN K mg "distribution_conditions" "_distribution" s_distribution_conditions := (defAtN_of X G (c.fact 33 (f := .glo "distribution_conditions") rfl) (c.def_ 33 (d := dd_distribution_conditions) rfl))
  have D__negatives : DefAt K mg "_negatives" s__negatives := (defAt_of X G (c.fact 34 (f := .glo "_negatives") rfl) (c.def_ 34 (d := dd__negatives) rfl))
  have D_add_back_conditions : DefAtN K mg "add_back_conditions" "_add_back" s_add_back_conditions := (defAtN_of X G (c.fact 35 (f := .glo "add_back_conditions") rfl) (c.def_ 35 (d := dd_add_back_conditions) rfl))
  have D_division_conditions : DefAtN K mg "division_conditions" "_division" s_division_conditions := (defAtN_of X G (c.fact 36 (f := .glo "division_conditions") rfl) (c.def_ 36 (d := dd_division_conditions) rfl))
  have D_remainder_range_conditions : DefAtN K mg "remainder_range_conditions" "_remainder_range" s_remainder_range_conditions := (defAtN_of X G (c.fact 37 (f := .glo "remainder_range_conditions") rfl) (c.def_ 37 (d := dd_remainder_range_conditions) rfl))
  have D_negated_quotient_conditions : DefAtN K mg "negated_quotient_conditions" "_negated_quotient" s_negated_quotient_conditions := (defAtN_of X G (c.fact 38 (f := .glo "negated_quotient_conditions") rfl) (c.def_ 38 (d := dd_negated_quotient_conditions) rfl))
  have D_shift_conditions : DefAtN K mg "shift_conditions" "_shift" s_shift_conditions := (defAtN_of X G (c.fact 39 (f := .glo "shift_conditions") rfl) (c.def_ 39 (d := dd_shift_conditions) rfl))
  have D_absolute_value_conditions : DefAtN K mg "absolute_value_conditions" "_absolute_value" s_absolute_value_conditions := (defAtN_of X G (c.fact 40 (f := .glo "absolute_value_conditions") rfl) (c.def_ 40 (d := dd_absolute_value_conditions) rfl))
  have D_order_by_difference_conditions : DefAtN K mg "order_by_difference_conditions" "_order_by_difference" s_order_by_difference_conditions := (defAtN_of X G (c.fact 41 (f := .glo "order_by_difference_conditions") rfl) (c.def_ 41 (d := dd_order_by_difference_conditions) rfl))
  have D_monotone_sum_conditions : DefAtN K mg "monotone_sum_conditions" "_monotone_sum" s_monotone_sum_conditions := (defAtN_of X G (c.fact 42 (f := .glo "monotone_sum_conditions") rfl) (c.def_ 42 (d := dd_monotone_sum_conditions) rfl))
  have D_average_conditions : DefAtN K mg "average_conditions" "_average" s_average_conditions := (defAtN_of X G (c.fact 43 (f := .glo "average_conditions") rfl) (c.def_ 43 (d := dd_average_conditions) rfl))
  have D_square_conditions : DefAtN K mg "square_conditions" "_square" s_square_conditions := (defAtN_of X G (c.fact 44 (f := .glo "square_conditions") rfl) (c.def_ 44 (d := dd_square_conditions) rfl))
  have D_zero_product_conditions : DefAtN K mg "zero_product_conditions" "_zero_product" s_zero_product_conditions := (defAtN_of X G (c.fact 45 (f := .glo "zero_product_conditions") rfl) (c.def_ 45 (d := dd_zero_product_conditions) rfl))
  have D_cancellation_conditions : DefAtN K mg "cancellation_conditions" "_cancellation" s_cancellation_conditions := (defAtN_of X G (c.fact 46 (f := .glo "cancellation_conditions") rfl) (c.def_ 46 (d := dd_cancellation_conditions) rfl))
  have D_meets_condition : DefAt K mg "meets_condition" s_meets_condition := (defAt_of X G (c.fact 30 (f := .glo "meets_condition") rfl) (c.def_ 30 (d := dd_meets_condition) rfl))
  have D_holds : DefAt K mg "holds" s_holds := (defAt_of X G (c.fact 82 (f := .glo "holds") rfl) (c.def_ 82 (d := dd_holds) rfl))
  have D__half : DefAt K mg "_half" s__half := (defAt_of X G (c.fact 12 (f := .glo "_half") rfl) (c.def_ 12 (d := dd__half) rfl))
  have D__whole : DefAt K mg "_whole" s__whole := (defAt_of X G (c.fact 13 (f := .glo "_whole") rfl) (c.def_ 13 (d := dd__whole) rfl))
  have D__factors : DefAt K mg "_factors" s__factors := (defAt_of X G (c.fact 14 (f := .glo "_factors") rfl) (c.def_ 14 (d := dd__factors) rfl))
  have D_sum_grouping_breaches : DefAtN K mg "sum_grouping_breaches" "_sum_grouping" s_sum_grouping_breaches := (defAtN_of X G (c.fact 15 (f := .glo "sum_grouping_breaches") rfl) (c.def_ 15 (d := dd_sum_grouping_breaches) rfl))
  have D_product_grouping_breaches : DefAtN K mg "product_grouping_breaches" "_product_grouping" s_product_grouping_breaches := (defAtN_of X G (c.fact 16 (f := .glo "product_grouping_breaches") rfl) (c.def_ 16 (d := dd_product_grouping_breaches) rfl))
  have D_distribution_breaches : DefAtN K mg "distribution_breaches" "_distribution" s_distribution_breaches := (defAtN_of X G (c.fact 17 (f := .glo "distribution_breaches") rfl) (c.def_ 17 (d := dd_distribution_breaches) rfl))
  have D_double_negation_breaches : DefAtN K mg "double_negation_breaches" "_double_negation" s_double_negation_breaches := (defAtN_of X G (c.fact 18 (f := .glo "double_negation_breaches") rfl) (c.def_ 18 (d := dd_double_negation_breaches) rfl))
  have D_difference_breaches : DefAtN K mg "difference_breaches" "_difference" s_difference_breaches := (defAtN_of X G (c.fact 19 (f := .glo "difference_breaches") rfl) (c.def_ 19 (d := dd_difference_breaches) rfl))
  have D__lowest_and_one : DefAt K mg "_lowest_and_one" s__lowest_and_one := (defAt_of X G (c.fact 20 (f := .glo "_lowest_and_one") rfl) (c.def_ 20 (d := dd__lowest_and_one) rfl))
  have D_division_breaches : DefAtN K mg "division_breaches" "_division" s_division_breaches := (defAtN_of X G (c.fact 21 (f := .glo "division_breaches") rfl) (c.def_ 21 (d := dd_division_breaches) rfl))
  have D_remainder_range_breaches : DefAtN K mg "remainder_range_breaches" "_remainder_range" s_remainder_range_breaches := (defAtN_of X G (c.fact 22 (f := .glo "remainder_range_breaches") rfl) (c.def_ 22 (d := dd_remainder_range_breaches) rfl))
  have D_negated_quotient_breaches : DefAtN K mg "negated_quotient_breaches" "_negated_quotient" s_negated_quotient_breaches := (defAtN_of X G (c.fact 23 (f := .glo "negated_quotient_breaches") rfl) (c.def_ 23 (d := dd_negated_quotient_breaches) rfl))
  have D_shift_breaches : DefAtN K mg "shift_breaches" "_shift" s_shift_breaches := (defAtN_of X G (c.fact 24 (f := .glo "shift_breaches") rfl) (c.def_ 24 (d := dd_shift_breaches) rfl))
  have D_absolute_value_breaches : DefAtN K mg "absolute_value_breaches" "_absolute_value" s_absolute_value_breaches := (defAtN_of X G (c.fact 25 (f := .glo "absolute_value_breaches") rfl) (c.def_ 25 (d := dd_absolute_value_breaches) rfl))
  have D_monotone_sum_breaches : DefAtN K mg "monotone_sum_breaches" "_monotone_sum" s_monotone_sum_breaches := (defAtN_of X G (c.fact 26 (f := .glo "monotone_sum_breaches") rfl) (c.def_ 26 (d := dd_monotone_sum_breaches) rfl))
  have D_square_breaches : DefAtN K mg "square_breaches" "_square" s_square_breaches := (defAtN_of X G (c.fact 27 (f := .glo "square_breaches") rfl) (c.def_ 27 (d := dd_square_breaches) rfl))
  have D_zero_product_breaches : DefAtN K mg "zero_product_breaches" "_zero_product" s_zero_product_breaches := (defAtN_of X G (c.fact 28 (f := .glo "zero_product_breaches") rfl) (c.def_ 28 (d := dd_zero_product_breaches) rfl))
  have D_cancellation_breaches : DefAtN K mg "cancellation_breaches" "_cancellation" s_cancellation_breaches := (defAtN_of X G (c.fact 29 (f := .glo "cancellation_breaches") rfl) (c.def_ 29 (d := dd_cancellation_breaches) rfl))
  have D_breach : DefAt K mg "breach" s_breach := (defAt_of X G (c.fact 11 (f := .glo "breach") rfl) (c.def_ 11 (d := dd_breach) rfl))
  have D_counterexample : DefAt K mg "counterexample" s_counterexample := (defAt_of X G (c.fact 83 (f := .glo "counterexample") rfl) (c.def_ 83 (d := dd_counterexample) rfl))
  have D__law_high : DefAt K mg "_law_high" s__law_high := (defAt_of X G (c.fact 89 (f := .glo "_law_high") rfl) (c.def_ 89 (d := dd__law_high) rfl))
  have D__law_low : DefAt K mg "_law_low" s__law_low := (defAt_of X G (c.fact 88 (f := .glo "_law_low") rfl) (c.def_ 88 (d := dd__law_low) rfl))
  have D__law_size : DefAt K mg "_law_size" s__law_size := (defAt_of X G (c.fact 92 (f := .glo "_law_size") rfl) (c.def_ 92 (d := dd__law_size) rfl))
  have D__law_fit : DefAt K mg "_law_fit" s__law_fit := (defAt_of X G (c.fact 90 (f := .glo "_law_fit") rfl) (c.def_ 90 (d := dd__law_fit) rfl))
  have D__law_do : DefAt K mg "_law_do" s__law_do := (defAt_of X G (c.fact 91 (f := .glo "_law_do") rfl) (c.def_ 91 (d := dd__law_do) rfl))
  have D__law_quotient : DefAt K mg "_law_quotient" s__law_quotient := (defAt_of X G (c.fact 93 (f := .glo "_law_quotient") rfl) (c.def_ 93 (d := dd__law_quotient) rfl))
  have D__law_divide : DefAt K mg "_law_divide" s__law_divide := (defAt_of X G (c.fact 94 (f := .glo "_law_divide") rfl) (c.def_ 94 (d := dd__law_divide) rfl))
  have D__law_rest : DefAt K mg "_law_rest" s__law_rest := (defAt_of X G (c.fact 95 (f := .glo "_law_rest") rfl) (c.def_ 95 (d := dd__law_rest) rfl))
  have D__law_minus : DefAt K mg "_law_minus" s__law_minus := (defAt_of X G (c.fact 96 (f := .glo "_law_minus") rfl) (c.def_ 96 (d := dd__law_minus) rfl))
  have D__law_taken : DefAt K mg "_law_taken" s__law_taken := (defAt_of X G (c.fact 84 (f := .glo "_law_taken") rfl) (c.def_ 84 (d := dd__law_taken) rfl))
  have D__law_pick : DefAt K mg "_law_pick" s__law_pick := (defAt_of X G (c.fact 85 (f := .glo "_law_pick") rfl) (c.def_ 85 (d := dd__law_pick) rfl))
  have D__law_format : DefAt K mg "_law_format" s__law_format := (defAt_of X G (c.fact 87 (f := .glo "_law_format") rfl) (c.def_ 87 (d := dd__law_format) rfl))
  have D__law_rises : DefAt K mg "_law_rises" s__law_rises := (defAt_of X G (c.fact 97 (f := .glo "_law_rises") rfl) (c.def_ 97 (d := dd__law_rises) rfl))
  have D__law_three : DefAt K mg "_law_three" s__law_three := (defAt_of X G (c.fact 99 (f := .glo "_law_three") rfl) (c.def_ 99 (d := dd__law_three) rfl))
  have D__law_two : DefAt K mg "_law_two" s__law_two := (defAt_of X G (c.fact 100 (f := .glo "_law_two") rfl) (c.def_ 100 (d := dd__law_two) rfl))
  have D__law_fits : DefAt K mg "_law_fits" s__law_fits := (defAt_of X G (c.fact 101 (f := .glo "_law_fits") rfl) (c.def_ 101 (d := dd__law_fits) rfl))
  have D__law_rules : DefAt K mg "_law_rules" s__law_rules := (defAt_of X G (c.fact 98 (f := .glo "_law_rules") rfl) (c.def_ 98 (d := dd__law_rules) rfl))
  have D__law_alike : DefAt K mg "_law_alike" s__law_alike := (defAt_of X G (c.fact 86 (f := .glo "_law_alike") rfl) (c.def_ 86 (d := dd__law_alike) rfl))
  have D__law_prime : DefAt K mg "_law_prime" s__law_prime := (defAt_of X G (c.fact 102 (f := .glo "_law_prime") rfl) (c.def_ 102 (d := dd__law_prime) rfl))
  have D__law_holds : DefAt K mg "_law_holds" s__law_holds := (defAt_of X G (c.fact 103 (f := .glo "_law_holds") rfl) (c.def_ 103 (d := dd__law_holds) rfl))
  have D__law_turned : DefAt K mg "_law_turned" s__law_turned := (defAt_of X G (c.fact 104 (f := .glo "_law_turned") rfl) (c.def_ 104 (d := dd__law_turned) rfl))
  have D__law_broken : DefAt K mg "_law_broken" s__law_broken := (defAt_of X G (c.fact 105 (f := .glo "_law_broken") rfl) (c.def_ 105 (d := dd__law_broken) rfl))
  obtain ⟨fd, F⟩ := c.def_ 106 (d := dd_law) rfl
  have eg := hfa.symm.trans (He.glo_ok X G (c.fact 106 (f := .glo "law") rfl))
  cases eg
  obtain ⟨oc, od, dV, kV, doc, pm, an, cdv, ct, osl, rfl, lk, hcd, hD, hK⟩ := F.ex
  obtain ⟨cc, rfl⟩ := He.codeIn_ref hcd
  have e0 : dV = .none := by
    rcases hD with ⟨_, z⟩ | ⟨z, _⟩
    · exact z
    · exact absurd rfl z
  subst e0
  have ec : He.codeOf K ("law", none) = cc := He.codeOf_eq lk rfl
  have mem : (("law", none) : He.Defn) ∈ [(("law", none) : He.Defn)] := List.mem_singleton.mpr rfl
  refine ⟨_, [He.cT K ("law", none)], SpLaw K (He.cT K ("law", none)).2, fun p hp => ?_, fun p hp => ?_, fun p hp => ?_, fun s u => FunD.bindsA (ps := ["script"]) F (fun _ _ _ _ _ _ us hl => match us, hl with | [_], _ => rfl) s [u] rfl, fun H a ns hl _ hT hS => ?_, fun base hKb hGb hTB => ?_⟩
  · rw [List.mem_singleton.mp hp]
    exact S.empty _ mem
  · rw [List.mem_singleton.mp hp]
    exact S.out _ mem
  · rw [List.mem_singleton.mp hp]
    exact PySem.W.codeHd_of_K X (S.hd _ mem)
  · exact ⟨a, ns, rfl, hS, hl, hT _ (List.mem_singleton.mpr rfl), fun _ => rfl⟩
  · have TB := hTB _ (List.mem_singleton.mpr rfl)
    have TB' : TabB base mg cc (He.cT K ("law", none)).2 := by rw [← ec]; exact TB
    have c_is_whole : Cal PySem.Challenge.rw_widthrules_k01_whole_counterexamples.prog w K mg base CX0 1 "is_whole" ["value"] (Pu (R_is_whole K)) := ok_is_whole T D_is_whole 
    have c_are_choices : Cal PySem.Challenge.rw_widthrules_k01_whole_counterexamples.prog w K mg base CX0 1 "are_choices" ["signs", "overflow", "division"] (Pu (R_are_choices K)) := ok_are_choices T D_are_choices 
    have c_is_format : Cal PySem.Challenge.rw_widthrules_k01_whole_counterexamples.prog w K mg base CX0 2 "is_format" ["value"] (Pu (R_is_format K)) := ok_is_format T D_is_format c_are_choices c_is_whole
    have c_check_format : Cal PySem.Challenge.rw_widthrules_k01_whole_counterexamples.prog w K mg base CX0 3 "check_format" ["form"] (Pu (R_check_format K)) := ok_check_format T D_check_format c_is_format
    have c_ends : Cal PySem.Challenge.rw_widthrules_k01_whole_counterexamples.prog w K mg base CX0 1 "ends" ["form"] (PuT (R_ends K)) := ok_ends T D_ends 
    have c_lowest : Cal PySem.Challenge.rw_widthrules_k01_whole_counterexamples.prog w K mg base CX0 4 "lowest" ["form"] (Pu (R_lowest K)) := ok_lowest T D_lowest c_check_format c_ends
    have c_highest : Cal PySem.Challenge.rw_widthrules_k01_whole_counterexamples.prog w K mg base CX0 4 "highest" ["form"] (Pu (R_highest K)) := ok_highest T D_highest c_check_format c_ends
    have c_terms_of : Cal PySem.Challenge.rw_widthrules_k01_whole_counterexamples.prog w K mg base CX0 2 "terms_of" ["form"] (PuT (R_terms_of K)) := ok_terms_of T D_terms_of c_ends
    have c_fitted : Cal PySem.Challenge.rw_widthrules_k01_whole_counterexamples.prog w K mg base CX0 1 "fitted" ["terms", "exact"] (Pu (R_fitted K)) := ok_fitted T D_fitted 
    have c__quotient_to_zero : Cal PySem.Challenge.rw_widthrules_k01_whole_counterexamples.prog w K mg base CX0 1 "_quotient_to_zero" ["a", "b"] (Pu (R__quotient_to_zero K)) := ok__quotient_to_zero T D__quotient_to_zero 
    have c__quotient_to_even : Cal PySem.Challenge.rw_widthrules_k01_whole_counterexamples.prog w K mg base CX0 1 "_quotient_to_even" ["a", "b"] (Pu (R__quotient_to_even K)) := ok__quotient_to_even T D__quotient_to_even 
    have c__quotient_of_euclid : Cal PySem.Challenge.rw_widthrules_k01_whole_counterexamples.prog w K mg base CX0 1 "_quotient_of_euclid" ["a", "b"] (Pu (R__quotient_of_euclid K)) := ok__quotient_of_euclid T D__quotient_of_euclid 
    have c__exact_quotient : Cal PySem.Challenge.rw_widthrules_k01_whole_counterexamples.prog w K mg base CX0 2 "_exact_quotient" ["division", "a", "b"] (Pu (R__exact_quotient K)) := ok__exact_quotient T D__exact_quotient c__quotient_of_euclid c__quotient_to_even c__quotient_to_zero
    have c_plus : Cal PySem.Challenge.rw_widthrules_k01_whole_counterexamples.prog w K mg base CX0 2 "plus" ["terms", "a", "b"] (Pu (R_plus K)) := ok_plus T D_plus c_fitted
    have c_minus : Cal PySem.Challenge.rw_widthrules_k01_whole_counterexamples.prog w K mg base CX0 2 "minus" ["terms", "a", "b"] (Pu (R_minus K)) := ok_minus T D_minus c_fitted
    have c_times : Cal PySem.Challenge.rw_widthrules_k01_whole_counterexamples.prog w K mg base CX0 2 "times" ["terms", "a", "b"] (Pu (R_times K)) := ok_times T D_times c_fitted
    have c_opposite : Cal PySem.Challenge.rw_widthrules_k01_whole_counterexamples.prog w K mg base CX0 2 "opposite" ["terms", "a"] (Pu (R_opposite K)) := ok_opposite T D_opposite c_fitted
    have c_quotient : Cal PySem.Challenge.rw_widthrules_k01_whole_counterexamples.prog w K mg base CX0 3 "quotient" ["terms", "a", "b"] (Pu (R_quotient K)) := ok_quotient T D_quotient c__exact_quotient c_fitted
    have c_rest : Cal PySem.Challenge.rw_widthrules_k01_whole_counterexamples.prog w K mg base CX0 3 "rest" ["terms", "a", "b"] (Pu (R_rest K)) := ok_rest T D_rest c__exact_quotient c_fitted
    have c__at_most : Cal PySem.Challenge.rw_widthrules_k01_whole_counterexamples.prog w K mg base CX0 1 "_at_most" ["a", "b"] (Pu (R__at_most K)) := ok__at_most T D__at_most 
    have c__below : Cal PySem.Challenge.rw_widthrules_k01_whole_counterexamples.prog w K mg base CX0 1 "_below" ["a", "b"] (Pu (R__below K)) := ok__below T D__below 
    have c_sum_grouping_rules : Cal PySem.Challenge.rw_widthrules_k01_whole_counterexamples.prog w K mg base CX0 3 "sum_grouping_rules" ["terms", "a", "b", "c"] (Pu (R_sum_grouping_rules K)) := ok_sum_grouping_rules T D_sum_grouping_rules c_plus
    have c_product_grouping_rules : Cal PySem.Challenge.rw_widthrules_k01_whole_counterexamples.prog w K mg base CX0 3 "product_grouping_rules" ["terms", "a", "b", "c"] (Pu (R_product_grouping_rules K)) := ok_product_grouping_rules T D_product_grouping_rules c_times
    have c_distribution_rules : Cal PySem.Challenge.rw_widthrules_k01_whole_counterexamples.prog w K mg base CX0 3 "distribution_rules" ["terms", "a", "b", "c"] (Pu (R_distribution_rules K)) := ok_distribution_rules T D_distribution_rules c_plus c_times
    have c_double_negation_rules : Cal PySem.Challenge.rw_widthrules_k01_whole_counterexamples.prog w K mg base CX0 3 "double_negation_rules" ["terms", "a"] (Pu (R_double_negation_rules K)) := ok_double_negation_rules T D_double_negation_rules c_opposite
    have c_difference_rules : Cal PySem.Challenge.rw_widthrules_k01_whole_counterexamples.prog w K mg base CX0 3 "difference_rules" ["terms", "a", "b"] (Pu (R_difference_rules K)) := ok_difference_rules T D_difference_rules c_minus c_opposite c_plus
    have c_add_back_rules : Cal PySem.Challenge.rw_widthrules_k01_whole_counterexamples.prog w K mg base CX0 3 "add_back_rules" ["terms", "a", "b"] (Pu (R_add_back_rules K)) := ok_add_back_rules T D_add_back_rules c_minus c_plus
    have c_division_rules : Cal PySem.Challenge.rw_widthrules_k01_whole_counterexamples.prog w K mg base CX0 4 "division_rules" ["terms", "a", "b"] (Pu (R_division_rules K)) := ok_division_rules T D_division_rules c_plus c_quotient c_rest c_times
    have c_remainder_range_rules : Cal PySem.Challenge.rw_widthrules_k01_whole_counterexamples.prog w K mg base CX0 4 "remainder_range_rules" ["terms", "a", "b"] (Pu (R_remainder_range_rules K)) := ok_remainder_range_rules T D_remainder_range_rules c__at_most c__below c_rest
    have c_negated_quotient_rules : Cal PySem.Challenge.rw_widthrules_k01_whole_counterexamples.prog w K mg base CX0 4 "negated_quotient_rules" ["terms", "a", "b"] (Pu (R_negated_quotient_rules K)) := ok_negated_quotient_rules T D_negated_quotient_rules c_opposite c_quotient
    have c_shift_rules : Cal PySem.Challenge.rw_widthrules_k01_whole_counterexamples.prog w K mg base CX0 4 "shift_rules" ["terms", "a"] (Pu (R_shift_rules K)) := ok_shift_rules T D_shift_rules c_quotient
    have c_absolute_value_rules : Cal PySem.Challenge.rw_widthrules_k01_whole_counterexamples.prog w K mg base CX0 3 "absolute_value_rules" ["terms", "a"] (Pu (R_absolute_value_rules K)) := ok_absolute_value_rules T D_absolute_value_rules c__at_most c_opposite
    have c_order_by_difference_rules : Cal PySem.Challenge.rw_widthrules_k01_whole_counterexamples.prog w K mg base CX0 3 "order_by_difference_rules" ["terms", "a", "b"] (Pu (R_order_by_difference_rules K)) := ok_order_by_difference_rules T D_order_by_difference_rules c_minus
    have c_monotone_sum_rules : Cal PySem.Challenge.rw_widthrules_k01_whole_counterexamples.prog w K mg base CX0 3 "monotone_sum_rules" ["terms", "a", "b", "c"] (Pu (R_monotone_sum_rules K)) := ok_monotone_sum_rules T D_monotone_sum_rules c__at_most c_plus
    have c_average_rules : Cal PySem.Challenge.rw_widthrules_k01_whole_counterexamples.prog w K mg base CX0 4 "average_rules" ["terms", "a", "b"] (Pu (R_average_rules K)) := ok_average_rules T D_average_rules c__at_most c_minus c_plus c_quotient
    have c_square_rules : Cal PySem.Challenge.rw_widthrules_k01_whole_counterexamples.prog w K mg base CX0 3 "square_rules" ["terms", "a"] (Pu (R_square_rules K)) := ok_square_rules T D_square_rules c__at_most c_times
    have c_zero_product_rules : Cal PySem.Challenge.rw_widthrules_k01_whole_counterexamples.prog w K mg base CX0 3 "zero_product_rules" ["terms", "a", "b"] (Pu (R_zero_product_rules K)) := ok_zero_product_rules T D_zero_product_rules c_times
    have c_cancellation_rules : Cal PySem.Challenge.rw_widthrules_k01_whole_counterexamples.prog w K mg base CX0 3 "cancellation_rules" ["terms", "a", "b", "c"] (Pu (R_cancellation_rules K)) := ok_cancellation_rules T D_cancellation_rules c_times
    have c_is_rule : Cal PySem.Challenge.rw_widthrules_k01_whole_counterexamples.prog w K mg base CX0 1 "is_rule" ["value"] (Pu (R_is_rule K)) := ok_is_rule T D_is_rule 
    have c_check_rule : Cal PySem.Challenge.rw_widthrules_k01_whole_counterexamples.prog w K mg base CX0 2 "check_rule" ["rule"] (Pu (R_check_rule K)) := ok_check_rule T D_check_rule c_is_rule
    have c__check_numbers : Cal PySem.Challenge.rw_widthrules_k01_whole_counterexamples.prog w K mg base CX0 2 "_check_numbers" ["terms", "many", "numbers"] (Pu (R__check_numbers K)) := ok__check_numbers T D__check_numbers c_is_whole
    have F_CHECKS : FamOk PySem.Challenge.rw_widthrules_k01_whole_counterexamples.prog w K mg base CX0 4 (fam_CHECKS K) := famOk_CHECKS (He.glo_ok X G (c.fact 65 (f := .glo "sum_grouping_rules") rfl)) (He.glo_ok X G (c.fact 66 (f := .glo "product_grouping_rules") rfl)) (He.glo_ok X G (c.fact 67 (f := .glo "distribution_rules") rfl)) (He.glo_ok X G (c.fact 68 (f := .glo "double_negation_rules") rfl)) (He.glo_ok X G (c.fact 69 (f := .glo "difference_rules") rfl)) (He.glo_ok X G (c.fact 70 (f := .glo "add_back_rules") rfl)) (He.glo_ok X G (c.fact 71 (f := .glo "division_rules") rfl)) (He.glo_ok X G (c.fact 72 (f := .glo "remainder_range_rules") rfl)) (He.glo_ok X G (c.fact 73 (f := .glo "negated_quotient_rules") rfl)) (He.glo_ok X G (c.fact 74 (f := .glo "shift_rules") rfl)) (He.glo_ok X G (c.fact 75 (f := .glo "absolute_value_rules") rfl)) (He.glo_ok X G (c.fact 76 (f := .glo "order_by_difference_rules") rfl)) (He.glo_ok X G (c.fact 77 (f := .glo "monotone_sum_rules") rfl)) (He.glo_ok X G (c.fact 78 (f := .glo "average_rules") rfl)) (He.glo_ok X G (c.fact 79 (f := .glo "square_rules") rfl)) (He.glo_ok X G (c.fact 80 (f := .glo "zero_product_rules") rfl)) (He.glo_ok X G (c.fact 81 (f := .glo "cancellation_rules") rfl)) c_sum_grouping_rules c_product_grouping_rules c_distribution_rules c_double_negation_rules c_difference_rules c_add_back_rules c_division_rules c_remainder_range_rules c_negated_quotient_rules c_shift_rules c_absolute_value_rules c_order_by_difference_rules c_monotone_sum_rules c_average_rules c_square_rules c_zero_product_rules c_cancellation_rules
    have c_holds_for : Cal PySem.Challenge.rw_widthrules_k01_whole_counterexamples.prog w K mg base CX0 5 "holds_for" ["form", "rule", "numbers"] (Pu (R_holds_for K)) := ok_holds_for T D_holds_for c__check_numbers c_check_format c_check_rule c_terms_of F_CHECKS
    have c__check_exponent : Cal PySem.Challenge.rw_widthrules_k01_whole_counterexamples.prog w K mg base CX0 2 "_check_exponent" ["w"] (Pu (R__check_exponent K)) := ok__check_exponent T D__check_exponent c_is_whole
    have c__passes_lucas_lehmer : Cal PySem.Challenge.rw_widthrules_k01_whole_counterexamples.prog w K mg base CX0 1 "_passes_lucas_lehmer" ["w"] (Pu (R__passes_lucas_lehmer K)) := ok__passes_lucas_lehmer T D__passes_lucas_lehmer 
    have c_is_mersenne : Cal PySem.Challenge.rw_widthrules_k01_whole_counterexamples.prog w K mg base CX0 3 "is_mersenne" ["w"] (Pu (R_is_mersenne K)) := ok_is_mersenne T D_is_mersenne c__check_exponent c__passes_lucas_lehmer
    have c_least_factor : Cal PySem.Challenge.rw_widthrules_k01_whole_counterexamples.prog w K mg base CX0 4 "least_factor" ["w"] (Pu (R_least_factor K)) := ok_least_factor T D_least_factor c_is_mersenne
    have c_sum_grouping_conditions : Cal PySem.Challenge.rw_widthrules_k01_whole_counterexamples.prog w K mg base CX0 1 "sum_grouping_conditions" ["width", "signs", "overflow", "division"] (Pu (R_sum_grouping_conditions K)) := ok_sum_grouping_conditions T D_sum_grouping_conditions 
    have c_product_grouping_conditions : Cal PySem.Challenge.rw_widthrules_k01_whole_counterexamples.prog w K mg base CX0 1 "product_grouping_conditions" ["width", "signs", "overflow", "division"] (Pu (R_product_grouping_conditions K)) := ok_product_grouping_conditions T D_product_grouping_conditions 
    have c_distribution_conditions : Cal PySem.Challenge.rw_widthrules_k01_whole_counterexamples.prog w K mg base CX0 1 "distribution_conditions" ["width", "signs", "overflow", "division"] (Pu (R_distribution_conditions K)) := ok_distribution_conditions T D_distribution_conditions 
    have c__negatives : Cal PySem.Challenge.rw_widthrules_k01_whole_counterexamples.prog w K mg base CX0 1 "_negatives" ["width", "signs", "overflow", "division"] (Pu (R__negatives K)) := ok__negatives T D__negatives 
    have c_add_back_conditions : Cal PySem.Challenge.rw_widthrules_k01_whole_counterexamples.prog w K mg base CX0 1 "add_back_conditions" ["width", "signs", "overflow", "division"] (Pu (R_add_back_conditions K)) := ok_add_back_conditions T D_add_back_conditions 
    have c_division_conditions : Cal PySem.Challenge.rw_widthrules_k01_whole_counterexamples.prog w K mg base CX0 1 "division_conditions" ["width", "signs", "overflow", "division"] (Pu (R_division_conditions K)) := ok_division_conditions T D_division_conditions 
    have c_remainder_range_conditions : Cal PySem.Challenge.rw_widthrules_k01_whole_counterexamples.prog w K mg base CX0 1 "remainder_range_conditions" ["width", "signs", "overflow", "division"] (Pu (R_remainder_range_conditions K)) := ok_remainder_range_conditions T D_remainder_range_conditions 
    have c_negated_quotient_conditions : Cal PySem.Challenge.rw_widthrules_k01_whole_counterexamples.prog w K mg base CX0 1 "negated_quotient_conditions" ["width", "signs", "overflow", "division"] (Pu (R_negated_quotient_conditions K)) := ok_negated_quotient_conditions T D_negated_quotient_conditions 
    have c_shift_conditions : Cal PySem.Challenge.rw_widthrules_k01_whole_counterexamples.prog w K mg base CX0 1 "shift_conditions" ["width", "signs", "overflow", "division"] (Pu (R_shift_conditions K)) := ok_shift_conditions T D_shift_conditions 
    have c_absolute_value_conditions : Cal PySem.Challenge.rw_widthrules_k01_whole_counterexamples.prog w K mg base CX0 1 "absolute_value_conditions" ["width", "signs", "overflow", "division"] (Pu (R_absolute_value_conditions K)) := ok_absolute_value_conditions T D_absolute_value_conditions 
    have c_order_by_difference_conditions : Cal PySem.Challenge.rw_widthrules_k01_whole_counterexamples.prog w K mg base CX0 1 "order_by_difference_conditions" ["width", "signs", "overflow", "division"] (Pu (R_order_by_difference_conditions K)) := ok_order_by_difference_conditions T D_order_by_difference_conditions 
    have c_monotone_sum_conditions : Cal PySem.Challenge.rw_widthrules_k01_whole_counterexamples.prog w K mg base CX0 1 "monotone_sum_conditions" ["width", "signs", "overflow", "division"] (Pu (R_monotone_sum_conditions K)) := ok_monotone_sum_conditions T D_monotone_sum_conditions 
    have c_average_conditions : Cal PySem.Challenge.rw_widthrules_k01_whole_counterexamples.prog w K mg base CX0 1 "average_conditions" ["width", "signs", "overflow", "division"] (Pu (R_average_conditions K)) := ok_average_conditions T D_average_conditions 
    have c_square_conditions : Cal PySem.Challenge.rw_widthrules_k01_whole_counterexamples.prog w K mg base CX0 1 "square_conditions" ["width", "signs", "overflow", "division"] (Pu (R_square_conditions K)) := ok_square_conditions T D_square_conditions 
    have c_zero_product_conditions : Cal PySem.Challenge.rw_widthrules_k01_whole_counterexamples.prog w K mg base CX0 4 "zero_product_conditions" ["width", "signs", "overflow", "division"] (Pu (R_zero_product_conditions K)) := ok_zero_product_conditions T D_zero_product_conditions c_is_mersenne
    have c_cancellation_conditions : Cal PySem.Challenge.rw_widthrules_k01_whole_counterexamples.prog w K mg base CX0 4 "cancellation_conditions" ["width", "signs", "overflow", "division"] (Pu (R_cancellation_conditions K)) := ok_cancellation_conditions T D_cancellation_conditions c_is_mersenne
    have F_CONDITIONS : FamOk PySem.Challenge.rw_widthrules_k01_whole_counterexamples.prog w K mg base CX0 4 (fam_CONDITIONS K) := famOk_CONDITIONS (He.glo_ok X G (c.fact 31 (f := .glo "sum_grouping_conditions") rfl)) (He.glo_ok X G (c.fact 32 (f := .glo "product_grouping_conditions") rfl)) (He.glo_ok X G (c.fact 33 (f := .glo "distribution_conditions") rfl)) (He.glo_ok X G (c.fact 34 (f := .glo "_negatives") rfl)) (He.glo_ok X G (c.fact 35 (f := .glo "add_back_conditions") rfl)) (He.glo_ok X G (c.fact 36 (f := .glo "division_conditions") rfl)) (He.glo_ok X G (c.fact 37 (f := .glo "remainder_range_conditions") rfl)) (He.glo_ok X G (c.fact 38 (f := .glo "negated_quotient_conditions") rfl)) (He.glo_ok X G (c.fact 39 (f := .glo "shift_conditions") rfl)) (He.glo_ok X G (c.fact 40 (f := .glo "absolute_value_conditions") rfl)) (He.glo_ok X G (c.fact 41 (f := .glo "order_by_difference_conditions") rfl)) (He.glo_ok X G (c.fact 42 (f := .glo "monotone_sum_conditions") rfl)) (He.glo_ok X G (c.fact 43 (f := .glo "average_conditions") rfl)) (He.glo_ok X G (c.fact 44 (f := .glo "square_conditions") rfl)) (He.glo_ok X G (c.fact 45 (f := .glo "zero_product_conditions") rfl)) (He.glo_ok X G (c.fact 46 (f := .glo "cancellation_conditions") rfl)) c_sum_grouping_conditions c_product_grouping_conditions c_distribution_conditions c__negatives c_add_back_conditions c_division_conditions c_remainder_range_conditions c_negated_quotient_conditions c_shift_conditions c_absolute_value_conditions c_order_by_difference_conditions c_monotone_sum_conditions c_average_conditions c_square_conditions c_zero_product_conditions c_cancellation_conditions
    have c_meets_condition : Cal PySem.Challenge.rw_widthrules_k01_whole_counterexamples.prog w K mg base CX0 5 "meets_condition" ["form", "rule"] (Pu (R_meets_condition K)) := ok_meets_condition T D_meets_condition F_CONDITIONS
    have c_holds : Cal PySem.Challenge.rw_widthrules_k01_whole_counterexamples.prog w K mg base CX0 6 "holds" ["form", "rule"] (Pu (R_holds K)) := ok_holds T D_holds c_check_format c_check_rule c_meets_condition
    have c__half : Cal PySem.Challenge.rw_widthrules_k01_whole_counterexamples.prog w K mg base CX0 1 "_half" ["form"] (Pu (R__half K)) := ok__half T D__half 
    have c__whole : Cal PySem.Challenge.rw_widthrules_k01_whole_counterexamples.prog w K mg base CX0 1 "_whole" ["form"] (Pu (R__whole K)) := ok__whole T D__whole 
    have c__factors : Cal PySem.Challenge.rw_widthrules_k01_whole_counterexamples.prog w K mg base CX0 5 "_factors" ["form"] (PuT (R__factors K)) := ok__factors T D__factors c__whole c_least_factor
    have c_sum_grouping_breaches : Cal PySem.Challenge.rw_widthrules_k01_whole_counterexamples.prog w K mg base CX0 5 "sum_grouping_breaches" ["form"] (PuT (R_sum_grouping_breaches K)) := ok_sum_grouping_breaches T D_sum_grouping_breaches c_highest
    have c_product_grouping_breaches : Cal PySem.Challenge.rw_widthrules_k01_whole_counterexamples.prog w K mg base CX0 5 "product_grouping_breaches" ["form"] (PuT (R_product_grouping_breaches K)) := ok_product_grouping_breaches T D_product_grouping_breaches c_highest c_lowest
    have c_distribution_breaches : Cal PySem.Challenge.rw_widthrules_k01_whole_counterexamples.prog w K mg base CX0 5 "distribution_breaches" ["form"] (PuT (R_distribution_breaches K)) := ok_distribution_breaches T D_distribution_breaches c_highest
    have c_double_negation_breaches : Cal PySem.Challenge.rw_widthrules_k01_whole_counterexamples.prog w K mg base CX0 5 "double_negation_breaches" ["form"] (PuT (R_double_negation_breaches K)) := ok_double_negation_breaches T D_double_negation_breaches c_lowest
    have c_difference_breaches : Cal PySem.Challenge.rw_widthrules_k01_whole_counterexamples.prog w K mg base CX0 5 "difference_breaches" ["form"] (PuT (R_difference_breaches K)) := ok_difference_breaches T D_difference_breaches c_lowest
    have c__lowest_and_one : Cal PySem.Challenge.rw_widthrules_k01_whole_counterexamples.prog w K mg base CX0 5 "_lowest_and_one" ["form"] (PuT (R__lowest_and_one K)) := ok__lowest_and_one T D__lowest_and_one c_lowest
    have c_division_breaches : Cal PySem.Challenge.rw_widthrules_k01_whole_counterexamples.prog w K mg base CX0 5 "division_breaches" ["form"] (PuT (R_division_breaches K)) := ok_division_breaches T D_division_breaches c_highest c_lowest
    have c_remainder_range_breaches : Cal PySem.Challenge.rw_widthrules_k01_whole_counterexamples.prog w K mg base CX0 1 "remainder_range_breaches" ["form"] (PuT (R_remainder_range_breaches K)) := ok_remainder_range_breaches T D_remainder_range_breaches 
    have c_negated_quotient_breaches : Cal PySem.Challenge.rw_widthrules_k01_whole_counterexamples.prog w K mg base CX0 5 "negated_quotient_breaches" ["form"] (PuT (R_negated_quotient_breaches K)) := ok_negated_quotient_breaches T D_negated_quotient_breaches c__whole c_lowest
    have c_shift_breaches : Cal PySem.Challenge.rw_widthrules_k01_whole_counterexamples.prog w K mg base CX0 1 "shift_breaches" ["form"] (PuT (R_shift_breaches K)) := ok_shift_breaches T D_shift_breaches 
    have c_absolute_value_breaches : Cal PySem.Challenge.rw_widthrules_k01_whole_counterexamples.prog w K mg base CX0 5 "absolute_value_breaches" ["form"] (PuT (R_absolute_value_breaches K)) := ok_absolute_value_breaches T D_absolute_value_breaches c_lowest
    have c_monotone_sum_breaches : Cal PySem.Challenge.rw_widthrules_k01_whole_counterexamples.prog w K mg base CX0 5 "monotone_sum_breaches" ["form"] (PuT (R_monotone_sum_breaches K)) := ok_monotone_sum_breaches T D_monotone_sum_breaches c_highest
    have c_square_breaches : Cal PySem.Challenge.rw_widthrules_k01_whole_counterexamples.prog w K mg base CX0 5 "square_breaches" ["form"] (PuT (R_square_breaches K)) := ok_square_breaches T D_square_breaches c_highest
    have c_zero_product_breaches : Cal PySem.Challenge.rw_widthrules_k01_whole_counterexamples.prog w K mg base CX0 6 "zero_product_breaches" ["form"] (PuT (R_zero_product_breaches K)) := ok_zero_product_breaches T D_zero_product_breaches c__factors c__half c_lowest
    have c_cancellation_breaches : Cal PySem.Challenge.rw_widthrules_k01_whole_counterexamples.prog w K mg base CX0 7 "cancellation_breaches" ["form"] (PuT (R_cancellation_breaches K)) := ok_cancellation_breaches T D_cancellation_breaches c_highest c_zero_product_breaches
    have F_BREACHES : FamOk PySem.Challenge.rw_widthrules_k01_whole_counterexamples.prog w K mg base CX0 7 (fam_BREACHES K) := famOk_BREACHES (He.glo_ok X G (c.fact 15 (f := .glo "sum_grouping_breaches") rfl)) (He.glo_ok X G (c.fact 16 (f := .glo "product_grouping_breaches") rfl)) (He.glo_ok X G (c.fact 17 (f := .glo "distribution_breaches") rfl)) (He.glo_ok X G (c.fact 18 (f := .glo "double_negation_breaches") rfl)) (He.glo_ok X G (c.fact 19 (f := .glo "difference_breaches") rfl)) (He.glo_ok X G (c.fact 20 (f := .glo "_lowest_and_one") rfl)) (He.glo_ok X G (c.fact 21 (f := .glo "division_breaches") rfl)) (He.glo_ok X G (c.fact 22 (f := .glo "remainder_range_breaches") rfl)) (He.glo_ok X G (c.fact 23 (f := .glo "negated_quotient_breaches") rfl)) (He.glo_ok X G (c.fact 24 (f := .glo "shift_breaches") rfl)) (He.glo_ok X G (c.fact 25 (f := .glo "absolute_value_breaches") rfl)) (He.glo_ok X G (c.fact 26 (f := .glo "monotone_sum_breaches") rfl)) (He.glo_ok X G (c.fact 27 (f := .glo "square_breaches") rfl)) (He.glo_ok X G (c.fact 28 (f := .glo "zero_product_breaches") rfl)) (He.glo_ok X G (c.fact 29 (f := .glo "cancellation_breaches") rfl)) c_sum_grouping_breaches c_product_grouping_breaches c_distribution_breaches c_double_negation_breaches c_difference_breaches c__lowest_and_one c_division_breaches c_remainder_range_breaches c_negated_quotient_breaches c_shift_breaches c_absolute_value_breaches c_monotone_sum_breaches c_square_breaches c_zero_product_breaches c_cancellation_breaches
    have c_breach : Cal PySem.Challenge.rw_widthrules_k01_whole_counterexamples.prog w K mg base CX0 8 "breach" ["form", "rule"] (PuT (R_breach K)) := ok_breach T D_breach F_BREACHES
    have c_counterexample : Cal PySem.Challenge.rw_widthrules_k01_whole_counterexamples.prog w K mg base CX0 9 "counterexample" ["form", "rule"] (PuT (R_counterexample K)) := ok_counterexample T D_counterexample c_breach c_holds
    have c__law_high : Cal PySem.Challenge.rw_widthrules_k01_whole_counterexamples.prog w K mg base CX0 1 "_law_high" ["form"] (Pu (R__law_high K)) := ok__law_high T D__law_high 
    have c__law_low : Cal PySem.Challenge.rw_widthrules_k01_whole_counterexamples.prog w K mg base CX0 1 "_law_low" ["form"] (Pu (R__law_low K)) := ok__law_low T D__law_low 
    have c__law_size : Cal PySem.Challenge.rw_widthrules_k01_whole_counterexamples.prog w K mg base CX0 1 "_law_size" ["a", "b"] (Pu (R__law_size K)) := ok__law_size T D__law_size 
    have c__law_fit : Cal PySem.Challenge.rw_widthrules_k01_whole_counterexamples.prog w K mg base CX0 2 "_law_fit" ["form", "value"] (Pu (R__law_fit K)) := ok__law_fit T D__law_fit c__law_high c__law_low
    have c__law_do : Cal PySem.Challenge.rw_widthrules_k01_whole_counterexamples.prog w K mg base CX0 3 "_law_do" ["form", "deed", "a", "b"] (Pu (R__law_do K)) := ok__law_do T D__law_do c__law_fit
    have c__law_quotient : Cal PySem.Challenge.rw_widthrules_k01_whole_counterexamples.prog w K mg base CX0 2 "_law_quotient" ["division", "a", "b"] (Pu (R__law_quotient K)) := ok__law_quotient T D__law_quotient c__law_size
    have c__law_divide : Cal PySem.Challenge.rw_widthrules_k01_whole_counterexamples.prog w K mg base CX0 3 "_law_divide" ["form", "a", "b"] (Pu (R__law_divide K)) := ok__law_divide T D__law_divide c__law_fit c__law_quotient
    have c__law_rest : Cal PySem.Challenge.rw_widthrules_k01_whole_counterexamples.prog w K mg base CX0 3 "_law_rest" ["form", "a", "b"] (Pu (R__law_rest K)) := ok__law_rest T D__law_rest c__law_fit c__law_quotient
    have c__law_minus : Cal PySem.Challenge.rw_widthrules_k01_whole_counterexamples.prog w K mg base CX0 4 "_law_minus" ["form", "a"] (Pu (R__law_minus K)) := ok__law_minus T D__law_minus c__law_do
    have c__law_taken : Cal PySem.Challenge.rw_widthrules_k01_whole_counterexamples.prog w K mg base CX0 1 "_law_taken" ["row", "many"] (SpTaken K) := ok__law_taken T D__law_taken 
    have c__law_pick : Cal PySem.Challenge.rw_widthrules_k01_whole_counterexamples.prog w K mg base CX0 2 "_law_pick" ["row", "kinds"] (SpPick K) := ok__law_pick T D__law_pick c__law_taken
    have c__law_format : Cal PySem.Challenge.rw_widthrules_k01_whole_counterexamples.prog w K mg base CX0 3 "_law_format" ["row", "most"] (SpFormat K) := ok__law_format T D__law_format c__law_pick c__law_taken
    have c__law_rises : Cal PySem.Challenge.rw_widthrules_k01_whole_counterexamples.prog w K mg base CX0 1 "_law_rises" ["some"] (Pu (R__law_rises K)) := ok__law_rises T D__law_rises 
    have c__law_three : Cal PySem.Challenge.rw_widthrules_k01_whole_counterexamples.prog w K mg base CX0 4 "_law_three" ["form", "rule", "a", "b", "c"] (Pu (R__law_three K)) := ok__law_three T D__law_three c__law_do c__law_rises
    have c__law_two : Cal PySem.Challenge.rw_widthrules_k01_whole_counterexamples.prog w K mg base CX0 5 "_law_two" ["form", "rule", "a", "b"] (Pu (R__law_two K)) := ok__law_two T D__law_two c__law_divide c__law_do c__law_minus c__law_rest c__law_rises
    have c__law_fits : Cal PySem.Challenge.rw_widthrules_k01_whole_counterexamples.prog w K mg base CX0 6 "_law_fits" ["form", "rule", "some"] (Pu (R__law_fits K)) := ok__law_fits T D__law_fits c__law_divide c__law_do c__law_minus c__law_quotient c__law_rises c__law_three c__law_two
    have c__law_rules : Cal PySem.Challenge.rw_widthrules_k01_whole_counterexamples.prog w K mg base CX0 1 "_law_rules" [] (PuL (fun vs _ xs => vs = [] ∧ xs = rlV)) := ok__law_rules T D__law_rules 
    have c__law_alike : Cal PySem.Challenge.rw_widthrules_k01_whole_counterexamples.prog w K mg base CX0 1 "_law_alike" ["found", "due"] (Pu (R__law_alike K)) := ok__law_alike T D__law_alike 
    have c__law_prime : Cal PySem.Challenge.rw_widthrules_k01_whole_counterexamples.prog w K mg base CX0 1 "_law_prime" ["w"] (Pu (R__law_prime K)) := ok__law_prime T D__law_prime 
    have c__law_holds : Cal PySem.Challenge.rw_widthrules_k01_whole_counterexamples.prog w K mg base CX0 2 "_law_holds" ["form", "rule"] (Pu (R__law_holds K)) := ok__law_holds T D__law_holds c__law_prime
    have c__law_turned : Cal PySem.Challenge.rw_widthrules_k01_whole_counterexamples.prog w K mg base CX0 1 "_law_turned" ["form", "low"] (PuT (R__law_turned K)) := ok__law_turned T D__law_turned 
    have c__law_broken : Cal PySem.Challenge.rw_widthrules_k01_whole_counterexamples.prog w K mg base CX0 5 "_law_broken" ["form", "rule"] (PuT (R__law_broken K)) := ok__law_broken T D__law_broken c__law_high c__law_low c__law_turned c_least_factor
    have ct__law_alike := okt__law_alike (P := PySem.Challenge.rw_widthrules_k01_whole_counterexamples.prog) (w := w) (base := base) T D__law_alike c__law_alike
    exact law_ok T TB' lk hcd c_counterexample c_holds_for c__law_rules c__law_holds c__law_broken c__law_fits c__law_format c__law_low c__law_high c__law_pick ct__law_alike
end
end K1
open PySem PySem.W PySem.Calls PyProof.Rows
theorem PySem.Challenge.cw_widthrules_k01_whole_counterexamples_holds : PySem.Challenge.rw_widthrules_k01_whole_counterexamples.Holds := by
  w_on; o_law
  refine HandSHeadRun.head_any (r := OpenLaw.row PySem.Challenge.rw_widthrules_k01_whole_counterexamples) (q := view (OpenLaw.row PySem.Challenge.rw_widthrules_k01_whole_counterexamples).prog [179]) (H := K1.hk) (ob := K1.ob) (M := 60000) (loose := K1.loose)
    (d := HandSHeadRun.topDef (OpenLaw.row PySem.Challenge.rw_widthrules_k01_whole_counterexamples).prog 179) (kwd := []) K1.ob_eq (by kernel_rfl) (fun s => by kernel_rfl) K1.run (by kernel_rfl) (by kernel_rfl) (by kernel_rfl) (by rfl)
    K1.k1_ok K1.ok_ok K1.bare_ok ?hw ?hc
  case hw => w_witness2
  case hc =>
    refine LamX.walk_ofTsE (l := PySem.Challenge.rw_widthrules_k01_whole_counterexamples) (n := 63) (k := 10) (x := "script") (CX := fun _ => L2.CX0) rfl (by decide) (by kernel_rfl) ⟨rfl, by decide, by decide⟩ ?F (fun _ _ _ _ _ z => z)
    intro w mg fa h Y G hmg0
    obtain ⟨K, KX, c⟩ := Y
    have hmg : mg ("law" : PySem.Str) = some (.ref fa) := by
      have e : (HandSHeadRun.topDef (OpenLaw.row PySem.Challenge.rw_widthrules_k01_whole_counterexamples).prog 179).name = ("law" : PySem.Str) := by kernel_rfl
      rw [← e]
      exact hmg0
    exact ⟨K, KX, K1.law_at KX c G hmg⟩
