import PyProof.Rows.All
import Wide.All
import OpenK.AllK
import Wide.FinOn
import HandS.HeadHook4
import HandS.Head2
import HandS.ForMost
import HandS.ForExc
import HandS.Defaults
import HandS.Wide
import HandS.WideBits
import HandS.IsInst
import HandS.Evl
import HandS.Flow
import HandS.Lambda
import HandS.EndTab
import HandS.HeadWalk
import HandS.ExcIs
import HandS.Iter
import HandS.Conv
import HandS.Star
import HandS.Small
import HandS.TupMul
import HandS.TupAny
import HandS.Text
import HandS.StrMore
import HandS.FStr
import HandS.RaiseMore
import HandS.Property
import HandS.GenList
import HandS.JoinGen
import HandS.Strs
import HandS.SetFor
import HandS.SetTxt0
import HandS.Style
import HandS.TupSets
import HandS.SetBool
import KE.KSortTupUse
import HandS.Comp
import PySem.Challenge.RW_widthrules_k06_whole_profiles
set_option Elab.async false
set_option linter.all false
set_option maxRecDepth 100000
set_option maxHeartbeats 0
/-! The look behind the top, in three parts: each part runs the top anew, so that none of them wants all the memory. -/
namespace WH
open PySem PySem.W HandSHeadRun
theorem map3 {α β γ δ : Type} {o : Option α} {f : α → β} {g : α → γ} {h : α → δ} {b : β} {c : γ} {d : δ} (hf : o.map f = some b) (hg : o.map g = some c) (hh : o.map h = some d) : o.map (fun s => (f s, g s, h s)) = some (b, c, d) := by
  cases o with
  | none => cases hf
  | some a =>
    cases hf
    cases hg
    cases hh
    rfl
/-- behind the top of r in the world w -/
noncomputable def Aft (r : OpenRow) (M : Nat) (w : World) (os : OsState) : Option SharedT := endF (stepQ (denQ tabQ) r.prog w) M r.prog w os
def PartA (r : OpenRow) (M : Nat) (w : World) : Prop := ∀ os, (Aft r M w os).map (fun s => looksF r.prog (boot_heap w.params) s.abs) = some true
def PartB (r : OpenRow) (q : Program) (M : Nat) (loose : List PySem.Str) (w : World) : Prop :=
  ∀ os, (Aft r M w os).map (fun s => seenQ q loose (importedModules r.prog.main.body) (fun s => xlAt q [] s && recOk r.toRowW.records s) s.abs) = some (openGood q loose)
def PartC (r : OpenRow) (H : Hook) (ob : SharedT → H.α) (M : Nat) (w : World) : Prop := ∀ os, (Aft r M w os).map ob = some (H.val w)
theorem run_of {r : OpenRow} {q : Program} {H : Hook} {ob : SharedT → H.α} {M : Nat} {loose : List PySem.Str} {w : World} (a : PartA r M w) (b : PartB r q M loose w) (c : PartC r H ob M w) : RunEq r q H ob M loose w := fun os => map3 (a os) (b os) (c os)
/-- A and B in one run -/
def PartD (r : OpenRow) (q : Program) (M : Nat) (loose : List PySem.Str) (w : World) : Prop := ∀ os,
  (Aft r M w os).map (fun s => (looksF r.prog (boot_heap w.params) s.abs, seenQ q loose (importedModules r.prog.main.body) (fun s => xlAt q [] s && recOk r.toRowW.records s) s.abs)) = some (true, openGood q loose)
theorem map2 {α β γ : Type} {o : Option α} {f : α → β} {g : α → γ} {b : β} {c : γ} (h : o.map (fun s => (f s, g s)) = some (b, c)) : o.map f = some b ∧ o.map g = some c := by
  cases o with
  | none => cases h
  | some a =>
    have h1 : (f a, g a) = (b, c) := Option.some.inj h
    injection h1 with h2 h3
    exact ⟨congrArg some h2, congrArg some h3⟩
theorem run_of2 {r : OpenRow} {q : Program} {H : Hook} {ob : SharedT → H.α} {M : Nat} {loose : List PySem.Str} {w : World} (d : PartD r q M loose w) (c : PartC r H ob M w) : RunEq r q H ob M loose w := fun os =>
  map3 (map2 (d os)).1 (map2 (d os)).2 (c os)
/-- C in two runs: the facts and defs, then the Bool -/
def PartC1 (r : OpenRow) {α β : Type} (ob : SharedT → α × β) (M : Nat) (v : World → α) (w : World) : Prop := ∀ os, (Aft r M w os).map (fun s => (ob s).1) = some (v w)
def PartC2 (r : OpenRow) {α β : Type} (ob : SharedT → α × β) (M : Nat) (v : World → β) (w : World) : Prop := ∀ os, (Aft r M w os).map (fun s => (ob s).2) = some (v w)
theorem both {γ α β : Type} {o : Option γ} {ob : γ → α × β} {a : α} {b : β} (h1 : o.map (fun s => (ob s).1) = some a) (h2 : o.map (fun s => (ob s).2) = some b) : o.map ob = some (a, b) := by
  cases o with
  | none => cases h1
  | some z =>
    have e1 : (ob z).1 = a := Option.some.inj h1
    have e2 : (ob z).2 = b := Option.some.inj h2
    rw [← e1, ← e2]
    rfl
end WH

set_option maxHeartbeats 0
namespace KC
open PySem PySem.Spec PyProof.Rows L2
def top (i : Nat) : Stmt := PySem.Challenge.pw_widthrules_k06_whole_profiles.main.body.getD i (.Pass ⟨0, 0, 0, 0⟩)
def tk_ARITIES : List Str := ["sum grouping", "product grouping", "distribution", "double negation", "difference", "add back", "division", "remainder range", "negated quotient", "shift", "absolute value", "order by difference", "monotone sum", "average", "square", "zero product", "cancellation"]
def tv_ARITIES : List (Str × He.Dv) := [("sum grouping", .int 3), ("product grouping", .int 3), ("distribution", .int 3), ("double negation", .int 1), ("difference", .int 2), ("add back", .int 2), ("division", .int 2), ("remainder range", .int 2), ("negated quotient", .int 2), ("shift", .int 1), ("absolute value", .int 1), ("order by difference", .int 2), ("monotone sum", .int 3), ("average", .int 2), ("square", .int 1), ("zero product", .int 2), ("cancellation", .int 3)]
def tk_CONDITIONS : List Str := ["sum grouping", "product grouping", "distribution", "double negation", "difference", "add back", "division", "remainder range", "negated quotient", "shift", "absolute value", "order by difference", "monotone sum", "average", "square", "zero product", "cancellation"]
def tv_CONDITIONS : List (Str × He.Dv) := [("sum grouping", .glo "_sum_grouping"), ("product grouping", .glo "_product_grouping"), ("distribution", .glo "_distribution"), ("double negation", .glo "_negatives"), ("difference", .glo "_negatives"), ("add back", .glo "_add_back"), ("division", .glo "_division"), ("remainder range", .glo "_remainder_range"), ("negated quotient", .glo "_negated_quotient"), ("shift", .glo "_shift"), ("absolute value", .glo "_absolute_value"), ("order by difference", .glo "_order_by_difference"), ("monotone sum", .glo "_monotone_sum"), ("average", .glo "_average"), ("square", .glo "_square"), ("zero product", .glo "_zero_product"), ("cancellation", .glo "_cancellation")]
def dd_is_whole : He.DefD := ⟨("is_whole", none), "is_whole", "is_whole", defArgs (top 6), defBody (top 6), defScope (top 6), [], []⟩
def dd_is_mersenne : He.DefD := ⟨("is_mersenne", none), "is_mersenne", "is_mersenne", defArgs (top 10), defBody (top 10), defScope (top 10), [], []⟩
def dd__check_exponent : He.DefD := ⟨("_check_exponent", none), "_check_exponent", "_check_exponent", defArgs (top 11), defBody (top 11), defScope (top 11), [], []⟩
def dd__passes_lucas_lehmer : He.DefD := ⟨("_passes_lucas_lehmer", none), "_passes_lucas_lehmer", "_passes_lucas_lehmer", defArgs (top 12), defBody (top 12), defScope (top 12), [], []⟩
def dd_meets_condition : He.DefD := ⟨("meets_condition", none), "meets_condition", "meets_condition", defArgs (top 14), defBody (top 14), defScope (top 14), [], []⟩
def dd__sum_grouping : He.DefD := ⟨("_sum_grouping", none), "_sum_grouping", "_sum_grouping", defArgs (top 15), defBody (top 15), defScope (top 15), [], []⟩
def dd__product_grouping : He.DefD := ⟨("_product_grouping", none), "_product_grouping", "_product_grouping", defArgs (top 16), defBody (top 16), defScope (top 16), [], []⟩
def dd__distribution : He.DefD := ⟨("_distribution", none), "_distribution", "_distribution", defArgs (top 17), defBody (top 17), defScope (top 17), [], []⟩
def dd__negatives : He.DefD := ⟨("_negatives", none), "_negatives", "_negatives", defArgs (top 18), defBody (top 18), defScope (top 18), [], []⟩
def dd__add_back : He.DefD := ⟨("_add_back", none), "_add_back", "_add_back", defArgs (top 19), defBody (top 19), defScope (top 19), [], []⟩
def dd__division : He.DefD := ⟨("_division", none), "_division", "_division", defArgs (top 20), defBody (top 20), defScope (top 20), [], []⟩
def dd__remainder_range : He.DefD := ⟨("_remainder_range", none), "_remainder_range", "_remainder_range", defArgs (top 21), defBody (top 21), defScope (top 21), [], []⟩
def dd__negated_quotient : He.DefD := ⟨("_negated_quotient", none), "_negated_quotient", "_negated_quotient", defArgs (top 22), defBody (top 22), defScope (top 22), [], []⟩
def dd__shift : He.DefD := ⟨("_shift", none), "_shift", "_shift", defArgs (top 23), defBody (top 23), defScope (top 23), [], []⟩
def dd__absolute_value : He.DefD := ⟨("_absolute_value", none), "_absolute_value", "_absolute_value", defArgs (top 24), defBody (top 24), defScope (top 24), [], []⟩
def dd__order_by_difference : He.DefD := ⟨("_order_by_difference", none), "_order_by_difference", "_order_by_difference", defArgs (top 25), defBody (top 25), defScope (top 25), [], []⟩
def dd__monotone_sum : He.DefD := ⟨("_monotone_sum", none), "_monotone_sum", "_monotone_sum", defArgs (top 26), defBody (top 26), defScope (top 26), [], []⟩
def dd__average : He.DefD := ⟨("_average", none), "_average", "_average", defArgs (top 27), defBody (top 27), defScope (top 27), [], []⟩
def dd__square : He.DefD := ⟨("_square", none), "_square", "_square", defArgs (top 28), defBody (top 28), defScope (top 28), [], []⟩
def dd__zero_product : He.DefD := ⟨("_zero_product", none), "_zero_product", "_zero_product", defArgs (top 29), defBody (top 29), defScope (top 29), [], []⟩
def dd__cancellation : He.DefD := ⟨("_cancellation", none), "_cancellation", "_cancellation", defArgs (top 30), defBody (top 30), defScope (top 30), [], []⟩
def dd_is_format : He.DefD := ⟨("is_format", none), "is_format", "is_format", defArgs (top 38), defBody (top 38), defScope (top 38), [], []⟩
def dd_are_choices : He.DefD := ⟨("are_choices", none), "are_choices", "are_choices", defArgs (top 39), defBody (top 39), defScope (top 39), [], []⟩
def dd_all_widths : He.DefD := ⟨("all_widths", none), "all_widths", "all_widths", defArgs (top 40), defBody (top 40), defScope (top 40), [], []⟩
def dd_all_formats : He.DefD := ⟨("all_formats", none), "all_formats", "all_formats", defArgs (top 41), defBody (top 41), defScope (top 41), [], []⟩
def dd_check_format : He.DefD := ⟨("check_format", none), "check_format", "check_format", defArgs (top 42), defBody (top 42), defScope (top 42), [], []⟩
def dd_rules : He.DefD := ⟨("rules", none), "rules", "rules", defArgs (top 45), defBody (top 45), defScope (top 45), [], []⟩
def dd_is_rule : He.DefD := ⟨("is_rule", none), "is_rule", "is_rule", defArgs (top 46), defBody (top 46), defScope (top 46), [], []⟩
def dd_check_rule : He.DefD := ⟨("check_rule", none), "check_rule", "check_rule", defArgs (top 47), defBody (top 47), defScope (top 47), [], []⟩
def dd_profile : He.DefD := ⟨("profile", none), "profile", "profile", defArgs (top 49), defBody (top 49), defScope (top 49), [], []⟩
def dd_profiles : He.DefD := ⟨("profiles", none), "profiles", "profiles", defArgs (top 50), defBody (top 50), defScope (top 50), [], []⟩
def dd_implies : He.DefD := ⟨("implies", none), "implies", "implies", defArgs (top 51), defBody (top 51), defScope (top 51), [], []⟩
def dd_parting : He.DefD := ⟨("parting", none), "parting", "parting", defArgs (top 52), defBody (top 52), defScope (top 52), [], []⟩
def dd__law_taken : He.DefD := ⟨("_law_taken", none), "_law_taken", "_law_taken", defArgs (top 54), defBody (top 54), defScope (top 54), [], []⟩
def dd__law_pick : He.DefD := ⟨("_law_pick", none), "_law_pick", "_law_pick", defArgs (top 55), defBody (top 55), defScope (top 55), [], []⟩
def dd__law_alike : He.DefD := ⟨("_law_alike", none), "_law_alike", "_law_alike", defArgs (top 56), defBody (top 56), defScope (top 56), [], []⟩
def dd__law_format : He.DefD := ⟨("_law_format", none), "_law_format", "_law_format", defArgs (top 57), defBody (top 57), defScope (top 57), [], []⟩
def dd__law_rules : He.DefD := ⟨("_law_rules", none), "_law_rules", "_law_rules", defArgs (top 58), defBody (top 58), defScope (top 58), [], []⟩
def dd__law_prime : He.DefD := ⟨("_law_prime", none), "_law_prime", "_law_prime", defArgs (top 59), defBody (top 59), defScope (top 59), [], []⟩
def dd__law_holds : He.DefD := ⟨("_law_holds", none), "_law_holds", "_law_holds", defArgs (top 60), defBody (top 60), defScope (top 60), [], []⟩
def dd__law_all : He.DefD := ⟨("_law_all", none), "_law_all", "_law_all", defArgs (top 61), defBody (top 61), defScope (top 61), [], []⟩
def dd__law_profile : He.DefD := ⟨("_law_profile", none), "_law_profile", "_law_profile", defArgs (top 62), defBody (top 62), defScope (top 62), [], []⟩
def dd_law : He.DefD := ⟨("law", none), "law", "law", defArgs (top 63), defBody (top 63), defScope (top 63), [], []⟩
def fn0 : List He.DefD := [dd_is_whole, dd_is_mersenne, dd__check_exponent, dd__passes_lucas_lehmer, dd_meets_condition, dd__sum_grouping, dd__product_grouping, dd__distribution, dd__negatives, dd__add_back, dd__division, dd__remainder_range, dd__negated_quotient, dd__shift, dd__absolute_value, dd__order_by_difference, dd__monotone_sum, dd__average, dd__square, dd__zero_product]
def fn1 : List He.DefD := [dd__cancellation, dd_is_format, dd_are_choices, dd_all_widths, dd_all_formats, dd_check_format, dd_rules, dd_is_rule, dd_check_rule, dd_profile, dd_profiles, dd_implies, dd_parting, dd__law_taken, dd__law_pick, dd__law_alike, dd__law_format, dd__law_rules, dd__law_prime, dd__law_holds]
def fn2 : List He.DefD := [dd__law_all, dd__law_profile, dd_law]
def fn : List He.DefD := fn0 ++ fn1 ++ fn2
def fa0 : List He.Fa := [.glo "is_whole", .glo "is_mersenne", .glo "_check_exponent", .glo "_passes_lucas_lehmer", .glo "meets_condition", .glo "_sum_grouping", .glo "_product_grouping", .glo "_distribution", .glo "_negatives", .glo "_add_back", .glo "_division", .glo "_remainder_range", .glo "_negated_quotient", .glo "_shift", .glo "_absolute_value", .glo "_order_by_difference", .glo "_monotone_sum", .glo "_average", .glo "_square", .glo "_zero_product", .glo "_cancellation", .glo "is_format", .glo "are_choices", .glo "all_widths", .glo "all_formats"]
def fa1 : List He.Fa := [.glo "check_format", .glo "rules", .glo "is_rule", .glo "check_rule", .glo "profile", .glo "profiles", .glo "implies", .glo "parting", .glo "_law_taken", .glo "_law_pick", .glo "_law_alike", .glo "_law_format", .glo "_law_rules", .glo "_law_prime", .glo "_law_holds", .glo "_law_all", .glo "_law_profile", .glo "law", .free "isinstance", .free "int", .free "bool", .free "tuple", .free "str", .free "list", .free "len"]
def fa2 : List He.Fa := [.free "min", .free "range", .free "sorted", .free "set", .int "LEAST_WIDTH" 4, .int "GREATEST_WIDTH" 64, .int "LEAST_EXPONENT" 2, .int "GREATEST_EXPONENT" 64, .glo "SIGNS", .glo "OVERFLOWS", .glo "DIVISIONS", .glo "ARITIES", .glo "CONDITIONS"]
def fa : List He.Fa := fa0 ++ fa1 ++ fa2
def ex (K : PySem.W.Frag) : Bool := He.tupB K "SIGNS" [.str "symmetric", .str "twos", .str "unsigned"] && (He.tupB K "OVERFLOWS" [.str "saturate", .str "trap", .str "wrap"] && (He.tupB K "DIVISIONS" [.str "ceiling", .str "euclid", .str "even", .str "floor", .str "zero"] && (He.valsB K (He.ga K "ARITIES") tv_ARITIES && (He.valsB K (He.ga K "CONDITIONS") tv_CONDITIONS && (true)))))
def ts : List He.Tab := [(fun K => He.ga K "ARITIES", tk_ARITIES), (fun K => He.ga K "CONDITIONS", tk_CONDITIONS)]
abbrev RR : PySem.W.OpenRow := PySem.W.OpenLaw.row PySem.Challenge.rw_widthrules_k06_whole_profiles
abbrev hk : PySem.W.Hook := He.hookX 2 fa fn ts [("law", none)] ex
def ob (s : PySem.W.SharedT) : He.AlX := He.obsX 2 fa fn ts [("law", none)] ex (HandSHeadRun.getT s)
theorem ob_eq (s : PySem.W.SharedT) : ob s = hk.obs s.abs := He.obsX_eq (HandSHeadRun.getT_eq s)
def loose0 : List Str := ["WidthError", "BadFormat", "BadRule", "BadWidth", "is_whole", "LEAST_EXPONENT", "GREATEST_EXPONENT", "is_mersenne", "_check_exponent", "_passes_lucas_lehmer", "meets_condition", "_sum_grouping", "_product_grouping", "_distribution", "_negatives", "_add_back", "_division", "_remainder_range", "_negated_quotient", "_shift", "_absolute_value", "_order_by_difference", "_monotone_sum", "_average", "_square", "_zero_product", "_cancellation", "CONDITIONS", "LEAST_WIDTH", "GREATEST_WIDTH"]
def loose1 : List Str := ["SIGNS", "OVERFLOWS", "DIVISIONS", "is_format", "are_choices", "all_widths", "all_formats", "check_format", "ARITIES", "rules", "is_rule", "check_rule", "profile", "profiles", "implies", "parting", "_law_taken", "_law_pick", "_law_alike", "_law_format", "_law_rules", "_law_prime", "_law_holds", "_law_all", "_law_profile"]
def loose : List Str := loose0 ++ loose1
theorem runD_false (w : World) : WH.PartD RR (PySem.W.view RR.prog [63]) 60000 loose (w.withFollow "special-get-raises" false) := by
  intro os
  kernel_rfl
theorem runC_false (w : World) : WH.PartC RR hk ob 60000 (w.withFollow "special-get-raises" false) := by
  intro os
  kernel_rfl
theorem runD_true (w : World) : WH.PartD RR (PySem.W.view RR.prog [63]) 60000 loose (w.withFollow "special-get-raises" true) := by
  intro os
  kernel_rfl
theorem runC_true (w : World) : WH.PartC RR hk ob 60000 (w.withFollow "special-get-raises" true) := by
  intro os
  kernel_rfl
theorem run (w : World) : HandSHeadRun.RunEq RR (PySem.W.view RR.prog [63]) hk ob 60000 loose w := PySem.W.byRow2 "special-get-raises" (P := fun w => HandSHeadRun.RunEq RR (PySem.W.view RR.prog [63]) hk ob 60000 loose w) (fun w => WH.run_of2 (runD_false w) (runC_false w)) (fun w => WH.run_of2 (runD_true w) (runC_true w)) w
theorem bare_ok : RR.prog.bare := ⟨rfl, rfl, rfl, rfl, rfl, by decide +kernel⟩
theorem ok_ok : (PySem.W.chainsOk (PySem.W.view RR.prog [63]) && (PySem.W.opensWell RR.prog && (PySem.W.frees RR.toRowW && RR.within.isEmpty))) = true := by decide +kernel
end KC

/-! Mathematics of machine integer formats: bounds, fitting, quotients. -/
set_option maxHeartbeats 4000000
namespace WM
inductive Sg where | sym | twos | uns
  deriving DecidableEq
inductive Ov where | sat | trap | wrap
  deriving DecidableEq
inductive Dv where | ceil | euc | even | floor | zero
  deriving DecidableEq
structure Fmt where
  w : Nat
  sg : Sg
  ov : Ov
  dv : Dv
  lo4 : 4 ≤ w
  hi64 : w ≤ 64
def p2 (n : Nat) : Int := 2 ^ n
theorem p2_succ (n : Nat) : p2 (n + 1) = 2 * p2 n := by
  unfold p2; rw [Int.pow_succ]; omega
theorem p2_mono {m n : Nat} (h : m ≤ n) : p2 m ≤ p2 n := by
  induction n with
  | zero => have e : m = 0 := by omega
            rw [e]; exact Int.le_refl _
  | succ k ih =>
    by_cases e : m = k + 1
    · rw [e]; exact Int.le_refl _
    · have h1 := ih (by omega)
      have h2 : (0 : Int) ≤ p2 k := by
        unfold p2; exact Int.pow_nonneg (by decide)
      rw [p2_succ]; omega
def bnd (sg : Sg) (w : Nat) : Int := match sg with
  | .uns => p2 w
  | _ => p2 (w - 1)
def hi (f : Fmt) : Int := bnd f.sg f.w - 1
def lo (f : Fmt) : Int := match f.sg with
  | .uns => 0
  | .twos => - p2 (f.w - 1)
  | .sym => 1 - p2 (f.w - 1)
def many (f : Fmt) : Int := hi f - lo f + 1
theorem p2_lo {n : Nat} (h : 3 ≤ n) : 8 ≤ p2 n := p2_mono h
theorem p2_hi {n : Nat} (h : n ≤ 64) : p2 n ≤ 18446744073709551616 := p2_mono h
theorem p2_w {w : Nat} (h : 4 ≤ w) : p2 w = 2 * p2 (w - 1) := by
  obtain ⟨k, rfl⟩ : ∃ k, w = k + 1 := ⟨w - 1, by omega⟩
  exact p2_succ k
/-- all that omega wants to know of a format's numbers -/
theorem facts (f : Fmt) : 8 ≤ p2 (f.w - 1) ∧ p2 (f.w - 1) ≤ 9223372036854775808 ∧ p2 f.w = 2 * p2 (f.w - 1) ∧
    lo f ≤ 0 ∧ 7 ≤ hi f ∧ -9223372036854775808 ≤ lo f ∧ hi f ≤ 18446744073709551615 ∧ many f = hi f - lo f + 1 ∧ lo f ≤ hi f ∧ 15 ≤ many f ∧ many f ≤ 18446744073709551616 := by
  have h1 : 8 ≤ p2 (f.w - 1) := p2_lo (by have := f.lo4; omega)
  have h2 : p2 (f.w - 1) ≤ p2 63 := p2_mono (by have := f.hi64; omega)
  have h3 : p2 f.w = 2 * p2 (f.w - 1) := p2_w f.lo4
  have h4 : p2 63 = 9223372036854775808 := by decide
  rw [h4] at h2
  obtain ⟨w, sg, ov, dv, l1, l2⟩ := f
  cases sg <;> (simp only [many, hi, lo, bnd]; simp only [] at h1 h2 h3; refine ⟨by omega, by omega, by omega, by omega, by omega, by omega, by omega, ?_, by omega, by omega, by omega⟩; trivial)
def fits (f : Fmt) (e : Int) : Prop := lo f ≤ e ∧ e ≤ hi f
instance (f : Fmt) (e : Int) : Decidable (fits f e) := inferInstanceAs (Decidable (_ ∧ _))
/-- the fitted result; none is the trap -/
def fitR (f : Fmt) (e : Int) : Option Int :=
  if fits f e then some e else match f.ov with
    | .wrap => some (lo f + (e - lo f).fmod (many f))
    | .sat => some (if e < lo f then lo f else hi f)
    | .trap => none
theorem fitR_in {f : Fmt} {e : Int} (h : fits f e) : fitR f e = some e := if_pos h
theorem fitR_fits {f : Fmt} {e z : Int} (h : fitR f e = some z) : fits f z := by
  unfold fitR at h
  split at h
  · cases h; assumption
  · have F := facts f
    cases hov : f.ov <;> rw [hov] at h <;> simp only [] at h
    · cases h
      unfold fits
      split <;> omega
    · cases h
    · cases h
      have h1 := Int.fmod_nonneg_of_pos (e - lo f) (show 0 < many f by omega)
      have h2 := Int.fmod_lt_of_pos (e - lo f) (show 0 < many f by omega)
      unfold fits
      omega

/-! ### quotients -/
theorem fdiv_pos {a b q : Int} (hb : 0 < b) (h1 : b * q ≤ a) (h2 : a < b * q + b) : a.fdiv b = q := by
  have u := (Int.fdiv_fmod_unique (a := a) (b := b) (r := a - b * q) (q := q) hb).mpr ⟨by omega, by omega, by omega⟩
  exact u.1
theorem fdiv_neg' {a b q : Int} (hb : b < 0) (h1 : a ≤ b * q) (h2 : b * q + b < a) : a.fdiv b = q := by
  have e : a.fdiv b = (-a).fdiv (-b) := (Int.neg_fdiv_neg a b).symm
  rw [e]
  refine fdiv_pos (by omega) ?_ ?_
  · rw [Int.neg_mul]; omega
  · rw [Int.neg_mul]; omega
def quo (d : Dv) (a b : Int) : Int := match d with
  | .floor => a.fdiv b
  | .ceil => - (-a).fdiv b
  | .zero => if (decide (a < 0) = decide (b < 0)) then (a.natAbs : Int).fdiv b.natAbs else - (a.natAbs : Int).fdiv b.natAbs
  | .even =>
    let q := a.fdiv b
    if 2 * ((a - b * q).natAbs : Int) > b.natAbs ∨ (2 * ((a - b * q).natAbs : Int) = b.natAbs ∧ q.fmod 2 = 1) then q + 1 else q
  | .euc => if 0 < b then a.fdiv b else - a.fdiv (-b)
/-- by the exact sizes -/
def qup (d : Dv) (a b left size : Int) : Bool := match d with
  | .zero => false
  | .floor => decide (a < 0) != decide (b < 0)
  | .ceil => !(decide (a < 0) != decide (b < 0))
  | .euc => decide (a < 0)
  | .even => decide (2 * left > (b.natAbs : Int)) || (decide (2 * left = (b.natAbs : Int)) && decide (size.fmod 2 = 1))
def quoS (d : Dv) (a b : Int) : Int :=
  let size := (a.natAbs : Int).fdiv b.natAbs
  let left := (a.natAbs : Int) - size * b.natAbs
  let neg := decide (a < 0) != decide (b < 0)
  if left = 0 then (if neg then 0 - size else size) else
    let size2 := if qup d a b left size then size + 1 else size
    if neg then 0 - size2 else size2
theorem fmod2 (q : Int) : q.fmod 2 = q % 2 := Int.fmod_eq_emod_of_nonneg q (by decide)
theorem quo_even_of {a b q x : Int} {X B : Int} (hq : a.fdiv b = q) (hx : a - b * q = x) (hX : (x.natAbs : Int) = X) (hB : (b.natAbs : Int) = B) :
    quo .even a b = if 2 * X > B ∨ (2 * X = B ∧ q % 2 = 1) then q + 1 else q := by
  show (if 2 * ((a - b * a.fdiv b).natAbs : Int) > b.natAbs ∨ (2 * ((a - b * a.fdiv b).natAbs : Int) = b.natAbs ∧ (a.fdiv b).fmod 2 = 1) then a.fdiv b + 1 else a.fdiv b) = _
  rw [hq, hx, fmod2, hX, hB]
theorem core_nn (d : Dv) (m n : Int) (m0 : 0 ≤ m) (m1 : 0 < m) (n0 : 0 < n) : quoS d (-m) (-n) = quo d (-m) (-n) := by
  obtain ⟨s, hs⟩ : ∃ s : Int, s = m.fdiv n := ⟨_, rfl⟩
  obtain ⟨r, hr⟩ : ∃ r : Int, r = m - s * n := ⟨_, rfl⟩
  have r1 : 0 ≤ r ∧ r < n := by
    have h1 := Int.mul_fdiv_self_le (x := m) n0
    have h2 := Int.lt_mul_fdiv_self_add (x := m) n0
    rw [← hs] at h1 h2
    rw [hr, Int.mul_comm s n]
    omega
  obtain ⟨t, ht⟩ : ∃ t : Int, t = n * s := ⟨_, rfl⟩
  have hrt : m = t + r := by rw [hr, ht, Int.mul_comm s n]; omega
  have hs0 : 0 ≤ s := by rw [hs]; exact Int.fdiv_nonneg m0 (by omega)
  have e1 : n * (s + 1) = t + n := by rw [Int.mul_add, ← ht]; omega
  have e2 : n * (-s) = -t := by rw [Int.mul_neg, ← ht]
  have e3 : n * (-s - 1) = -t - n := by rw [Int.mul_sub, e2]; omega
  have e4 : (-n) * s = -t := by rw [Int.neg_mul, ← ht]
  have e5 : (-n) * (s + 1) = -t - n := by rw [Int.neg_mul, e1]; omega
  have e6 : (-n) * (-s) = t := by rw [Int.neg_mul, e2]; omega
  have e7 : (-n) * (-s - 1) = t + n := by rw [Int.neg_mul, e3]; omega
  have fpp : m.fdiv n = s := hs.symm
  have fnp : (-m).fdiv n = if r = 0 then -s else -s - 1 := by
    split
    · exact fdiv_pos n0 (by omega) (by omega)
    · exact fdiv_pos n0 (by omega) (by omega)
  have fpn : m.fdiv (-n) = if r = 0 then -s else -s - 1 := by
    split
    · exact fdiv_neg' (by omega) (by omega) (by omega)
    · exact fdiv_neg' (by omega) (by omega) (by omega)
  have fnn : (-m).fdiv (-n) = s := by rw [Int.neg_fdiv_neg]; exact fpp
  have hmn : s * n = t := by rw [ht, Int.mul_comm]
  have A1 : ((-m).natAbs : Int) = m := by omega
  have A2 : ((-n).natAbs : Int) = n := by omega
  have A3 : (m.natAbs : Int) = m := by omega
  have A4 : (n.natAbs : Int) = n := by omega
  have tt : (true != true) = false := rfl
  have tf : (true != false) = true := rfl
  have ft : (false != true) = true := rfl
  have ff : (false != false) = false := rfl
  have T1 : (true = false) = False := by simp
  have T2 : (false = true) = False := by simp
  have mt : m - t = r := by omega
  clear hs hr
  have da : decide ((-m) < 0) = true := by simp; omega
  have db : decide ((-n) < 0) = true := by simp; omega
  unfold quoS
  simp only [A1, A2, da, db, fpp, hmn, mt, tt, tf, ft, ff, T2, if_true, if_false]
  by_cases r0 : r = 0
  · rw [if_pos r0] at fnp fpn
    have EV := quo_even_of (a := (-m)) (b := (-n)) (q := s) (x := (-r)) (X := r) (B := n) fnn (by rw [e4]; omega) (by omega) A2
    cases d
    case even =>
      rw [EV]; clear EV
      simp only [qup, A1, A2, da, db, tt, tf, ft, ff, T1, T2, if_false, if_true, Bool.or_eq_true, Bool.and_eq_true, decide_eq_true_eq, fmod2, r0]
      first | done | ((repeat' split) <;> omega)
    all_goals (clear EV; simp only [quo, qup, fpp, fnn, fpn, fnp, Int.neg_neg, A1, A2, da, db, tt, tf, ft, ff, T1, T2, Bool.not_false, Bool.not_true, if_false, if_true, Bool.or_eq_true, Bool.and_eq_true, decide_eq_true_eq, r0])
    all_goals first | done | ((repeat' split) <;> omega)
  · rw [if_neg r0] at fnp fpn
    have EV := quo_even_of (a := (-m)) (b := (-n)) (q := s) (x := (-r)) (X := r) (B := n) fnn (by rw [e4]; omega) (by omega) A2
    cases d
    case even =>
      rw [EV]; clear EV
      simp only [qup, A1, A2, da, db, tt, tf, ft, ff, T1, T2, if_false, if_true, Bool.or_eq_true, Bool.and_eq_true, decide_eq_true_eq, fmod2, r0]
      first | done | ((repeat' split) <;> omega)
    all_goals (clear EV; simp only [quo, qup, fpp, fnn, fpn, fnp, Int.neg_neg, A1, A2, da, db, tt, tf, ft, ff, T1, T2, Bool.not_false, Bool.not_true, if_false, if_true, Bool.or_eq_true, Bool.and_eq_true, decide_eq_true_eq, r0])
    all_goals first | done | ((repeat' split) <;> omega)
theorem core_np (d : Dv) (m n : Int) (m0 : 0 ≤ m) (m1 : 0 < m) (n0 : 0 < n) : quoS d (-m) n = quo d (-m) n := by
  obtain ⟨s, hs⟩ : ∃ s : Int, s = m.fdiv n := ⟨_, rfl⟩
  obtain ⟨r, hr⟩ : ∃ r : Int, r = m - s * n := ⟨_, rfl⟩
  have r1 : 0 ≤ r ∧ r < n := by
    have h1 := Int.mul_fdiv_self_le (x := m) n0
    have h2 := Int.lt_mul_fdiv_self_add (x := m) n0
    rw [← hs] at h1 h2
    rw [hr, Int.mul_comm s n]
    omega
  obtain ⟨t, ht⟩ : ∃ t : Int, t = n * s := ⟨_, rfl⟩
  have hrt : m = t + r := by rw [hr, ht, Int.mul_comm s n]; omega
  have hs0 : 0 ≤ s := by rw [hs]; exact Int.fdiv_nonneg m0 (by omega)
  have e1 : n * (s + 1) = t + n := by rw [Int.mul_add, ← ht]; omega
  have e2 : n * (-s) = -t := by rw [Int.mul_neg, ← ht]
  have e3 : n * (-s - 1) = -t - n := by rw [Int.mul_sub, e2]; omega
  have e4 : (-n) * s = -t := by rw [Int.neg_mul, ← ht]
  have e5 : (-n) * (s + 1) = -t - n := by rw [Int.neg_mul, e1]; omega
  have e6 : (-n) * (-s) = t := by rw [Int.neg_mul, e2]; omega
  have e7 : (-n) * (-s - 1) = t + n := by rw [Int.neg_mul, e3]; omega
  have fpp : m.fdiv n = s := hs.symm
  have fnp : (-m).fdiv n = if r = 0 then -s else -s - 1 := by
    split
    · exact fdiv_pos n0 (by omega) (by omega)
    · exact fdiv_pos n0 (by omega) (by omega)
  have fpn : m.fdiv (-n) = if r = 0 then -s else -s - 1 := by
    split
    · exact fdiv_neg' (by omega) (by omega) (by omega)
    · exact fdiv_neg' (by omega) (by omega) (by omega)
  have fnn : (-m).fdiv (-n) = s := by rw [Int.neg_fdiv_neg]; exact fpp
  have hmn : s * n = t := by rw [ht, Int.mul_comm]
  have A1 : ((-m).natAbs : Int) = m := by omega
  have A2 : ((-n).natAbs : Int) = n := by omega
  have A3 : (m.natAbs : Int) = m := by omega
  have A4 : (n.natAbs : Int) = n := by omega
  have tt : (true != true) = false := rfl
  have tf : (true != false) = true := rfl
  have ft : (false != true) = true := rfl
  have ff : (false != false) = false := rfl
  have T1 : (true = false) = False := by simp
  have T2 : (false = true) = False := by simp
  have mt : m - t = r := by omega
  clear hs hr
  have da : decide ((-m) < 0) = true := by simp; omega
  have db : decide (n < 0) = false := by simp; omega
  unfold quoS
  simp only [A1, A4, da, db, fpp, hmn, mt, tt, tf, ft, ff, T2, if_true, if_false]
  by_cases r0 : r = 0
  · rw [if_pos r0] at fnp fpn
    have EV := quo_even_of (a := (-m)) (b := n) (q := (-s)) (x := 0) (X := 0) (B := n) fnp (by rw [e2]; omega) (by omega) A4
    cases d
    case even =>
      rw [EV]; clear EV
      simp only [qup, A1, A4, da, db, tt, tf, ft, ff, T1, T2, if_false, if_true, Bool.or_eq_true, Bool.and_eq_true, decide_eq_true_eq, fmod2, r0]
      first | done | ((repeat' split) <;> omega)
    all_goals (clear EV; simp only [quo, qup, fpp, fnn, fpn, fnp, Int.neg_neg, A1, A4, da, db, tt, tf, ft, ff, T1, T2, Bool.not_false, Bool.not_true, if_false, if_true, Bool.or_eq_true, Bool.and_eq_true, decide_eq_true_eq, r0])
    all_goals first | done | ((repeat' split) <;> omega)
  · rw [if_neg r0] at fnp fpn
    have EV := quo_even_of (a := (-m)) (b := n) (q := (-s-1)) (x := (n - r)) (X := (n - r)) (B := n) fnp (by rw [e3]; omega) (by omega) A4
    cases d
    case even =>
      rw [EV]; clear EV
      simp only [qup, A1, A4, da, db, tt, tf, ft, ff, T1, T2, if_false, if_true, Bool.or_eq_true, Bool.and_eq_true, decide_eq_true_eq, fmod2, r0]
      first | done | ((repeat' split) <;> omega)
    all_goals (clear EV; simp only [quo, qup, fpp, fnn, fpn, fnp, Int.neg_neg, A1, A4, da, db, tt, tf, ft, ff, T1, T2, Bool.not_false, Bool.not_true, if_false, if_true, Bool.or_eq_true, Bool.and_eq_true, decide_eq_true_eq, r0])
    all_goals first | done | ((repeat' split) <;> omega)
theorem core_pn (d : Dv) (m n : Int) (m0 : 0 ≤ m) (n0 : 0 < n) : quoS d m (-n) = quo d m (-n) := by
  obtain ⟨s, hs⟩ : ∃ s : Int, s = m.fdiv n := ⟨_, rfl⟩
  obtain ⟨r, hr⟩ : ∃ r : Int, r = m - s * n := ⟨_, rfl⟩
  have r1 : 0 ≤ r ∧ r < n := by
    have h1 := Int.mul_fdiv_self_le (x := m) n0
    have h2 := Int.lt_mul_fdiv_self_add (x := m) n0
    rw [← hs] at h1 h2
    rw [hr, Int.mul_comm s n]
    omega
  obtain ⟨t, ht⟩ : ∃ t : Int, t = n * s := ⟨_, rfl⟩
  have hrt : m = t + r := by rw [hr, ht, Int.mul_comm s n]; omega
  have hs0 : 0 ≤ s := by rw [hs]; exact Int.fdiv_nonneg m0 (by omega)
  have e1 : n * (s + 1) = t + n := by rw [Int.mul_add, ← ht]; omega
  have e2 : n * (-s) = -t := by rw [Int.mul_neg, ← ht]
  have e3 : n * (-s - 1) = -t - n := by rw [Int.mul_sub, e2]; omega
  have e4 : (-n) * s = -t := by rw [Int.neg_mul, ← ht]
  have e5 : (-n) * (s + 1) = -t - n := by rw [Int.neg_mul, e1]; omega
  have e6 : (-n) * (-s) = t := by rw [Int.neg_mul, e2]; omega
  have e7 : (-n) * (-s - 1) = t + n := by rw [Int.neg_mul, e3]; omega
  have fpp : m.fdiv n = s := hs.symm
  have fnp : (-m).fdiv n = if r = 0 then -s else -s - 1 := by
    split
    · exact fdiv_pos n0 (by omega) (by omega)
    · exact fdiv_pos n0 (by omega) (by omega)
  have fpn : m.fdiv (-n) = if r = 0 then -s else -s - 1 := by
    split
    · exact fdiv_neg' (by omega) (by omega) (by omega)
    · exact fdiv_neg' (by omega) (by omega) (by omega)
  have fnn : (-m).fdiv (-n) = s := by rw [Int.neg_fdiv_neg]; exact fpp
  have hmn : s * n = t := by rw [ht, Int.mul_comm]
  have A1 : ((-m).natAbs : Int) = m := by omega
  have A2 : ((-n).natAbs : Int) = n := by omega
  have A3 : (m.natAbs : Int) = m := by omega
  have A4 : (n.natAbs : Int) = n := by omega
  have tt : (true != true) = false := rfl
  have tf : (true != false) = true := rfl
  have ft : (false != true) = true := rfl
  have ff : (false != false) = false := rfl
  have T1 : (true = false) = False := by simp
  have T2 : (false = true) = False := by simp
  have mt : m - t = r := by omega
  clear hs hr
  have da : decide (m < 0) = false := by simp; omega
  have db : decide ((-n) < 0) = true := by simp; omega
  unfold quoS
  simp only [A3, A2, da, db, fpp, hmn, mt, tt, tf, ft, ff, T2, if_true, if_false]
  by_cases r0 : r = 0
  · rw [if_pos r0] at fnp fpn
    have EV := quo_even_of (a := m) (b := (-n)) (q := (-s)) (x := 0) (X := 0) (B := n) fpn (by rw [e6]; omega) (by omega) A2
    cases d
    case even =>
      rw [EV]; clear EV
      simp only [qup, A3, A2, da, db, tt, tf, ft, ff, T1, T2, if_false, if_true, Bool.or_eq_true, Bool.and_eq_true, decide_eq_true_eq, fmod2, r0]
      first | done | ((repeat' split) <;> omega)
    all_goals (clear EV; simp only [quo, qup, fpp, fnn, fpn, fnp, Int.neg_neg, A3, A2, da, db, tt, tf, ft, ff, T1, T2, Bool.not_false, Bool.not_true, if_false, if_true, Bool.or_eq_true, Bool.and_eq_true, decide_eq_true_eq, r0])
    all_goals first | done | ((repeat' split) <;> omega)
  · rw [if_neg r0] at fnp fpn
    have EV := quo_even_of (a := m) (b := (-n)) (q := (-s-1)) (x := (r - n)) (X := (n - r)) (B := n) fpn (by rw [e7]; omega) (by omega) A2
    cases d
    case even =>
      rw [EV]; clear EV
      simp only [qup, A3, A2, da, db, tt, tf, ft, ff, T1, T2, if_false, if_true, Bool.or_eq_true, Bool.and_eq_true, decide_eq_true_eq, fmod2, r0]
      first | done | ((repeat' split) <;> omega)
    all_goals (clear EV; simp only [quo, qup, fpp, fnn, fpn, fnp, Int.neg_neg, A3, A2, da, db, tt, tf, ft, ff, T1, T2, Bool.not_false, Bool.not_true, if_false, if_true, Bool.or_eq_true, Bool.and_eq_true, decide_eq_true_eq, r0])
    all_goals first | done | ((repeat' split) <;> omega)
theorem core_pp (d : Dv) (m n : Int) (m0 : 0 ≤ m) (n0 : 0 < n) : quoS d m n = quo d m n := by
  obtain ⟨s, hs⟩ : ∃ s : Int, s = m.fdiv n := ⟨_, rfl⟩
  obtain ⟨r, hr⟩ : ∃ r : Int, r = m - s * n := ⟨_, rfl⟩
  have r1 : 0 ≤ r ∧ r < n := by
    have h1 := Int.mul_fdiv_self_le (x := m) n0
    have h2 := Int.lt_mul_fdiv_self_add (x := m) n0
    rw [← hs] at h1 h2
    rw [hr, Int.mul_comm s n]
    omega
  obtain ⟨t, ht⟩ : ∃ t : Int, t = n * s := ⟨_, rfl⟩
  have hrt : m = t + r := by rw [hr, ht, Int.mul_comm s n]; omega
  have hs0 : 0 ≤ s := by rw [hs]; exact Int.fdiv_nonneg m0 (by omega)
  have e1 : n * (s + 1) = t + n := by rw [Int.mul_add, ← ht]; omega
  have e2 : n * (-s) = -t := by rw [Int.mul_neg, ← ht]
  have e3 : n * (-s - 1) = -t - n := by rw [Int.mul_sub, e2]; omega
  have e4 : (-n) * s = -t := by rw [Int.neg_mul, ← ht]
  have e5 : (-n) * (s + 1) = -t - n := by rw [Int.neg_mul, e1]; omega
  have e6 : (-n) * (-s) = t := by rw [Int.neg_mul, e2]; omega
  have e7 : (-n) * (-s - 1) = t + n := by rw [Int.neg_mul, e3]; omega
  have fpp : m.fdiv n = s := hs.symm
  have fnp : (-m).fdiv n = if r = 0 then -s else -s - 1 := by
    split
    · exact fdiv_pos n0 (by omega) (by omega)
    · exact fdiv_pos n0 (by omega) (by omega)
  have fpn : m.fdiv (-n) = if r = 0 then -s else -s - 1 := by
    split
    · exact fdiv_neg' (by omega) (by omega) (by omega)
    · exact fdiv_neg' (by omega) (by omega) (by omega)
  have fnn : (-m).fdiv (-n) = s := by rw [Int.neg_fdiv_neg]; exact fpp
  have hmn : s * n = t := by rw [ht, Int.mul_comm]
  have A1 : ((-m).natAbs : Int) = m := by omega
  have A2 : ((-n).natAbs : Int) = n := by omega
  have A3 : (m.natAbs : Int) = m := by omega
  have A4 : (n.natAbs : Int) = n := by omega
  have tt : (true != true) = false := rfl
  have tf : (true != false) = true := rfl
  have ft : (false != true) = true := rfl
  have ff : (false != false) = false := rfl
  have T1 : (true = false) = False := by simp
  have T2 : (false = true) = False := by simp
  have mt : m - t = r := by omega
  clear hs hr
  have da : decide (m < 0) = false := by simp; omega
  have db : decide (n < 0) = false := by simp; omega
  unfold quoS
  simp only [A3, A4, da, db, fpp, hmn, mt, tt, tf, ft, ff, T2, if_true, if_false]
  by_cases r0 : r = 0
  · rw [if_pos r0] at fnp fpn
    have EV := quo_even_of (a := m) (b := n) (q := s) (x := r) (X := r) (B := n) fpp (by rw [← ht]; omega) (by omega) A4
    cases d
    case even =>
      rw [EV]; clear EV
      simp only [qup, A3, A4, da, db, tt, tf, ft, ff, T1, T2, if_false, if_true, Bool.or_eq_true, Bool.and_eq_true, decide_eq_true_eq, fmod2, r0]
      first | done | ((repeat' split) <;> omega)
    all_goals (clear EV; simp only [quo, qup, fpp, fnn, fpn, fnp, Int.neg_neg, A3, A4, da, db, tt, tf, ft, ff, T1, T2, Bool.not_false, Bool.not_true, if_false, if_true, Bool.or_eq_true, Bool.and_eq_true, decide_eq_true_eq, r0])
    all_goals first | done | ((repeat' split) <;> omega)
  · rw [if_neg r0] at fnp fpn
    have EV := quo_even_of (a := m) (b := n) (q := s) (x := r) (X := r) (B := n) fpp (by rw [← ht]; omega) (by omega) A4
    cases d
    case even =>
      rw [EV]; clear EV
      simp only [qup, A3, A4, da, db, tt, tf, ft, ff, T1, T2, if_false, if_true, Bool.or_eq_true, Bool.and_eq_true, decide_eq_true_eq, fmod2, r0]
      first | done | ((repeat' split) <;> omega)
    all_goals (clear EV; simp only [quo, qup, fpp, fnn, fpn, fnp, Int.neg_neg, A3, A4, da, db, tt, tf, ft, ff, T1, T2, Bool.not_false, Bool.not_true, if_false, if_true, Bool.or_eq_true, Bool.and_eq_true, decide_eq_true_eq, r0])
    all_goals first | done | ((repeat' split) <;> omega)
theorem quoS_eq (d : Dv) (a b : Int) (hb : b ≠ 0) : quoS d a b = quo d a b := by
  by_cases ha : a < 0 <;> by_cases hb2 : b < 0
  · have h := core_nn d (-a) (-b) (by omega) (by omega) (by omega)
    rw [Int.neg_neg, Int.neg_neg] at h; exact h
  · have h := core_np d (-a) b (by omega) (by omega) (by omega)
    rw [Int.neg_neg] at h; exact h
  · have h := core_pn d a (-b) (by omega) (by omega)
    rw [Int.neg_neg] at h; exact h
  · exact core_pp d a b (by omega) (by omega)
end WM

set_option maxHeartbeats 4000000
/-! A layer of short words for pure defs over the hand layer. -/
namespace WL
open PySem PySem.Spec PyProof.Rows L2 Evl WM

/-! ### statements told at the entry's heap -/
def Bl (t : TS) (D : Ends) (s : L2.St) (H : Hp) : Prop := ∀ H1, Ex H H1 → t D s H1
section
variable {K : PySem.W.Frag} {s : L2.St} {H H' : Hp} {ta tb te tx : TE} {t u : TT} {x y z v : V} {r : R2} {D : Ends} {tu tw tz : TS}
theorem bl_go (h : Bl tz D s H) : tz D s H := h H (Ex.refl H)
theorem bl_mono (e : Ex H H') (h : Bl tz D s H) : Bl tz D s H' := fun H1 e1 => h H1 (e.trans e1)
theorem bl_seq (h : Bl tu { D with nx := fun s' H' => tw D s' H' } s H) : Bl (tSeq tu tw) D s H := h
theorem bl_set {i : Nat} (h : Ev te s H v) (k : Bl tz D (s.set i (some v)) H) : Bl (tSeq (tAsg te (gName i)) tz) D s H :=
  fun H1 e => q_asg (h.mono e) fun H2 e2 => k H2 (e.trans e2)
theorem bl_setU {i : Nat} {xs : List V} (h : EvU te s H xs) (k : ∀ p H1, H p = none → Ex H H1 → H1 p = some (.tup xs) → Bl tz D (s.set i (some (.ref p))) H1) : Bl (tSeq (tAsg te (gName i)) tz) D s H :=
  fun H1 e => q_asgU (fun H2 e2 => h H2 (e.trans e2)) fun p H2 hp e2 hx => k p H2 (fresh_back e hp) (e.trans e2) hx H2 (Ex.refl H2)
theorem bl_setL {i : Nat} {xs : List V} (h : EvL te s H xs) (k : ∀ p H1, H p = none → Ex H H1 → H1 p = some (.lst xs) → Bl tz D (s.set i (some (.ref p))) H1) : Bl (tSeq (tAsg te (gName i)) tz) D s H :=
  fun H1 e => q_asgL (fun H2 e2 => h H2 (e.trans e2)) fun p H2 hp e2 hx => k p H2 (fresh_back e hp) (e.trans e2) hx H2 (Ex.refl H2)
theorem bl_drop (h : Ev te s H v) (k : Bl tz D s H) : Bl (tSeq (tDrop te) tz) D s H :=
  fun H1 e => q_drop (h.mono e) fun H2 e2 => k H2 (e.trans e2)
theorem bl_par {i j : Nat} {ta : TA} {a b : V} (h : EvA ta s H [a, b]) (k : Bl tz D ((s.set i (some a)).set j (some b)) H) : Bl (tSeq (tPar i j ta) tz) D s H :=
  fun H1 e => h H1 e _ fun H2 e2 => ⟨a, b, rfl, k H2 (e.trans e2)⟩
theorem bl_if {b : Bool} (h : EvT t s H b) (h1 : b = true → Bl tu { D with nx := fun s' H' => tz D s' H' } s H) (h2 : b = false → Bl tw { D with nx := fun s' H' => tz D s' H' } s H) : Bl (tSeq (tIfS t tu tw) tz) D s H :=
  fun H1 e => q_if (h := fun H2 e2 => h H2 (e.trans e2)) (fun hb H2 e2 => h1 hb H2 (e.trans e2)) (fun hb H2 e2 => h2 hb H2 (e.trans e2))
/-- an if without else -/
theorem bl_when {b : Bool} (h : EvT t s H b) (h1 : b = true → Bl tu { D with nx := fun s' H' => tz D s' H' } s H) (h2 : b = false → Bl tz D s H) : Bl (tSeq (tIfS t tu tNext) tz) D s H :=
  bl_if h h1 fun hb => h2 hb
theorem bl_ifLast {b : Bool} (h : EvT t s H b) (h1 : b = true → Bl tu D s H) (h2 : b = false → Bl tw D s H) : Bl (tIfS t tu tw) D s H :=
  fun H1 e => s_if (h := fun H2 e2 => h H2 (e.trans e2)) (fun hb H2 e2 => h1 hb H2 (e.trans e2)) (fun hb H2 e2 => h2 hb H2 (e.trans e2))
theorem bl_ret (h : Ev te s H v) (k : RetV v H D.rt) : Bl (tRet te) D s H := fun H1 e => s_ret (h.mono e) fun H2 e2 => k H2 (e.trans e2)
theorem bl_retE {w' : V} (h : Ev te s H v) (k : RetV w' H D.rt) (e : v = w') : Bl (tRet te) D s H := bl_ret h (by rw [e]; exact k)
def RetU (xs : List V) (H : Hp) (Q : VK) : Prop := ∀ p H2, H p = none → Ex H H2 → H2 p = some (.tup xs) → Q (.ref p) H2
theorem bl_retU {xs : List V} (h : EvU te s H xs) (k : RetU xs H D.rt) : Bl (tRet te) D s H :=
  fun H1 e => s_retU (fun H2 e2 => h H2 (e.trans e2)) fun p H2 hp e2 hx => k p H2 (fresh_back e hp) (e.trans e2) hx
theorem bl_retL {xs : List V} (h : EvL te s H xs) (k : RetL xs H D.rt) : Bl (tRet te) D s H :=
  fun H1 e => s_retL (fun H2 e2 => h H2 (e.trans e2)) fun p H2 hp e2 hx => k p H2 (fresh_back e hp) (e.trans e2) hx
theorem bl_next (k : ∀ H1, Ex H H1 → D.nx s H1) : Bl tNext D s H := k
theorem bl_raise {E : XK} {cls : Value} (k : ∀ H1, Ex H H1 → E cls none H1) : Bl (fun _ _ H => E cls none H) D s H := k

/-! ### expressions -/
theorem evt_mono {b : Bool} (e : Ex H H') (h : EvT t s H b) : EvT t s H' b := h.mono e
theorem ev_ifB {b : Bool} (h : EvT t s H b) (h1 : b = true → Ev ta s H x) (h2 : b = false → Ev tb s H y) : Ev (tIf t ta tb) s H (if b then x else y) := by
  cases b with
  | true => exact ev_if h (fun _ => h1 rfl) (fun z => by cases z)
  | false => exact ev_if h (fun z => by cases z) (fun _ => h2 rfl)
theorem et_test' {b : Bool} (h : Ev te s H (.bl b)) : EvT (tTest te) s H b := et_test h
/-- a op b op c, both of ints -/
theorem ev_chainI {p q : Int → Int → Bool} {i j k : Int} {tc : TE} (ha : Ev ta s H (.int i)) (hb : Ev tb s H (.int j)) (hc : Ev tc s H (.int k)) :
    Ev (tChain (rI0 fun i j => .bl (p i j)) (rI0 fun i j => .bl (q i j)) ta tb tc) s H (.bl (p i j && q j k)) := fun H1 e Q k1 =>
  ha H1 e _ fun H2 e2 => hb H2 (e.trans e2) _ fun H3 e3 => ⟨i, j, rfl, rfl, p i j, rfl, by
    cases hp : p i j with
    | true =>
      show tc s H3 _
      exact hc H3 ((e.trans e2).trans e3) _ fun H4 e4 => ⟨j, k, rfl, rfl, by
        have z := k1 H4 ((e2.trans e3).trans e4)
        rw [hp, Bool.true_and] at z
        exact z⟩
    | false =>
      show Q (.bl false) H3
      have z := k1 H3 (e2.trans e3)
      rw [hp, Bool.false_and] at z
      exact z⟩
theorem ev_cbR {r : List V → Hp → VK → Prop} {ta : TA} {vs : List V} (h : EvA ta s H vs) (hr : RC r vs H z) : Ev (tCB r ta) s H z := ev_cb h hr
theorem rc_abs {i : Int} : RC (fun xs H Q => ∃ i, xs = [.int i] ∧ Q (.int (if i < 0 then -i else i)) H) [.int i] H (.int (i.natAbs : Int)) := fun H1 _ Q q => ⟨i, rfl, by
  have e : (if i < 0 then -i else i) = (i.natAbs : Int) := by split <;> omega
  rw [e]; exact q H1 (Ex.refl H1)⟩
theorem rc_max2 {i j : Int} : RC (fun xs H Q => ∃ i j, xs = [.int i, .int j] ∧ Q (.int (if j > i then j else i)) H) [.int i, .int j] H (.int (if j > i then j else i)) := fun H1 _ Q q => ⟨i, j, rfl, q H1 (Ex.refl H1)⟩
theorem rc_min2 {i j : Int} : RC (fun xs H Q => ∃ i j, xs = [.int i, .int j] ∧ Q (.int (if j < i then j else i)) H) [.int i, .int j] H (.int (if j < i then j else i)) := fun H1 _ Q q => ⟨i, j, rfl, q H1 (Ex.refl H1)⟩
theorem rc_int {i : Int} : RC (fun xs H Q => (∃ i, xs = [.int i] ∧ Q (.int i) H) ∨ ∃ k, xs = [.bl k] ∧ Q (.int (if k then 1 else 0)) H) [.int i] H (.int i) := fun H1 _ Q q => .inl ⟨i, rfl, q H1 (Ex.refl H1)⟩
theorem rc_intB {k : Bool} : RC (fun xs H Q => (∃ i, xs = [.int i] ∧ Q (.int i) H) ∨ ∃ k, xs = [.bl k] ∧ Q (.int (if k then 1 else 0)) H) [.bl k] H (.int (if k then 1 else 0)) := fun H1 _ Q q => .inr ⟨k, rfl, q H1 (Ex.refl H1)⟩
theorem rc_isi {x c : V} {t u : Value} {b : Bool} (k : ClsV c u) (ty : ∀ H1, Ex H H1 → TyX K H1 x t) (e : PySem.W.kitOne K t u = some b) : RC (rIsi K) [x, c] H (.bl b) := fun H1 e1 Q q => ⟨x, c, t, u, b, rfl, k, ty H1 e1, e, q H1 (Ex.refl H1)⟩
/-- isinstance(x, (c1, c2)), the tuple made on the way -/
theorem ev_isiT {ta : TE} {tt : TA} {x : V} {cs : List V} {us : List Value} {tv : Value} {b : Bool} (ha : Ev ta s H x) (ht : EvA tt s H cs) (hl : cs.length ≤ 100000) (k : Paired ClsV cs us) (ty : ∀ H1, Ex H H1 → TyX K H1 x tv) (e : PySem.W.kitAny K tv us = some b) :
    Ev (tCB (rIsiT K) (tCons ta (tCons (tTup tt) tNil))) s H (.bl b) := fun H1 e1 Q q =>
  ha H1 e1 _ fun H2 e2 => ht H2 (e1.trans e2) _ fun H3 e3 => ⟨sz_of hl, fun p hp => ⟨x, p, cs, tv, us, b, rfl, upd_same, k, ty _ (((e1.trans e2).trans e3).trans (Ex.new hp)), e, q _ ((e2.trans e3).trans (Ex.new hp))⟩⟩

/-! ### a written dict asked at once -/
def EvP (tr : (TE × TE)) (s : L2.St) (H : Hp) (kv : Key × V) : Prop := Ev tr.1 s H (kV kv.1) ∧ Ev tr.2 s H kv.2
theorem pairs_ev {s : L2.St} {H : Hp} : ∀ {trs : List (TE × TE)} {kvs : List (Key × V)}, Paired (fun a b => EvP a s H b) trs kvs → ∀ H1, Ex H H1 → ∀ Q : List (V × V) → Hp → Prop, (∀ H2, Ex H1 H2 → Q (kvs.map fun kv => (kV kv.1, kv.2)) H2) → tPairs trs s H1 Q
  | _, _, .nil, H1, _, _, q => q H1 (Ex.refl H1)
  | _, _, .cons a r, H1, e, Q, q => a.1 H1 e _ fun H2 e2 => a.2 H2 (e.trans e2) _ fun H3 e3 => pairs_ev r H3 ((e.trans e2).trans e3) _ fun H4 e4 => q H4 ((e2.trans e3).trans e4)
theorem ev_dd {trs : List (TE × TE)} {ty : TE} {kvs : List (Key × V)} {k : Key} {v : V} (h : Paired (fun a b => EvP a s H b) trs kvs) (hl : kvs.length ≤ 15) (hk : Ev ty s H (kV k)) (hv : valV (mergeK [] kvs) k = some v) :
    Ev (tDGet (tDisp trs) ty) s H v := fun H1 e Q q p hp => by
  refine pairs_ev h (upd H1 p (.dK [])) (e.trans (Ex.new hp)) _ fun H2 e2 => ?_
  refine ⟨e2 p _ upd_same, kvs, rfl, hl, ?_⟩
  have e3 : Ex H1 (upd H2 p (.dK (mergeK [] kvs))) := fun a o ha => by
    rw [upd_ne (ne_of_none ha hp)]
    exact e2 a o (by rw [upd_ne (ne_of_none ha hp)]; exact ha)
  refine hk _ (e.trans e3) _ fun H3 e4 => ?_
  refine ⟨p, v, rfl, ?_, q H3 (e3.trans e4)⟩
  rw [← hv]
  exact DGet.k (e4 p _ upd_same)
/-! ### operators of any size -/
def CDivB (_ j : Int) : Prop := j ≠ 0 ∧ j.natAbs.log2 < 9000
theorem op_fdivB {X : Cx} : OpR X (binaryOp .FloorDiv) (rI CDivB fun i j => .int (i.fdiv j)) := opI fun _ _ _ _ _ _ _ hc q => PyProof.Rows.floordiv_int hc.1 q (.inl (PyProof.noPylong_of_log2 hc.2))
theorem log2_of {n b : Nat} (h : n < 2 ^ b) (h0 : 0 < b) : n.log2 < b := PySem.Flt.log2_lt_of h0 h
theorem divB_of {i j : Int} (h : j ≠ 0) (hb : j.natAbs < 2 ^ 200) : CDivB i j := ⟨h, Nat.lt_of_lt_of_le (log2_of hb (by decide)) (by decide)⟩
theorem mulW_of {i j : Int} (ha : i.natAbs < 2 ^ 255) (hb : j.natAbs < 2 ^ 255) : CMulW i j := wide_mul ha hb (by decide) (by decide) (by decide)

/-! ### calls of own defs -/
/-- the def x is called by its name and keeps the promise -/
def Cal (P : Program) (w : World) (K : PySem.W.Frag) (mg : Str → Option Value) (base : Heap) (CX : CXT) (k : Nat) (x : Str) (ps : List Str) (sp : Sp) : Prop :=
  ∃ (f : Addr) (fd : FuncData), FnOk P w K mg base CX k f fd ps sp ∧ mg x = some (.ref f) ∧ PySem.W.keepIn K (.ref f) = true ∧ Binds K fd ps []
/-- where the def of the statement st stands -/
structure DefAt (K : PySem.W.Frag) (mg : Str → Option Value) (x : Str) (st : Stmt) : Prop where
  ex : ∃ (f : Addr) (fd : FuncData), FunD K x x (defArgs st) (defBody st) (defScope st) [] [] f fd ∧ mg x = some (.ref f)
section
variable {P : Program} {w : World} {K : PySem.W.Frag} {mg : Str → Option Value} {base : Heap} {CX : CXT} {X : Cx} {k : Nat} {sp : Sp} {ps : List Str}
theorem pe_own {x : Str} {E : XK} {e : Expr} {es : List Expr} {t : TA} {p pos : Pos} (C : Cal X.prog X.w X.K X.mg X.base CX k x ps sp) (hr : Room k X.A) (hg : Gl X x) (hx : Passes CX X E)
    (ha : PA X (e :: es) t) (hdb : (x == ("__debug__" : Str)) = false := by decide) (he : starEach (e :: es) X.env = (false, eval e X.env) :: starEach es X.env := by rfl) (hpl : (backTo pos (starEach es X.env)).any (·.1) = false := by rfl) :
    PE X (.Call (.Name x p) (e :: es) [] pos) (tCall sp [] E t) := by
  obtain ⟨f, fd, F, hm, hk, hb⟩ := C
  exact pe_call F hr hg hm hk hb .nil hx ha hdb he hpl
theorem pe_own0 {x : Str} {E : XK} {p pos : Pos} (C : Cal X.prog X.w X.K X.mg X.base CX k x ps sp) (hr : Room k X.A) (hg : Gl X x) (hx : Passes CX X E)
    (hdb : (x == ("__debug__" : Str)) = false := by decide) :
    PE X (.Call (.Name x p) [] [] pos) (tCall sp [] E tNil) := by
  obtain ⟨f, fd, F, hm, hk, hb⟩ := C
  exact pe_call0 F hr hg hm hk hb .nil hx hdb
theorem Cal.mono {x : Str} {j : Nat} (C : Cal P w K mg base CX j x ps sp) (h : j ≤ k) : Cal P w K mg base CX k x ps sp := by
  obtain ⟨f, fd, F, r⟩ := C
  exact ⟨f, fd, F.mono h, r⟩
theorem DefAt.cal {x : Str} {st : Stmt} {N : List Str} (D : DefAt K mg x st) (S : FnScope N ps (defScope st)) (len : ∀ vs H Q E, sp vs H Q E → vs.length = ps.length)
    (hb : ∀ (kV doc pm : Value) (an : Option Addr) (cdv ct : Value) (us : List Value), us.length = ps.length → bindArgs (PySem.W.fnOf x x (defArgs st) (defBody st) (defScope st) .none kV doc pm an cdv ct) ⟨us, []⟩ = pure (ps.zip us))
    (hbody : ∀ (f : Addr) (cdv : Value) (A : Around) (outer : List Env) (s : Shared) (H : Hp) (vs : List V) (Q : VK) (E : XK), Room k (A.deeper (envOfC x (defScope st) s.heap.objs.size f cdv)) → sp vs H Q E →
      ∃ t, PSs (cxOf CX0 P w K mg base N x (defScope st) f cdv A outer s H E).nox (defBody st) t ∧ t { nx := fun _ H' => Q .non H', rt := Q } (start N vs) H) : Cal P w K mg base CX0 (k + 1) x ps sp := by
  obtain ⟨f, fd, F, hm⟩ := D.ex
  refine ⟨f, fd, F.ok S len fun cdv A outer s H vs Q E hr hs => ?_, hm, F.kp, F.bindsN hb⟩
  obtain ⟨t, ht, q⟩ := hbody f cdv A outer s H vs Q E hr hs
  exact ⟨t, ht.nox, q⟩
/-- the same for a def that may raise -/
theorem DefAt.calX {x : Str} {st : Stmt} {N : List Str} (D : DefAt K mg x st) (S : FnScope N ps (defScope st)) (len : ∀ vs H Q E, sp vs H Q E → vs.length = ps.length)
    (hb : ∀ (kV doc pm : Value) (an : Option Addr) (cdv ct : Value) (us : List Value), us.length = ps.length → bindArgs (PySem.W.fnOf x x (defArgs st) (defBody st) (defScope st) .none kV doc pm an cdv ct) ⟨us, []⟩ = pure (ps.zip us))
    (hbody : ∀ (f : Addr) (cdv : Value) (A : Around) (outer : List Env) (s : Shared) (H : Hp) (vs : List V) (Q : VK) (E : XK), Room k (A.deeper (envOfC x (defScope st) s.heap.objs.size f cdv)) → sp vs H Q E →
      ∃ t, PSs (cxOf (L2.CX P w) P w K mg base N x (defScope st) f cdv A outer s H E) (defBody st) t ∧ t { nx := fun _ H' => Q .non H', rt := Q } (start N vs) H) : Cal P w K mg base (L2.CX P w) (k + 1) x ps sp := by
  obtain ⟨f, fd, F, hm⟩ := D.ex
  exact ⟨f, fd, F.ok S len fun cdv A outer s H vs Q E hr hs => hbody f cdv A outer s H vs Q E hr hs, hm, F.kp, F.bindsN hb⟩
end
/-- a def that gives a value -/
def Pu (R : List V → Hp → V → Prop) : Sp := fun vs H Q _ => ∃ v, R vs H v ∧ RetV v H Q
/-- a def that gives a new tuple -/
def PuT (R : List V → Hp → List V → Prop) : Sp := fun vs H Q _ => ∃ xs, R vs H xs ∧ RetU xs H Q
/-- a new list -/
def PuL (R : List V → Hp → List V → Prop) : Sp := fun vs H Q _ => ∃ xs, R vs H xs ∧ RetL xs H Q
theorem sv_pu {R : List V → Hp → V → Prop} {vs : List V} (h : ∀ H1, Ex H H1 → R vs H1 v) : SpV (Pu R) vs H v := fun H1 e _ q _ => ⟨v, h H1 e, q⟩
theorem ev_own {R : List V → Hp → V → Prop} {E : XK} {ta : TA} {vs : List V} (ha : EvA ta s H vs) (h : ∀ H1, Ex H H1 → R vs H1 v) : Ev (tCall (Pu R) [] E ta) s H v :=
  ev_call ha (by rw [List.append_nil]; exact sv_pu h)
theorem eu_own {R : List V → Hp → List V → Prop} {E : XK} {ta : TA} {vs xs : List V} (ha : EvA ta s H vs) (h : ∀ H1, Ex H H1 → R vs H1 xs) : EvU (tCall (PuT R) [] E ta) s H xs := fun H1 e Q q =>
  ha H1 e _ fun H2 e2 => by
    rw [List.append_nil]
    exact ⟨xs, h H2 (e.trans e2), fun p H3 hp e3 h3 => q p H3 (fresh_back e2 hp) (e2.trans e3) h3⟩
theorem el_own {R : List V → Hp → List V → Prop} {E : XK} {ta : TA} {vs xs : List V} (ha : EvA ta s H vs) (h : ∀ H1, Ex H H1 → R vs H1 xs) : EvL (tCall (PuL R) [] E ta) s H xs := fun H1 e Q q =>
  ha H1 e _ fun H2 e2 => by
    rw [List.append_nil]
    exact ⟨xs, h H2 (e.trans e2), fun p H3 hp e3 h3 => q p H3 (fresh_back e2 hp) (e2.trans e3) h3⟩
end

/-! ### formats as values -/
def sgS : Sg → Str | .sym => "symmetric" | .twos => "twos" | .uns => "unsigned"
def ovS : Ov → Str | .sat => "saturate" | .trap => "trap" | .wrap => "wrap"
def dvS : Dv → Str | .ceil => "ceiling" | .euc => "euclid" | .even => "even" | .floor => "floor" | .zero => "zero"
def fV (f : Fmt) : List V := [.int f.w, .str (sgS f.sg), .str (ovS f.ov), .str (dvS f.dv)]
def FmtAt (K : PySem.W.Frag) (H : Hp) (v : V) (f : Fmt) : Prop := ∃ p, v = .ref p ∧ SqT K H p (fV f)
theorem FmtAt.ex {K : PySem.W.Frag} {H H' : Hp} {v : V} {f : Fmt} (h : FmtAt K H v f) (e : Ex H H') : FmtAt K H' v f := by
  obtain ⟨p, e1, h⟩ := h
  exact ⟨p, e1, ex_t e h⟩
def rv : Option Int → V | some i => .int i | none => .str "trap"
end WL
namespace WL
open PySem PySem.Spec PyProof.Rows L2 Evl WM
section
variable {X : Cx}
theorem pe_globI {x : Str} {i : Int} {pos : Pos} (hg : Gl X x) (hm : ∃ t, X.mg x = some (.int i t)) (hd : (x == ("__debug__" : Str)) = false := by decide) : PE X (.Name x pos) (tC (.int i)) := by
  obtain ⟨t, hm⟩ := hm
  exact pe_glob hg hm ⟨_, rfl⟩ hd
end
end WL
namespace WL
open PySem PySem.Spec PyProof.Rows L2 Evl WM
section
variable {K : PySem.W.Frag} {s : L2.St} {H H' : Hp} {ta tb te tx : TE} {t u : TT} {x y z v : V} {D : Ends} {tu tw tz : TS}
theorem tyx_T {p : Addr} {xs : List V} (h : SqT K H p xs) : TyX K H (.ref p) (.type "tuple") := by
  rcases h with (h | ⟨o, h⟩) | ⟨o, its, n, h1, h2, _⟩
  · exact .base (.tup h)
  · exact .fTuple h
  · exact .kTuple h1 h2
theorem tyx_L {p : Addr} {xs : List V} (h : SqL K H p xs) : TyX K H (.ref p) (.type "list") := by
  rcases h with (h | ⟨o, h⟩) | ⟨o, its, n, h1, h2, _⟩
  · exact .base (.lst h)
  · exact .base (.frz h)
  · exact .kList h1 h2
theorem rc_isi_int {i : Int} {n : String} {b : Bool} (h : kitB "int" n = some b) : RC (rIsi K) [.int i, .ty n] H (.bl b) := rc_isi (.ty n) (fun _ _ => .base (.int i)) (kit_ty h)
theorem rc_isi_bl {i : Bool} {n : String} {b : Bool} (h : kitB "bool" n = some b) : RC (rIsi K) [.bl i, .ty n] H (.bl b) := rc_isi (.ty n) (fun _ _ => .base (.bl i)) (kit_ty h)
theorem rc_isi_str {i : Str} {n : String} {b : Bool} (h : kitB "str" n = some b) : RC (rIsi K) [.str i, .ty n] H (.bl b) := rc_isi (.ty n) (fun _ _ => .base (.str i)) (kit_ty h)
theorem rc_isi_non {n : String} {b : Bool} (h : kitB "NoneType" n = some b) : RC (rIsi K) [.non, .ty n] H (.bl b) := rc_isi (.ty n) (fun _ _ => .base .non) (kit_ty h)
theorem rc_isi_T {p : Addr} {xs : List V} {n : String} {b : Bool} (hx : SqT K H p xs) (h : kitB "tuple" n = some b) : RC (rIsi K) [.ref p, .ty n] H (.bl b) := rc_isi (.ty n) (fun _ e => tyx_T (ex_t e hx)) (kit_ty h)
theorem rc_isi_L {p : Addr} {xs : List V} {n : String} {b : Bool} (hx : SqL K H p xs) (h : kitB "list" n = some b) : RC (rIsi K) [.ref p, .ty n] H (.bl b) := rc_isi (.ty n) (fun _ e => tyx_L (ex_l e hx)) (kit_ty h)
theorem rc_lenL {p : Addr} {xs : List V} (h : SqL K H p xs) : RC (fun xs H Q => ∃ p ys, xs = [.ref p] ∧ (SqL K H p ys ∨ SqT K H p ys) ∧ Q (.int ys.length) H) [.ref p] H (.int (xs.length : Int)) := fun H1 e _ q => ⟨p, xs, rfl, .inl (ex_l e h), q H1 (Ex.refl H1)⟩
theorem rc_lenT {p : Addr} {xs : List V} (h : SqT K H p xs) : RC (fun xs H Q => ∃ p ys, xs = [.ref p] ∧ (SqL K H p ys ∨ SqT K H p ys) ∧ Q (.int ys.length) H) [.ref p] H (.int (xs.length : Int)) := fun H1 e _ q => ⟨p, xs, rfl, .inr (ex_t e h), q H1 (Ex.refl H1)⟩
theorem bl_unp4 {n i j k l : Nat} {p : Addr} {a b c d : V} (h : Ev te s H (.ref p)) (hx : SqT K H p [a, b, c, d]) (hn : 4 = n) (kk : Bl tz D ((((s.set i (some a)).set j (some b)).set k (some c)).set l (some d)) H) :
    Bl (tSeq (tAsg te (gTup K n (gCons (gName i) (gCons (gName j) (gCons (gName k) (gCons (gName l) gNil)))))) tz) D s H := fun H1 e =>
  h H1 e _ fun H2 e2 => ⟨p, [a, b, c, d], rfl, ex_t (e.trans e2) hx, hn, _, _, rfl, _, _, rfl, _, _, rfl, _, _, rfl, rfl, kk H2 (e.trans e2)⟩
end
end WL
namespace WL
open PySem PySem.Spec PyProof.Rows L2 Evl WM
/-! ### small facts of values -/
theorem in_sg (sg : Sg) : inV (.str (sgS sg)) [.str "symmetric", .str "twos", .str "unsigned"] = true := by cases sg <;> decide +kernel
theorem in_ov (ov : Ov) : inV (.str (ovS ov)) [.str "saturate", .str "trap", .str "wrap"] = true := by cases ov <;> decide +kernel
theorem in_dv (dv : Dv) : inV (.str (dvS dv)) [.str "ceiling", .str "euclid", .str "even", .str "floor", .str "zero"] = true := by cases dv <;> decide +kernel
theorem shl_w {w : Nat} : (1 : Int) * 2 ^ ((w : Int)).toNat = p2 w := by
  rw [Int.one_mul, Int.toNat_natCast]; rfl
theorem shl_w1 {w : Nat} : (1 : Int) * 2 ^ ((w : Int) - 1).toNat = p2 (w - 1) := by
  rw [Int.one_mul, show ((w : Int) - 1).toNat = w - 1 by omega]; rfl
theorem shl_wi {w i : Nat} (h : i ≤ 1) : (1 : Int) * 2 ^ ((w : Int) - (i : Int)).toNat = p2 (w - i) := by
  rw [Int.one_mul, show ((w : Int) - (i : Int)).toNat = w - i by omega]; rfl
theorem fits_iff {f : Fmt} {e : Int} {b : Bool} (h : (decide (lo f ≤ e) && decide (e ≤ hi f)) = b) : fits f e ↔ b = true := by
  subst h
  rw [Bool.and_eq_true, decide_eq_true_eq, decide_eq_true_eq]
  exact Iff.rfl
theorem fit_yes {f : Fmt} {e : Int} (h : (decide (lo f ≤ e) && decide (e ≤ hi f)) = true) : V.int e = rv (fitR f e) := by
  rw [fitR_in ((fits_iff h).mpr rfl)]; rfl
theorem not_fits {f : Fmt} {e : Int} (h : (decide (lo f ≤ e) && decide (e ≤ hi f)) = false) : ¬ fits f e := fun z => by
  have := (fits_iff h).mp z
  cases this
theorem fit_wrap {f : Fmt} {e : Int} (h : ¬ fits f e) (ho : f.ov = .wrap) : V.int (lo f + (e - lo f).fmod (many f)) = rv (fitR f e) := by
  unfold fitR
  rw [if_neg h, ho]; rfl
theorem fit_sat {f : Fmt} {e : Int} (h : ¬ fits f e) (ho : f.ov = .sat) : (if decide (e < lo f) = true then V.int (lo f) else V.int (hi f)) = rv (fitR f e) := by
  unfold fitR
  rw [if_neg h, ho]
  simp only [decide_eq_true_eq]
  split <;> rfl
theorem fit_trap {f : Fmt} {e : Int} (h : ¬ fits f e) (ho : f.ov = .trap) : V.str "trap" = rv (fitR f e) := by
  unfold fitR
  rw [if_neg h, ho]; rfl
theorem fit_minmax {f : Fmt} {e : Int} (h : ¬ fits f e) (ho : f.ov = .sat) : V.int (if hi f < (if e > lo f then e else lo f) then hi f else (if e > lo f then e else lo f)) = rv (fitR f e) := by
  rw [← fit_sat h ho]
  have F := facts f
  unfold fits at h
  simp only [decide_eq_true_eq]
  by_cases h1 : e < lo f
  · rw [if_pos h1, if_neg (show ¬ e > lo f by omega), if_neg (by omega)]
  · rw [if_neg h1]
    by_cases h2 : e > lo f
    · rw [if_pos h2, if_pos (by omega)]
    · exfalso; omega
theorem fit_found {f : Fmt} {e x k : Int} (h : ¬ fits f e) (ho : f.ov = .wrap) (hx : x = e + many f * k) (h1 : lo f ≤ x) (h2 : x ≤ hi f) : V.int x = rv (fitR f e) := by
  rw [← fit_wrap h ho]
  have F := facts f
  have e1 : e - lo f = (x - lo f) + many f * (-k) := by rw [hx, Int.mul_neg]; omega
  rw [e1, Int.add_mul_fmod_self_left, Int.fmod_eq_of_lt (by omega) (by omega)]
  congr 1; omega
/-- how many steps are left -/
def dist (f : Fmt) (x : Int) : Nat := if x < lo f then ((lo f - x) / many f).toNat + 1 else if x > hi f then ((x - hi f) / many f).toNat + 1 else 0
theorem div_sub_one {a m : Int} (hm : 0 < m) (ha : m ≤ a) : (a - m) / m = a / m - 1 := by
  have := Int.sub_ediv_of_dvd a (c := m) ⟨1, by omega⟩ (b := m)
  rw [this, Int.ediv_self (by omega)]
theorem dist_up {f : Fmt} {x : Int} (h : x < lo f) : dist f (x + many f) < dist f x := by
  have F := facts f
  unfold dist
  rw [if_pos h]
  by_cases h1 : x + many f < lo f
  · rw [if_pos h1]
    have e := div_sub_one (a := lo f - x) (m := many f) (by omega) (by omega)
    have e2 : lo f - (x + many f) = lo f - x - many f := by omega
    rw [e2, e]
    have h3 : 1 ≤ (lo f - x) / many f := by
      have := Int.ediv_le_ediv (c := many f) (by omega) (show many f ≤ lo f - x by omega)
      rw [Int.ediv_self (by omega)] at this
      exact this
    omega
  · rw [if_neg h1, if_neg (by omega)]
    omega
theorem dist_down {f : Fmt} {x : Int} (h0 : ¬ x < lo f) (h : x > hi f) : dist f (x - many f) < dist f x := by
  have F := facts f
  unfold dist
  rw [if_neg h0, if_pos h]
  rw [if_neg (show ¬ x - many f < lo f by omega)]
  by_cases h1 : x - many f > hi f
  · rw [if_pos h1]
    have e := div_sub_one (a := x - hi f) (m := many f) (by omega) (by omega)
    have e2 : x - many f - hi f = x - hi f - many f := by omega
    rw [e2, e]
    have h3 : 1 ≤ (x - hi f) / many f := by
      have := Int.ediv_le_ediv (c := many f) (by omega) (show many f ≤ x - hi f by omega)
      rw [Int.ediv_self (by omega)] at this
      exact this
    omega
  · rw [if_neg h1]
    omega
/-! ### sizes -/
theorem nat64 {f : Fmt} {a : Int} (h : fits f a) : a.natAbs < 2 ^ 66 := by
  have F := facts f
  unfold fits at h
  omega
theorem natM {f : Fmt} : (many f).natAbs < 2 ^ 66 := by
  have F := facts f
  omega
theorem manyNe {f : Fmt} : many f ≠ 0 := by
  have F := facts f
  omega
theorem natAbs_fdiv (a b : Int) : (a.fdiv b).natAbs ≤ a.natAbs := Int.natAbs_fdiv_le_natAbs a b
theorem quo_abs (d : Dv) (a b : Int) : (quo d a b).natAbs ≤ a.natAbs + 1 := by
  have h1 := natAbs_fdiv a b
  have h2 := natAbs_fdiv (-a) b
  have h3 := natAbs_fdiv (a.natAbs : Int) (b.natAbs : Int)
  have h4 := natAbs_fdiv a (-b)
  cases d <;> simp only [quo] <;> (repeat' split) <;> omega
theorem nat_mul {a b : Int} {m n : Nat} (ha : a.natAbs < 2 ^ m) (hb : b.natAbs < 2 ^ n) : (a * b).natAbs < 2 ^ (m + n) := wide_lt ha hb
theorem nat_mono {a : Nat} {m n : Nat} (h : a < 2 ^ m) (hmn : m ≤ n) : a < 2 ^ n := Nat.lt_of_lt_of_le h (Nat.pow_le_pow_right (by decide) hmn)
end WL
namespace WL
open PySem PySem.Spec PyProof.Rows L2 Evl WM
def Sm (a : Int) : Prop := a.natAbs < 2 ^ 70
def Bg (a : Int) : Prop := a.natAbs < 2 ^ 250
theorem Sm.bg {a : Int} (h : Sm a) : Bg a := nat_mono h (by decide)
theorem sm_fits {f : Fmt} {a : Int} (h : fits f a) : Sm a := nat_mono (nat64 h) (by decide)
theorem sm_many {f : Fmt} : Sm (many f) := nat_mono natM (by decide)
theorem bg_mul {a b : Int} (ha : Bg a) (hb : Bg b) : CMulW a b := mulW_of (nat_mono ha (by decide)) (nat_mono hb (by decide))
theorem sm_mul {a b : Int} (ha : Sm a) (hb : Sm b) : CMulW a b := bg_mul ha.bg hb.bg
theorem sm_div {a b : Int} (hb : Sm b) (h0 : b ≠ 0) : CDivB a b := divB_of h0 (nat_mono hb (by decide))
theorem sm_abs {a : Int} (h : Sm a) : Sm (a.natAbs : Int) := by unfold Sm; rw [Int.natAbs_natCast]; exact h
theorem bg_abs {a : Int} (h : Bg a) : Bg (a.natAbs : Int) := by unfold Bg; rw [Int.natAbs_natCast]; exact h
theorem sm_neg {a : Int} (h : Sm a) : Sm (-a) := by unfold Sm; rw [Int.natAbs_neg]; exact h
theorem bg_neg {a : Int} (h : Bg a) : Bg (-a) := by unfold Bg; rw [Int.natAbs_neg]; exact h
theorem bg_of {a b : Int} {c : Nat} (ha : Bg a) (h : b.natAbs ≤ a.natAbs + c) (hc : c ≤ 2 ^ 100) (hs : Sm a) : Bg b := by
  unfold Bg Sm at *
  have h1 : 2 ^ 70 + 2 ^ 100 < 2 ^ 250 := by decide
  exact Nat.lt_of_le_of_lt h (by omega)
theorem bg_fdiv {a b : Int} (h : Bg a) : Bg (a.fdiv b) := Nat.lt_of_le_of_lt (natAbs_fdiv a b) h
theorem sm_fdiv {a b : Int} (h : Sm a) : Sm (a.fdiv b) := Nat.lt_of_le_of_lt (natAbs_fdiv a b) h
theorem bg_quo {d : Dv} {a b : Int} (h : Sm a) : Bg (quo d a b) := by
  have h1 := quo_abs d a b
  unfold Sm at h
  unfold Bg
  have h2 : 2 ^ 70 + 1 < 2 ^ 250 := by decide
  omega
theorem nat_small {n : Nat} (h : n < 2 ^ 200) : n < 2 ^ 250 := nat_mono h (by decide)
/-- sums and products of small ones -/
theorem bg_add {a b : Int} (ha : Sm a) (hb : Sm b) : Bg (a + b) := by
  unfold Sm at *; unfold Bg
  have h2 : 2 ^ 70 + 2 ^ 70 < 2 ^ 250 := by decide
  omega
theorem bg_sub {a b : Int} (ha : Sm a) (hb : Sm b) : Bg (a - b) := by
  unfold Sm at *; unfold Bg
  have h2 : 2 ^ 70 + 2 ^ 70 < 2 ^ 250 := by decide
  omega
theorem bg_prod {a b : Int} (ha : Sm a) (hb : Sm b) : Bg (a * b) := nat_mono (nat_mul ha hb) (by decide)
theorem bg_left {a b q : Int} (ha : Sm a) (hb : Sm b) (hq : q.natAbs < 2 ^ 72) : Bg (a - b * q) := by
  have h1 := nat_mul hb hq
  unfold Sm at ha; unfold Bg
  have h2 : 2 ^ 70 + 2 ^ (70 + 72) < 2 ^ 250 := by decide
  omega
theorem quo72 {d : Dv} {a b : Int} (h : Sm a) : (quo d a b).natAbs < 2 ^ 72 := by
  have h1 := quo_abs d a b
  unfold Sm at h
  have h2 : 2 ^ 70 + 1 < 2 ^ 72 := by decide
  omega
theorem v_zero {a b : Int} : (if decide (V.bl (decide (a < 0)) = V.bl (decide (b < 0))) = true then V.int ((a.natAbs : Int).fdiv b.natAbs) else V.int (-(a.natAbs : Int).fdiv b.natAbs)) = V.int (quo .zero a b) := by
  rw [dec_bl]
  simp only [quo]
  by_cases h : decide (a < 0) = decide (b < 0)
  · rw [h, if_pos (beq_self_eq_true _), if_pos rfl]
  · rw [if_neg h, if_neg (by simpa using h)]
theorem v_even {a b : Int} {c : Bool} (h : (decide (V.int (b.natAbs : Int) = V.int (b.natAbs : Int)) && c) = c) : True := trivial
theorem even_up {a b : Int} (h : (decide ((b.natAbs : Int) < 2 * ((a - b * a.fdiv b).natAbs : Int)) || (decide (V.int (2 * ((a - b * a.fdiv b).natAbs : Int)) = V.int (b.natAbs : Int)) && decide (V.int ((a.fdiv b).fmod 2) = V.int 1))) = true) : V.int (a.fdiv b + 1) = V.int (quo .even a b) := by
  rw [dec_int, dec_int] at h
  simp only [Bool.or_eq_true, Bool.and_eq_true, decide_eq_true_eq, beq_iff_eq] at h
  simp only [quo]
  rw [if_pos h]
theorem even_no {a b : Int} (h : (decide ((b.natAbs : Int) < 2 * ((a - b * a.fdiv b).natAbs : Int)) || (decide (V.int (2 * ((a - b * a.fdiv b).natAbs : Int)) = V.int (b.natAbs : Int)) && decide (V.int ((a.fdiv b).fmod 2) = V.int 1))) = false) : V.int (a.fdiv b) = V.int (quo .even a b) := by
  rw [dec_int, dec_int] at h
  have h' : ¬ (2 * ((a - b * a.fdiv b).natAbs : Int) > b.natAbs ∨ (2 * ((a - b * a.fdiv b).natAbs : Int) = b.natAbs ∧ (a.fdiv b).fmod 2 = 1)) := fun z => by
    have : (decide ((b.natAbs : Int) < 2 * ((a - b * a.fdiv b).natAbs : Int)) || ((2 * ((a - b * a.fdiv b).natAbs : Int)) == (b.natAbs : Int) && ((a.fdiv b).fmod 2) == 1)) = true := by
      simp only [Bool.or_eq_true, Bool.and_eq_true, decide_eq_true_eq, beq_iff_eq]
      exact z
    rw [h] at this
    cases this
  simp only [quo]
  rw [if_neg h']
theorem v_euc {a b : Int} : (if decide (0 < b) = true then V.int (a.fdiv b) else V.int (-a.fdiv (-b))) = V.int (quo .euc a b) := by
  simp only [quo, decide_eq_true_eq]
  split <;> rfl
/-! ### the law's own operations -/
inductive De where | add | sub | mul
def deS : De → Str | .add => "add" | .sub => "subtract" | .mul => "multiply"
def deI : De → Int → Int → Int | .add, a, b => a + b | .sub, a, b => a - b | .mul, a, b => a * b
def doR (f : Fmt) (d : De) : Option Int → Option Int → Option Int
  | some a, some b => fitR f (deI d a b)
  | _, _ => none
def divR (f : Fmt) : Option Int → Option Int → Option Int
  | some a, some b => fitR f (quo f.dv a b)
  | _, _ => none
def OSm (x : Option Int) : Prop := ∀ i, x = some i → Sm i
def NZ (x : Option Int) : Prop := x ≠ some 0
theorem osm {a : Int} (h : Sm a) : OSm (some a) := fun i e => by cases e; exact h
theorem osm_fit {f : Fmt} {e : Int} : OSm (fitR f e) := fun i h => sm_fits (fitR_fits h)
end WL
namespace WL
open PySem PySem.Spec PyProof.Rows L2 Evl WM
section
variable {s : L2.St} {H : Hp} {t1 t2 ty : TE} {v : V}
theorem dp_cons {z : Str} {trs : List (TE × TE)} {kvs : List (Key × V)} (h1 : Ev t1 s H (.str z)) (h2 : Ev t2 s H v) (r : Paired (fun a b => EvP a s H b) trs kvs) : Paired (fun a b => EvP a s H b) ((t1, t2) :: trs) ((Sum.inr z, v) :: kvs) := .cons ⟨h1, h2⟩ r
theorem ev_ddS {trs : List (TE × TE)} {kvs : List (Key × V)} {z : Str} (h : Paired (fun a b => EvP a s H b) trs kvs) (hl : kvs.length ≤ 15) (hk : Ev ty s H (.str z)) (hv : valV (mergeK [] kvs) (Sum.inr z) = some v) :
    Ev (tDGet (tDisp trs) ty) s H v := ev_dd (k := Sum.inr z) h hl hk hv
end
end WL
namespace WL
open PySem PySem.Spec PyProof.Rows L2 Evl WM
theorem ite_int {c : Bool} {x y : Int} : (if c = true then V.int x else V.int y) = V.int (if c = true then x else y) := by
  cases c <;> rfl
theorem v_quo0 {d : Dv} {a b : Int} (hb : b ≠ 0) (h : decide (V.int ((a.natAbs : Int) - (a.natAbs : Int).fdiv b.natAbs * b.natAbs) = V.int 0) = true) :
    (if (!decide (V.bl (decide (a < 0)) = V.bl (decide (b < 0)))) = true then V.int (0 - (a.natAbs : Int).fdiv b.natAbs) else V.int ((a.natAbs : Int).fdiv b.natAbs)) = V.int (quo d a b) := by
  rw [dec_int, beq_iff_eq] at h
  rw [dec_bl, ite_int, ← quoS_eq d a b hb]
  unfold quoS
  rw [if_pos h]
  rfl
theorem v_quo1 {d : Dv} {a b : Int} {up : Bool} (hb : b ≠ 0) (h : decide (V.int ((a.natAbs : Int) - (a.natAbs : Int).fdiv b.natAbs * b.natAbs) = V.int 0) = false) (hu : up = qup d a b ((a.natAbs : Int) - (a.natAbs : Int).fdiv b.natAbs * b.natAbs) ((a.natAbs : Int).fdiv b.natAbs)) :
    (if (!decide (V.bl (decide (a < 0)) = V.bl (decide (b < 0)))) = true then V.int (0 - (if up = true then (a.natAbs : Int).fdiv b.natAbs + 1 else (a.natAbs : Int).fdiv b.natAbs)) else V.int (if up = true then (a.natAbs : Int).fdiv b.natAbs + 1 else (a.natAbs : Int).fdiv b.natAbs)) = V.int (quo d a b) := by
  rw [dec_int, beq_eq_false_iff_ne] at h
  rw [dec_bl, ite_int, ← quoS_eq d a b hb]
  unfold quoS
  rw [if_neg h, hu]
  rfl
theorem qup_even {a b l z : Int} : (decide (l * 2 > (b.natAbs : Int)) || false) = (decide (l * 2 > (b.natAbs : Int)) || false) := rfl
end WL
namespace WL
open PySem PySem.Spec PyProof.Rows L2 Evl WM
section
variable {s : L2.St} {H : Hp} {ta tb : TE} {t : TT} {v : V}
theorem ev_ifT {b : Bool} (h : EvT t s H b) (hb : b = true) (h1 : Ev ta s H v) : Ev (tIf t ta tb) s H v := ev_if h (fun _ => h1) (fun z => by rw [hb] at z; cases z)
theorem ev_ifF {b : Bool} (h : EvT t s H b) (hb : b = false) (h1 : Ev tb s H v) : Ev (tIf t ta tb) s H v := ev_if h (fun z => by rw [hb] at z; cases z) (fun _ => h1)
end
end WL
namespace WL
open PySem PySem.Spec PyProof.Rows L2 Evl WM
/-! ### the row of draws: all but it stays -/
def ExB (r : Addr) (H H' : Hp) : Prop := ∀ b o, b ≠ r → H b = some o → H' b = some o
theorem ExB.refl {r : Addr} {H : Hp} : ExB r H H := fun _ _ _ h => h
theorem ExB.trans {r : Addr} {H H1 H2 : Hp} (a : ExB r H H1) (b : ExB r H1 H2) : ExB r H H2 := fun x o n h => b x o n (a x o n h)
theorem ExB.of {r : Addr} {H H1 : Hp} (e : Ex H H1) : ExB r H H1 := fun x o _ h => e x o h
theorem ExB.upd {r : Addr} {H H1 : Hp} {o : HO} (e : Ex H H1) : ExB r H (upd H1 r o) := fun x o n h => by
  rw [upd_ne n]; exact e x o h
theorem ExB.back {r b : Addr} {H H1 : Hp} (e : ExB r H H1) (n : b ≠ r) (h : H1 b = none) : H b = none := by
  cases q : H b with
  | none => rfl
  | some o => rw [e b o n q] at h; cases h
structure RowOK (K : PySem.W.Frag) (H : Hp) (r a : Addr) (ns : List Int) : Prop where
  row : ∃ p s t : Int, 0 ≤ p ∧ 0 ≤ s ∧ s < 2147483647 ∧ H r = some (.lst [.ref a, .int p, .int s, .int t])
  scr : SqL K H a (ns.map V.int)
  len : ns.length ≤ 63
theorem exb_l {K : PySem.W.Frag} {r a : Addr} {H H' : Hp} {xs : List V} (e : ExB r H H') (n : a ≠ r) (h : SqL K H a xs) : SqL K H' a xs := by
  rcases h with (h | ⟨o, h⟩) | h
  · exact .inl (.inl (e a _ n h))
  · exact .inl (.inr ⟨o, e a _ n h⟩)
  · exact .inr h
theorem RowOK.is {K : PySem.W.Frag} {H : Hp} {r a : Addr} {ns : List Int} (R : RowOK K H r a ns) : ∃ xs, H r = some (.lst xs) := by
  obtain ⟨p, s, t, _, _, _, h⟩ := R.row
  exact ⟨_, h⟩
theorem exb_t {K : PySem.W.Frag} {r a : Addr} {ns : List Int} {H H' : Hp} {p : Addr} {xs : List V} (R : RowOK K H r a ns) (e : ExB r H H') (h : SqT K H p xs) : SqT K H' p xs := by
  obtain ⟨ys, hr⟩ := R.is
  rcases h with (h | ⟨o, h⟩) | h
  · exact .inl (.inl (e p _ (ne_of h hr (by intro z; cases z)) h))
  · exact .inl (.inr ⟨o, e p _ (ne_of h hr (by intro z; cases z)) h⟩)
  · exact .inr h
theorem RowOK.scrB {K : PySem.W.Frag} {H H' : Hp} {r a : Addr} {ns : List Int} (R : RowOK K H r a ns) (e : ExB r H H') : SqL K H' a (ns.map V.int) := by
  obtain ⟨p, s, t, _, _, _, hr⟩ := R.row
  rcases R.scr with (h | ⟨o, h⟩) | h
  · refine .inl (.inl (e a _ (ne_of h hr fun z => ?_) h))
    injection z with z
    cases ns with
    | nil => cases z
    | cons i is => cases z
  · exact .inl (.inr ⟨o, e a _ (ne_of h hr fun z => by cases z) h⟩)
  · exact .inr h
theorem RowOK.ex {K : PySem.W.Frag} {H H' : Hp} {r a : Addr} {ns : List Int} (R : RowOK K H r a ns) (e : Ex H H') : RowOK K H' r a ns := by
  obtain ⟨p, s, t, h1, h2, h3, h⟩ := R.row
  exact ⟨⟨p, s, t, h1, h2, h3, e _ _ h⟩, ex_l e R.scr, R.len⟩
theorem RowOK.upd {K : PySem.W.Frag} {H H1 : Hp} {r a : Addr} {ns : List Int} (R : RowOK K H r a ns) (e : Ex H H1) {p s t : Int} (h1 : 0 ≤ p) (h2 : 0 ≤ s) (h3 : s < 2147483647) : RowOK K (upd H1 r (.lst [.ref a, .int p, .int s, .int t])) r a ns :=
  ⟨⟨p, s, t, h1, h2, h3, upd_same⟩, R.scrB (ExB.upd e), R.len⟩
/-- a new object is not the row -/
theorem RowOK.fresh {K : PySem.W.Frag} {H : Hp} {r a : Addr} {ns : List Int} (R : RowOK K H r a ns) {p : Addr} (h : H p = none) : p ≠ r := by
  obtain ⟨xs, hr⟩ := R.is
  exact (ne_of_none hr h).symm
theorem fmod_in (x : Int) {m : Int} (h : 0 < m) : 0 ≤ x.fmod m ∧ x.fmod m < m := ⟨Int.fmod_nonneg_of_pos x h, Int.fmod_lt_of_pos x h⟩
section
variable {K : PySem.W.Frag} {s : L2.St} {H : Hp} {ta tb te : TE} {v : V} {D : Ends} {tz : TS}
/-- xs[i] = e, and on from the new heap -/
theorem bl_setL' {l : Addr} {xs : List V} {j : Nat} (hl : H l = some (.lst xs)) (h : Ev te s H v) (ho : Ev ta s H (.ref l)) (hi : Ev tb s H (.int (j : Int))) (hj : j < xs.length) (k : ∀ H1, Ex H H1 → tz D s (upd H1 l (.lst (xs.set j v)))) :
    tSeq (tAsg te (gSub ta tb rSetL)) tz D s H := q_setL hl h ho hi hj k
end
end WL
namespace WL
open PySem PySem.Spec PyProof.Rows L2 Evl WM
/-! ### promises of the draws -/
def SpTaken (K : PySem.W.Frag) : Sp := fun vs H Q _ => ∃ (r a : Addr) (ns : List Int) (m : Int), vs = [.ref r, .int m] ∧ RowOK K H r a ns ∧ 0 < m ∧ Sm m ∧
  ∀ (v : Int) (H' : Hp), 0 ≤ v → v < m → RowOK K H' r a ns → ExB r H H' → Q (.int v) H'
def SpPick (K : PySem.W.Frag) : Sp := fun vs H Q _ => ∃ (r a : Addr) (ns : List Int) (l : Addr) (xs : List V), vs = [.ref r, .ref l] ∧ RowOK K H r a ns ∧ SqL K H l xs ∧ l ≠ r ∧ xs ≠ [] ∧ xs.length ≤ 1000 ∧
  ∀ (v : V) (H' : Hp), v ∈ xs → RowOK K H' r a ns → ExB r H H' → Q v H'
def SpFormat (K : PySem.W.Frag) : Sp := fun vs H Q _ => ∃ (r a : Addr) (ns : List Int) (m : Int), vs = [.ref r, .int m] ∧ RowOK K H r a ns ∧ 4 ≤ m ∧
  ∀ (f : Fmt) (p : Addr) (H' : Hp), (f.w : Int) ≤ m → H p = none → H' p = some (.tup (fV f)) → RowOK K H' r a ns → ExB r H H' → Q (.ref p) H'
def SpNumber (K : PySem.W.Frag) : Sp := fun vs H Q _ => ∃ (r a : Addr) (ns : List Int) (p : Addr) (f : Fmt), vs = [.ref r, .ref p] ∧ RowOK K H r a ns ∧ SqT K H p (fV f) ∧
  ∀ (v : Int) (H' : Hp), fits f v → RowOK K H' r a ns → ExB r H H' → Q (.int v) H'
theorem at_mem {xs : List V} {v : Int} (h0 : 0 ≤ v) (h1 : v < xs.length) : ∃ w, atI xs v = some w ∧ w ∈ xs := by
  obtain ⟨j, rfl⟩ : ∃ j : Nat, v = j := ⟨v.toNat, by omega⟩
  have hj : j < xs.length := by omega
  exact ⟨xs[j], atI_nat (List.getElem?_eq_getElem hj), List.getElem_mem hj⟩
theorem sm_nat {n : Nat} (h : n ≤ 1000) : Sm (n : Int) := by
  unfold Sm
  have : 1000 < 2 ^ 70 := by decide
  omega
end WL
namespace WL
open PySem PySem.Spec PyProof.Rows L2 Evl WM
section
variable {K : PySem.W.Frag} {s : L2.St} {H : Hp} {ta tb te : TE} {v : V} {D : Ends} {tz : TS}
theorem bl_row {r : Addr} {xs : List V} {j : Nat} (hl : H r = some (.lst xs)) (h : Ev te s H v) (ho : Ev ta s H (.ref r)) (hi : Ev tb s H (.int (j : Int))) (hj : j < xs.length) (k : ∀ H1, Ex H H1 → tz D s (upd H1 r (.lst (xs.set j v)))) :
    Bl (tSeq (tAsg te (gSub ta tb rSetL)) tz) D s H := fun H1 e => q_setL (e _ _ hl) (h.mono e) (ho.mono e) (hi.mono e) hj fun H2 e2 => k H2 (e.trans e2)
theorem bl_rowE {r : Addr} {xs : List V} {j : Nat} (hl : H r = some (.lst xs)) (h : Ev te s H v) (ho : Ev ta s H (.ref r)) (hi : Ev tb s H (.int (j : Int))) (hj : j < xs.length) (k : ∀ H1, Ex H H1 → D.nx s (upd H1 r (.lst (xs.set j v)))) :
    Bl (tAsg te (gSub ta tb rSetL)) D s H := fun H1 e => s_setL (e _ _ hl) (h.mono e) (ho.mono e) (hi.mono e) hj fun H2 e2 => k H2 (e.trans e2)
theorem at_int {ns : List Int} {i : Int} (h0 : 0 ≤ i) (h1 : i < ns.length) : ∃ c : Int, atI (ns.map V.int) i = some (.int c) := by
  obtain ⟨w, h, hm⟩ := at_mem (xs := ns.map V.int) h0 (by rw [List.length_map]; exact h1)
  obtain ⟨c, _, rfl⟩ := List.mem_map.mp hm
  exact ⟨c, h⟩
end
end WL
namespace WL
open PySem PySem.Spec PyProof.Rows L2 Evl WM
theorem mul48271 {x : Int} (h1 : 0 ≤ x) (h2 : x < 2147483647) : CMulW x 48271 := by
  refine bg_mul ?_ (show (48271 : Int).natAbs < 2 ^ 250 by decide)
  unfold Bg
  have : 2147483647 < 2 ^ 250 := by decide
  omega
end WL
namespace WL
open PySem PySem.Spec PyProof.Rows L2 Evl WM
theorem mem_sg {v : V} (h : v ∈ [V.str "symmetric", V.str "twos", V.str "unsigned"]) : ∃ sg, v = .str (sgS sg) := by
  rcases List.mem_cons.mp h with h | h
  · exact ⟨.sym, h⟩
  rcases List.mem_cons.mp h with h | h
  · exact ⟨.twos, h⟩
  rcases List.mem_cons.mp h with h | h
  · exact ⟨.uns, h⟩
  · cases h
theorem mem_ov {v : V} (h : v ∈ [V.str "saturate", V.str "trap", V.str "wrap"]) : ∃ ov, v = .str (ovS ov) := by
  rcases List.mem_cons.mp h with h | h
  · exact ⟨.sat, h⟩
  rcases List.mem_cons.mp h with h | h
  · exact ⟨.trap, h⟩
  rcases List.mem_cons.mp h with h | h
  · exact ⟨.wrap, h⟩
  · cases h
theorem mem_dv {v : V} (h : v ∈ [V.str "ceiling", V.str "euclid", V.str "even", V.str "floor", V.str "zero"]) : ∃ dv, v = .str (dvS dv) := by
  rcases List.mem_cons.mp h with h | h
  · exact ⟨.ceil, h⟩
  rcases List.mem_cons.mp h with h | h
  · exact ⟨.euc, h⟩
  rcases List.mem_cons.mp h with h | h
  · exact ⟨.even, h⟩
  rcases List.mem_cons.mp h with h | h
  · exact ⟨.floor, h⟩
  rcases List.mem_cons.mp h with h | h
  · exact ⟨.zero, h⟩
  · cases h
theorem mem_ints {v : V} {is : List Int} (h : v ∈ is.map V.int) : ∃ i, v = .int i ∧ i ∈ is := by
  obtain ⟨i, h1, h2⟩ := List.mem_map.mp h
  exact ⟨i, h2.symm, h1⟩
/-- a list made on the way: the row stays, the list is apart -/
theorem RowOK.new {K : PySem.W.Frag} {H : Hp} {r a : Addr} {ns : List Int} (R : RowOK K H r a ns) {l : Addr} {o : HO} (h : H l = none) : RowOK K (L2.upd H l o) r a ns := R.ex (Ex.new h)
/-- draws out of a list that is written there: the term's reading -/
theorem pick_new {K : PySem.W.Frag} {H : Hp} {r a : Addr} {ns : List Int} {xs : List V} {Q : VK} {E : XK} {l : Addr} (R : RowOK K H r a ns) (hl : H l = none) (hx : xs ≠ []) (hn : xs.length ≤ 1000)
    (k : ∀ (v : V) (H' : Hp), v ∈ xs → RowOK K H' r a ns → ExB r H H' → Q v H') : SpPick K [.ref r, .ref l] (upd H l (.lst xs)) Q E :=
  ⟨r, a, ns, l, xs, rfl, R.new hl, sq_of upd_same, R.fresh hl, hx, hn, fun v H' hm R' e => k v H' hm R' ((ExB.of (Ex.new hl)).trans e)⟩
end WL
namespace WL
open PySem PySem.Spec PyProof.Rows L2 Evl WM
section
variable {K : PySem.W.Frag} {s : L2.St} {H : Hp} {ta : TA} {r a : Addr} {ns : List Int} {Q : VK} {E : XK}
theorem taken_call {m : Int} (ha : EvA ta s H [.ref r, .int m]) (R : RowOK K H r a ns) (hm0 : 0 < m) (hm : Sm m)
    (k : ∀ (v : Int) (H' : Hp), 0 ≤ v → v < m → RowOK K H' r a ns → ExB r H H' → Q (.int v) H') : tCall (SpTaken K) [] E ta s H Q :=
  ha H (Ex.refl H) _ fun H2 e2 => ⟨r, a, ns, m, rfl, R.ex e2, hm0, hm, fun v H' h0 h1 R' e => k v H' h0 h1 R' ((ExB.of e2).trans e)⟩
theorem pick_call {l : Addr} {xs : List V} (ha : EvA ta s H [.ref r, .ref l]) (R : RowOK K H r a ns) (hl : SqL K H l xs) (hlr : l ≠ r) (hx : xs ≠ []) (hn : xs.length ≤ 1000)
    (k : ∀ (v : V) (H' : Hp), v ∈ xs → RowOK K H' r a ns → ExB r H H' → Q v H') : tCall (SpPick K) [] E ta s H Q :=
  ha H (Ex.refl H) _ fun H2 e2 => ⟨r, a, ns, l, xs, rfl, R.ex e2, ex_l e2 hl, hlr, hx, hn, fun v H' hm R' e => k v H' hm R' ((ExB.of e2).trans e)⟩
end
theorem all_ints {P : Int → Prop} {is : List Int} (h : ∀ i ∈ is, P i) {v : V} (hv : v ∈ is.map V.int) : ∃ i, v = .int i ∧ P i := by
  obtain ⟨i, e, hi⟩ := mem_ints hv
  exact ⟨i, e, h i hi⟩
theorem near_fits {f : Fmt} {i : Int} (h : i ∈ [lo f, lo f + 1, hi f, hi f - 1, 0, 1, 2, 3, (if 0 - 1 > lo f then 0 - 1 else lo f), (if 0 - 2 > lo f then 0 - 2 else lo f), (hi f).fdiv 2, (hi f).fdiv 2 + 1, lo f + (hi f).fdiv 3]) : fits f i := by
  have F := facts f
  have e2 : (hi f).fdiv 2 = hi f / 2 := Int.fdiv_eq_ediv_of_nonneg _ (by decide)
  have e3 : (hi f).fdiv 3 = hi f / 3 := Int.fdiv_eq_ediv_of_nonneg _ (by decide)
  rw [e2, e3] at h
  simp only [List.mem_cons, List.not_mem_nil, or_false] at h
  unfold fits
  rcases h with h | h | h | h | h | h | h | h | h | h | h | h | h <;> (try split at h) <;> omega
end WL

set_option maxHeartbeats 4000000
/-! Lambdas as values: made with at most one default that is a written int, kept, handed to a def, called there. -/
namespace WLam
open PySem PySem.Spec PyProof.Rows L2 Evl WL LamX

abbrev lfn (qual : Str) (params : Arguments) (body : Expr) (scope : Scope) (cl : List (Str × Addr)) (pm cdv ct dV : Value) : FuncData :=
  { name := "<lambda>"
    qualname := qual
    params := params
    body := .expr body
    scope := scope
    globals := mainGlobals
    closure := cl
    defaults := dV
    kwdefaults := .none
    doc := .none
    pyModule := pm
    annotations := none
    code := cdv
    closureTuple := ct
    builtins := builtinsNs }
abbrev lobj (qual : Str) (params : Arguments) (body : Expr) (scope : Scope) (cl : List (Str × Addr)) (pm cdv ct dV : Value) : Obj :=
  { cls := .type "function", data := .func (lfn qual params body scope cl pm cdv ct dV) }
/-- what is tracked of a lambda at f -/
def LamO (f : Addr) (qual : Str) (params : Arguments) (body : Expr) (scope : Scope) (cl : List (Str × Addr)) (c' : Addr) (dV : Value) : HO :=
  .ext fun h => ∃ pm ctv : Value, h.get? f = some (lobj qual params body scope cl pm (.ref c') ctv dV)
theorem lamO_ne {f c' : Addr} {qual : Str} {params : Arguments} {body : Expr} {scope : Scope} {cl : List (Str × Addr)} {dV : Value} (ps : Array Value) : LamO f qual params body scope cl c' dV ≠ .tbl ps := fun z => by
  unfold LamO at z; cases z
section
variable {M : Model} {A : Around} {E : Value → Shared → Prop} {s : Shared} {qual : Str} {params : Arguments} {body : Expr} {scope : Scope} {env : Env} {c P : Addr} {ps : Array Value} {pos : Pos} {firstLine : Nat} {mg : Str → Option Value}
  {clos : List (Str × Addr)} {Q : Value → Shared → Prop} {dV : Value}
/-- the tail of a lambda's making: the code object is new -/
theorem tail_new (hcl : closureFor scope env = pure clos) (hge0 : env.globals = mainGlobals) (hg : s.heap.Ns mainGlobals mg) (hcode : env.code = .ref c) (C : PySem.W.CodeHd s.heap c P)
    (hP : s.heap.get? P = some (PySem.W.tabObj ps)) (ht : TriplesOk ps.toList) (hnf : codeAmong pos ps.toList = none) (hgP : mainGlobals ≠ P) (hb : s.heap.BuiltinsAt mg P)
    (h : ∀ (c' : Addr) (ctv : Value) (h' : Heap) (tk : Tok), Heap.ExtBut P s.heap h' → s.heap.objs.size ≤ c' → c' < h'.objs.size → h'.CodeRec (.ref c') qual →
      h'.get? P = some (PySem.W.tabObj (ps ++ #[rawInt pos.line, rawInt pos.col, .ref c'])) →
      Q (.ref h'.objs.size) { s with heap := h'.push (lobj qual params body scope clos ((mg "__name__").getD .none) (.ref c') ctv dV), toks := tk }) :
    wpAny M A (makeTail "<lambda>" qual params (.expr body) scope env dV .none none pos firstLine) Q E s := by
  obtain ⟨bm, ob, b1, b2, _, b4, b5, b6, b7, b8⟩ := hb
  have push_keep : ∀ (o : Obj) b u, s.heap.get? b = some u → (s.heap.push o).get? b = some u := fun o b u e => Heap.get?_push_of_some _ e
  unfold makeTail
  rw [hcl, hge0]
  refine wpAny_bind (wpAny_pure ?_)
  by_cases hc0 : clos = []
  · subst hc0
    rw [if_pos (show ([] : List (Str × Addr)).isEmpty = true from rfl)]
    refine wpAny_bind (wpAny_pure (wpAny_bind (wpAny_functionCodeX hcode (C.code hP ht) (C.tab hP) hnf ?_)))
    intro c' h' tk hx hge hlt _ hrec htb _
    have hg' := hg.extBut hx hgP
    refine wpAny_bind (wpAny_builtinsFor hg' b1 b2 (hx _ _ b4 b5) b6 b7 b8 (wpAny_bind (wpAny_nsGet hg' (wpAny_bind (wpAny_pure ?_)))))
    exact wpAny_newObj_type (h c' .none h' tk hx hge hlt hrec htb.2) (by size_fits)
  · rw [if_neg (by cases clos with
      | nil => exact absurd rfl hc0
      | cons q r => exact Bool.false_ne_true)]
    refine wpAny_bind (wpAny_newTextTuple ?_)
    generalize ho : ({ cls := .type "tuple", data := .seq ((clos.mergeSort fun a b => a.1.cps.toList ≤ b.1.cps.toList).map (Value.ref ·.2)).toArray } : Obj) = o
    have C2 : PySem.W.CodeHd (s.heap.push o) c P := C.keeps (push_keep o)
    refine wpAny_bind (wpAny_functionCodeX hcode (C2.code (push_keep o _ _ hP) ht) (C2.tab (push_keep o _ _ hP)) hnf ?_)
    intro c' h' tk hx hge hlt _ hrec htb _
    have hg' := (hg.push o).extBut hx hgP
    have hx' : Heap.ExtBut P s.heap h' := fun b u hb' e => hx b u hb' (push_keep o b u e)
    have hge' : s.heap.objs.size ≤ c' := Nat.le_trans (by rw [Heap.size_push]; omega) hge
    refine wpAny_bind (wpAny_builtinsFor hg' b1 b2 (hx' _ _ b4 b5) b6 b7 b8 (wpAny_bind (wpAny_nsGet hg' (wpAny_bind (wpAny_pure ?_)))))
    exact wpAny_newObj_type (h c' _ h' tk hx' hge' hlt hrec htb.2) (by size_fits)
/-- the code object was made before -/
theorem tail_hit {cv : Value} (hcl : closureFor scope env = pure clos) (hge0 : env.globals = mainGlobals) (hg : s.heap.Ns mainGlobals mg) (hcode : env.code = .ref c) (C : PySem.W.CodeHd s.heap c P)
    (hP : s.heap.get? P = some (PySem.W.tabObj ps)) (ht : TriplesOk ps.toList) (hf : codeAmong pos ps.toList = some cv) (hb : s.heap.BuiltinsAt mg P)
    (h : ∀ (ctv : Value) (h' : Heap), (∀ b o, s.heap.get? b = some o → h'.get? b = some o) → s.heap.objs.size ≤ h'.objs.size →
      Q (.ref h'.objs.size) { s with heap := h'.push (lobj qual params body scope clos ((mg "__name__").getD .none) cv ctv dV) }) :
    wpAny M A (makeTail "<lambda>" qual params (.expr body) scope env dV .none none pos firstLine) Q E s := by
  obtain ⟨bm, ob, b1, b2, _, b4, b5, b6, b7, b8⟩ := hb
  unfold makeTail
  rw [hcl, hge0]
  refine wpAny_bind (wpAny_pure ?_)
  by_cases hc0 : clos = []
  · subst hc0
    rw [if_pos (show ([] : List (Str × Addr)).isEmpty = true from rfl)]
    refine wpAny_bind (wpAny_pure (wpAny_bind (wpAny_functionCode_hit hcode (C.code hP ht) hf ?_)))
    refine wpAny_bind (wpAny_builtinsFor hg b1 b2 b5 b6 b7 b8 (wpAny_bind (wpAny_nsGet hg (wpAny_bind (wpAny_pure ?_)))))
    exact wpAny_newObj_type (h .none s.heap (fun _ _ e => e) (Nat.le_refl _)) (by size_fits)
  · rw [if_neg (by cases clos with
      | nil => exact absurd rfl hc0
      | cons q r => exact Bool.false_ne_true)]
    refine wpAny_bind (wpAny_newTextTuple ?_)
    generalize ho : ({ cls := .type "tuple", data := .seq ((clos.mergeSort fun a b => a.1.cps.toList ≤ b.1.cps.toList).map (Value.ref ·.2)).toArray } : Obj) = o
    have keepP : ∀ b u, s.heap.get? b = some u → (s.heap.push o).get? b = some u := fun b u e => Heap.get?_push_of_some _ e
    refine wpAny_bind (wpAny_functionCode_hit hcode ((C.keeps keepP).code (keepP _ _ hP) ht) hf ?_)
    refine wpAny_bind (wpAny_builtinsFor (hg.push o) b1 b2 (keepP _ _ b5) b6 b7 b8 (wpAny_bind (wpAny_nsGet (hg.push o) (wpAny_bind (wpAny_pure ?_)))))
    exact wpAny_newObj_type (h _ _ keepP (by rw [Heap.size_push]; omega)) (by size_fits)
end
section
variable {X : Cx} {pins : List (Addr × Obj)} {σ : L2.St} {H : Hp} {s : Shared} {T : List (Addr × Str)} {c P : Addr} {params : Arguments} {body : Expr} {scope : Scope} {pos : Pos} {firstLine : Nat} {dV : Value}
abbrev lq (X : Cx) : Str := X.env.qual ++ "<lambda>"
abbrev lcl (X : Cx) (scope : Scope) : List (Str × Addr) := cloFrom X.env.cells scope.names []
/-- the lambda's object is told from now on -/
theorem track (I : Inv X pins σ H s) {o : Obj} {pm ctv : Value} {c' : Addr} {tk : Tok} :
    Inv X pins σ (L2.upd H s.heap.objs.size (LamO s.heap.objs.size (lq X) params body scope (lcl X scope) c' dV)) { s with heap := s.heap.push (lobj (lq X) params body scope (lcl X scope) pm (.ref c') ctv dV), toks := tk } := by
  refine I.laid (fun b u e => Heap.get?_push_of_some _ e) (Nat.le_refl _) ?_
  have g : (s.heap.push (lobj (lq X) params body scope (lcl X scope) pm (.ref c') ctv dV)).get? s.heap.objs.size = some (lobj (lq X) params body scope (lcl X scope) pm (.ref c') ctv dV) := Heap.get?_push_size _ rfl
  exact ⟨⟨pm, ctv, g⟩, ⟨_, g⟩, fun h1 h2 ⟨p1, c1, e⟩ st => ⟨p1, c1, st _ e⟩⟩
theorem lam_tail (I : Inv X pins σ H s) (TB : TabB X.base X.mg c P) (hcode : X.env.code = .ref c) (hm : (P, lq X) ∈ T) (hu : ∀ p ∈ T, p.1 = P → p.2 = lq X) (hT : Tabs T H)
    (hfree : ∀ y ∈ scope.names, y.2 = .free → ∃ c, X.env.cells.lookup y.1 = some c) {Q E : Value → Shared → Prop}
    (h : ∀ (f c' : Addr) (H1 : Hp) (s' : Shared), Inv X pins σ H1 s' → ExtN H H1 → Tabs T H1 → H f = none → H1 f = some (LamO f (lq X) params body scope (lcl X scope) c' dV) → H1 c' = some (CodeO c' (lq X)) → Q (.ref f) s') :
    wpAny (model X.prog X.w) X.A (makeTail "<lambda>" (lq X) params (.expr body) scope X.env dV .none none pos firstLine) Q E s := by
  obtain ⟨ps, hP, ht, ha⟩ := hT _ hm
  have bP : s.heap.BuiltinsAt X.mg P := TB.bm.keeps I.bk
  have hP' : s.heap.get? P = some { cls := .none, data := .fields ps } := I.hok P _ hP
  have hG := I.mod.glob.keeps I.bk
  cases hc : codeAmong pos ps.toList with
  | none =>
    refine tail_new (closure_ok hfree) I.ok.glob hG hcode (TB.code.keeps I.bk) hP' ht hc TB.gP bP ?_
    rintro c' ctv h' tk hx hge hlt ⟨c2, oc, vs, t, e2, hoc, hd, hv⟩ htb
    cases e2
    have nC : H c' = none := I.hok.fresh hge
    have neP : ∀ b u, H b = some u → (∀ q, u ≠ .tbl q) → b ≠ P := fun b u e q z => q ps (Option.some.inj (e.symm.trans (by rw [z]; exact hP)))
    have I1 := inv_table (t' := tk) (more := #[rawInt pos.line, rawInt pos.col, .ref c']) (h' := h') I hP hx htb hge ⟨oc, vs, t, hoc, hd, hv⟩
    have x1 : ExtN H (L2.upd (L2.upd H P (.tbl (ps ++ #[rawInt pos.line, rawInt pos.col, .ref c']))) c' (CodeO c' (lq X))) := fun b o e n => by
      rw [upd_ne (ne_of_none e nC), upd_ne (neP b o e n)]
      exact e
    generalize hH1 : L2.upd (L2.upd H P (.tbl (ps ++ #[rawInt pos.line, rawInt pos.col, .ref c']))) c' (CodeO c' (lq X)) = H1 at *
    have hsz : s.heap.objs.size ≤ h'.objs.size := Nat.le_trans hge (Nat.le_of_lt hlt)
    have nf1 : H1 h'.objs.size = none := I1.hok.fresh (Nat.le_refl _)
    have I2 := track (tk := tk) (params := params) (body := body) (scope := scope) (pm := (X.mg "__name__").getD .none) (ctv := ctv) (c' := c') (dV := dV) I1 (o := default)
    have x2 : ∀ b o, H1 b = some o → L2.upd H1 h'.objs.size (LamO h'.objs.size (lq X) params body scope (lcl X scope) c' dV) b = some o := fun b o e => by
      rw [upd_ne (ne_of_none e nf1)]; exact e
    have hc1 : H1 c' = some (CodeO c' (lq X)) := by rw [← hH1]; exact upd_same
    have T1 : Tabs T H1 := fun p hp => by
      by_cases hb : p.1 = P
      · rw [hu p hp hb, hb]
        have eL : (ps ++ #[rawInt pos.line, rawInt pos.col, .ref c']).toList = ps.toList ++ [rawInt pos.line, rawInt pos.col, .ref c'] := by simp
        refine ⟨_, by rw [← hH1, upd_ne (ne_of_none hP nC), upd_same], by rw [eL]; exact PySem.TriplesOk_snoc _ _ _ _ ht, fun p' cv hcv => ?_⟩
        rw [eL] at hcv
        rcases among_app _ ht hcv with z | z
        · obtain ⟨c0, y1, y2⟩ := ha p' cv z
          exact ⟨c0, y1, x1 _ _ y2 codeO_ne⟩
        · exact ⟨c', z, hc1⟩
      · obtain ⟨ps', a1, a2, a3⟩ := hT p hp
        refine ⟨ps', by rw [← hH1, upd_ne (ne_of_none a1 nC), upd_ne hb]; exact a1, a2, fun p' cv hcv => ?_⟩
        obtain ⟨c0, y1, y2⟩ := a3 p' cv hcv
        exact ⟨c0, y1, x1 _ _ y2 codeO_ne⟩
    exact h h'.objs.size c' _ _ I2 (x1.trans (ExtN.of x2)) (T1.ext x2) (I.hok.fresh hsz) upd_same (x2 _ _ hc1)
  | some cv =>
    obtain ⟨c', e, hco⟩ := ha pos cv hc
    subst e
    refine tail_hit (closure_ok hfree) I.ok.glob hG hcode (TB.code.keeps I.bk) hP' ht hc bP ?_
    intro ctv h' hx hsz
    have I1 : Inv X pins σ H { s with heap := h' } := I.kept (t' := s.toks) hx
    have nf1 : H h'.objs.size = none := I.hok.fresh hsz
    have x2 : ∀ b o, H b = some o → L2.upd H h'.objs.size (LamO h'.objs.size (lq X) params body scope (lcl X scope) c' dV) b = some o := fun b o e => by
      rw [upd_ne (ne_of_none e nf1)]; exact e
    exact h h'.objs.size c' _ _ (track (tk := s.toks) (o := default) I1) (ExtN.of x2) (hT.ext x2) nf1 upd_same (x2 _ _ hco)
end
end WLam

set_option maxHeartbeats 4000000
namespace WLam
open PySem PySem.Spec PyProof.Rows L2 Evl WL LamX
/-- a lambda as it is written: at most one parameter, with a written int as its default -/
structure LamD where
  params : Arguments
  body : Expr
  scope : Scope
  dflt : Option (Str × Int)
def DflOk (d : LamD) (dV : Value) (H : Hp) : Prop := match d.dflt with
  | none => dV = .none
  | some (_, i) => ∃ t, dV = .ref t ∧ H t = some (.tup [.int i])
theorem DflOk.ext {d : LamD} {dV : Value} {H H' : Hp} (h : DflOk d dV H) (e : ExtN H H') : DflOk d dV H' := by
  unfold DflOk at *
  cases hd : d.dflt with
  | none => rw [hd] at h; exact h
  | some p =>
    rw [hd] at h
    obtain ⟨t, e1, e2⟩ := h
    exact ⟨t, e1, e _ _ e2 fun ps z => by cases z⟩
/-- a lambda object of this making stands at f -/
def LamAt (X : Cx) (d : LamD) (f : Addr) (H : Hp) : Prop := ∃ (c' : Addr) (dV : Value),
  H f = some (LamO f (lq X) d.params d.body d.scope (lcl X d.scope) c' dV) ∧ H c' = some (CodeO c' (lq X)) ∧ DflOk d dV H
theorem LamAt.ext {X : Cx} {d : LamD} {f : Addr} {H H' : Hp} (h : LamAt X d f H) (e : ExtN H H') : LamAt X d f H' := by
  obtain ⟨c', dV, h1, h2, h3⟩ := h
  exact ⟨c', dV, e _ _ h1 lamO_ne, e _ _ h2 codeO_ne, h3.ext e⟩
/-- the lambda's own names stand apart from the maker's -/
structure LamS2 (N : List Str) (sc scope : Scope) : Prop where
  kind : scope.kind = .function
  co : scope.isCoroutine = false
  gen : scope.isGenerator = false
  own : ∀ y ∈ scope.names, y.2 ≠ .cell ∧ (y.2 = .local → y.1 ∉ N)
  free : ∀ y ∈ scope.names, y.2 = .free → sc.names.lookup y.1 = some .cell ∨ sc.names.lookup y.1 = some .free
def lamB2 (N : List Str) (sc scope : Scope) : Bool :=
  decide (scope.kind = .function) && (!scope.isCoroutine && (!scope.isGenerator && scope.names.all fun y => !decide (y.2 = .cell) && ((!decide (y.2 = .local) || !decide (y.1 ∈ N)) && (!decide (y.2 = .free) || (decide (sc.names.lookup y.1 = some .cell) || decide (sc.names.lookup y.1 = some .free))))))
theorem lamS2_by {N : List Str} {sc scope : Scope} (h : lamB2 N sc scope = true) : LamS2 N sc scope := by
  unfold lamB2 at h
  simp only [Bool.and_eq_true, Bool.or_eq_true, Bool.not_eq_true', decide_eq_true_eq, decide_eq_false_iff_not, List.all_eq_true] at h
  obtain ⟨h1, h2, h3, h4⟩ := h
  refine ⟨h1, h2, h3, fun y hy => ⟨(h4 y hy).1, fun e z => ?_⟩, fun y hy e => ?_⟩
  · rcases (h4 y hy).2.1 with q | q
    · exact q e
    · exact q z
  · rcases (h4 y hy).2.2 with q | q
    · exact absurd e q
    · exact q
theorem LamS2.has {X : Cx} {scope : Scope} (L : LamS2 X.N X.env.scope scope) (ok : X.Ok) : ∀ y ∈ scope.names, y.2 = .free → ∃ c, X.env.cells.lookup y.1 = some c := fun y hy e => by
  rcases L.free y hy e with k | k
  · exact ok.has _ (.inl k)
  · exact ok.has _ (.inr k)
/-- how the default binds -/
structure BindD (d : LamD) : Prop where
  no : d.dflt = none → ∀ (q : Str) (cl : List (Str × Addr)) (pm cv ct : Value), bindArgs (lfn q d.params d.body d.scope cl pm cv ct .none) ⟨[], []⟩ = pure []
  one : ∀ (x : Str) (i : Int), d.dflt = some (x, i) → d.scope.names.lookup x = some .local ∧ ∀ (q : Str) (cl : List (Str × Addr)) (pm cv ct : Value) (t : Addr),
    ∃ k, bindArgs (lfn q d.params d.body d.scope cl pm cv ct (.ref t)) ⟨[], []⟩ = seqItems? (.ref t) >>= k ∧ ∀ v : Value, k (some [v].toArray) = pure [(x, v)]
  dno : d.dflt = none → ∀ env : Env, defaultsOf d.params env = ([], [])
  done : ∀ (x : Str) (i : Int), d.dflt = some (x, i) → ∃ (k : Nat) (pos : Pos), ∀ env : Env, defaultsOf d.params env = ([eval (.Constant (.int i) k pos) env], [])
  kw : d.params.kwonlyargs = []
section
variable {X : Cx} {pins : List (Addr × Obj)} {σ : L2.St} {H HZ : Hp} {s s1 : Shared} {T : List (Addr × Str)} {c P : Addr} {d : LamD} {pos : Pos}
/-- the reading of a lambda's making -/
def tMk (X : Cx) (T : List (Addr × Str)) (d : LamD) : TE := fun _ H Q => Tabs T H ∧ ∀ (f : Addr) (H1 : Hp), ExtN H H1 → Tabs T H1 → H f = none → LamAt X d f H1 → Q (.ref f) H1
theorem pe_lam (TB : TabB X.base X.mg c P) (hcode : X.env.code = .ref c) (hm : (P, lq X) ∈ T) (hu : ∀ p ∈ T, p.1 = P → p.2 = lq X) (L : LamS2 X.N X.env.scope d.scope) (B : BindD d) :
    PE X (.Lambda d.params d.body d.scope pos) (tMk X T d) := by
  refine ⟨fun pins s σ H Q I h => ?_⟩
  obtain ⟨hT, h⟩ := h
  have hkw : (d.params.kwonlyargs.zip ([] : List (Option Value))).filterMap (fun (a, d) => d.map (a.arg, ·)) = [] := by rw [B.kw]; rfl
  rw [arm_eval_Lambda]
  cases hd : d.dflt with
  | none =>
    rw [B.dno hd]
    show wpAny _ _ (do let dv ← evalAll []; let kdv ← holding dv (evalAllOpt []); makeFunction "<lambda>" (lq X) d.params (.expr d.body) d.scope X.env dv kdv [] pos pos.line) _ _ _
    refine wpAny_bind (wpAny_pure (wpAny_bind (wpAny_holding (wpAny_pure ?_))))
    rw [makeFunction_eq]
    simp only [List.zip_nil_right, List.filterMap_nil, List.isEmpty_nil, if_true, pure_bind]
    refine lam_tail I TB hcode hm hu hT (L.has I.ok) fun f c' H1 s' I1 x1 T1 nf h1 h2 => ?_
    exact ⟨.ref f, H1, I1, rfl, h f H1 x1 T1 nf ⟨c', .none, h1, h2, by unfold DflOk; rw [hd]⟩⟩
  | some p =>
    obtain ⟨x, i⟩ := p
    obtain ⟨k, pos', e⟩ := B.done x i hd
    rw [e]
    show wpAny _ _ (do let dv ← evalAll [eval (.Constant (.int i) k pos') X.env]; let kdv ← holding dv (evalAllOpt []); makeFunction "<lambda>" (lq X) d.params (.expr d.body) d.scope X.env dv kdv [] pos pos.line) _ _ _
    refine wpAny_bind (wpAny_bind (wpAny_Constant_int (wpAny_bind (wpAny_holding (wpAny_pure (wpAny_pure ?_))))))
    refine wpAny_bind (wpAny_holding (wpAny_pure ?_))
    rw [makeFunction_eq]
    simp only [List.zip_nil_right, List.filterMap_nil, List.isEmpty_nil, List.isEmpty_cons, Bool.false_eq_true, if_true, if_false, pure_bind]
    refine wpAny_bind (wpAny_newTextTuple ?_)
    have I0 : Inv X pins σ H { s with toks := s.toks + 1 } := I.tok _
    have I1 : Inv X pins σ (L2.upd H s.heap.objs.size (.tup [.int i])) { s with heap := s.heap.push { cls := .type "tuple", data := .seq [Value.int i s.toks].toArray }, toks := s.toks + 1 } :=
      I.laid (fun b u e => Heap.get?_push_of_some _ e) (Nat.le_refl _) ⟨by show 1 ≤ sizeLine; decide, [.int i s.toks], .cons ⟨_, rfl⟩ .nil, IsTup.new s.heap _⟩
    have nt : H s.heap.objs.size = none := I.hok.fresh (Nat.le_refl _)
    have x0 : ∀ b o, H b = some o → L2.upd H s.heap.objs.size (.tup [.int i]) b = some o := fun b o e => by rw [upd_ne (ne_of_none e nt)]; exact e
    refine lam_tail (dV := .ref s.heap.objs.size) I1 TB hcode hm hu (hT.ext x0) (L.has I.ok) fun f c' H1 s' I2 x1 T1 nf h1 h2 => ?_
    have nf' : H f = none := by
      cases q : H f with
      | none => rfl
      | some o => rw [x0 _ _ q] at nf; cases nf
    exact ⟨.ref f, H1, I2, rfl, h f H1 ((ExtN.of x0).trans x1) T1 nf' ⟨c', _, h1, h2, by unfold DflOk; rw [hd]; exact ⟨_, rfl, x1 _ _ upd_same fun ps z => by cases z⟩⟩⟩
/-- entering the lambda's body -/
theorem lam_in {A : Around} {outer : List Env} {E : XK} {scope : Scope} {f c' : Addr} {h1 : Heap} {tk : Nat} {m : Str → Option Value} (I : Inv X pins σ H s) (L : LamS2 X.N X.env.scope scope)
    (e0 : Env0 X.prog X.w X.K X.mg X.base A outer s1 HZ) (hd : A.handled = none) (un : Un (frs X.stack) [] H HZ s.heap s1.heap) (hns : h1.Ns s1.heap.objs.size m)
    (kp : ∀ b o, s1.heap.get? b = some o → h1.get? b = some o) : Inv (lamCx X A outer s1 HZ E scope f c') [] σ HZ { s1 with heap := h1, toks := tk } := by
  have hfree := L.has I.ok
  have back : ∀ {y c}, (lcl X scope).lookup y = some c → X.env.cells.lookup y = some c := fun {y c} e => by
    rcases cloFrom_mem (PySem.mem_of_lookup e) with z | ⟨z1, z2⟩
    · cases z
    · obtain ⟨c1, hc⟩ := hfree _ z1 rfl
      have hc : X.env.cells.lookup y = some c1 := hc
      rw [z2, hc]
      rfl
  have look : ∀ {y}, scope.names.lookup y = some .free → ∃ c, (lcl X scope).lookup y = some c := fun {y} hl =>
    L2.mem_lookup (cloFrom_has (cells := X.env.cells) (acc := []) (PySem.mem_of_lookup hl))
  have cellK : ∀ {c : Addr} {v : Option Value}, H c = none → s.heap.IsCell c v → h1.IsCell c v := fun {c v} n ⟨o, ho, hd⟩ => by
    obtain ⟨sl, q⟩ := un.any ho n (by simp)
    exact ⟨_, kp _ _ q, hd⟩
  have nx : ∀ b : Addr, b ∉ (lamCx X A outer s1 HZ E scope f c').ex := fun b z => by cases z
  have okL : (lamCx X A outer s1 HZ E scope f c').Ok := by
    refine ⟨e0.mod, L.kind, rfl, rfl, Nat.le_refl _, ?_, ?_, ?_, fun _ => hd, Around.frames_deeper e0.frames, .inr ⟨rfl, rfl⟩, fun b z => absurd z (nx b), e0.bs, e0.bsz, fun b _ _ => nx b, fun b z => absurd z (nx b), e0.funs, e0.frf⟩
    · exact fun y z c e1 e2 => I.ok.inj y z c (back e1) (back e2)
    · intro y hy
      have hy : scope.names.lookup y = some .cell ∨ scope.names.lookup y = some .free := hy
      rcases hy with hy | hy
      · exact absurd rfl (L.own _ (PySem.mem_of_lookup hy)).1
      · exact look hy
    · intro y c z _
      have z : false = true := z
      cases z
  refine ⟨okL, rfl, e0.bare, Un.kept kp, ⟨m, hns, ?_⟩, ?_, e0.hok.fresh (Nat.le_refl _), ?_, (fun q hq => nomatch (show q ∈ ([] : List (Addr × Obj)) from hq)), e0.hok.kept kp, I.len⟩
  · intro i y v e1 e2 e3
    have hyN : y ∈ X.N := List.mem_of_getElem? e1
    have e3 : Vis scope y := e3
    rcases e3 with k | k | k
    · exact absurd hyN ((L.own _ (PySem.mem_of_lookup k)).2 rfl)
    · exact absurd rfl (L.own _ (PySem.mem_of_lookup k)).1
    · obtain ⟨m0, hn, hl⟩ := I.loc
      have hvis : Vis X.env.scope y := (L.free _ (PySem.mem_of_lookup k) rfl).elim (fun k => .inr (.inl k)) (fun k => .inr (.inr k))
      obtain ⟨w', r, q⟩ := hl i y v e1 e2 hvis
      obtain ⟨c2, h2⟩ := look k
      refine ⟨w', r, .inr ⟨.inr k, c2, h2, ?_⟩⟩
      have c1 := back h2
      rcases q with ⟨k', _⟩ | ⟨_, c3, e', z⟩
      · have k' : X.env.scope.names.lookup y = some .local := k'
        rcases L.free _ (PySem.mem_of_lookup k) rfl with k2 | k2
        · rw [show X.env.scope.names.lookup y = _ from k2] at k'
          cases k'
        · rw [show X.env.scope.names.lookup y = _ from k2] at k'
          cases k'
      · rw [c1] at e'
        cases e'
        exact cellK (I.freeC y _ c1) z
  · intro y c e
    obtain ⟨w', z⟩ := I.cell y c (back e)
    exact ⟨w', cellK (I.freeC y c (back e)) z⟩
  · intro y c e
    obtain ⟨v, o, ho, hd⟩ := I.cell y c (back e)
    exact un.free c o ho (I.freeC y c (back e)) (by simp)
end
end WLam

namespace WLam
open PySem PySem.Spec PyProof.Rows L2
/-- .. as one Bool over the head's frag -/
def excCB (K : PySem.W.Frag) (D : Addr) : Bool :=
  He.eqO (PySem.W.findIn K (.ref D) "__getattribute__") (some (some (.builtin "BaseException.__getattribute__"))) && (He.eqO (PySem.W.findIn K (.ref D) "__getattr__") (some none) &&
  (decide (PySem.W.subIn K (.ref D) (.type "BaseException") = some true) && (PySem.W.hasDictIn K D && (He.eqO (PySem.W.findIn K (.ref D) "__class__") (some (some (.builtin "object.__class__"))) &&
  (He.eqO (PySem.W.specialIn K (.builtin "object.__class__") "__get__") (some (some (.builtin "getset_descriptor.__get__"))) && (decide (PySem.W.takesIn K (.builtin "object.__class__") = some true) && decide (PySem.W.mroIn K D (.type "object") = some true)))))))
def erB (K : PySem.W.Frag) (x : Str) : Bool := (He.Fa.exc x).ok K && ((He.Fa.exm x "WidthError" true).ok K && excCB K (He.ga K x))
end WLam

set_option maxHeartbeats 4000000
namespace WLam
open PySem PySem.Spec PyProof.Rows L2 Evl WL LamX
section
variable {X : Cx} {pins : List (Addr × Obj)} {σ : L2.St} {H HZ : Hp} {s s1 : Shared} {d : LamD}
/-- the def g that got the lambda, as its context: entered at s -/
abbrev gCx (X : Cx) (Ng : List Str) (qg : Str) (sg : Scope) (g : Addr) (cdg : Value) (s : Shared) (H : Hp) : Cx := cxOf CX0 X.prog X.w X.K X.mg X.base Ng qg sg g cdg X.A X.stack s H E0
/-- x(), in the def that got the lambda -/
theorem pe_act2 {Ng : List Str} {qg : Str} {sg : Scope} {g f : Addr} {cdg : Value} {k i : Nat} {a : Str} {pn : List (Addr × Obj)} {xe : Value → Shared → Prop} {W : WX} {E : XK} {tb : TE} {p1 p2 : Pos}
    (I : Inv X pins σ H s) (L : LamS2 X.N X.env.scope d.scope) (B : BindD d) (tk : Takes ((gCx X Ng qg sg g cdg s H).tr pn xe) W)
    (hr : Room (k + 1) (X.A.deeper (envOfC qg sg s.heap.objs.size g cdg)))
    (hbody : ∀ (A : Around) (outer : List Env) (s : Shared) (H : Hp) (f c' : Addr), Room k (A.deeper (lamEnv X d.scope s.heap.objs.size f c')) → PE (lamCx X A outer s H E d.scope f c') d.body tb)
    (hN : Ng[i]? = some a) (hv : Vis sg a) (hd : (a == ("__debug__" : Str)) = false := by decide) (hcd : (a == ("__classdict__" : Str)) = false := by decide) :
    PE ((gCx X Ng qg sg g cdg s H).tr pn xe) (.Call (.Name a p1) [] [] p2) (fun σZ HZ Q => σZ[i]? = some (some (.ref f)) ∧ LamAt X d f HZ ∧ (∀ cls d H', E cls d H' → W cls d σZ H') ∧ tb σ HZ Q) := by
  refine ⟨fun pinsZ sZ σZ HZ Q IZ h => ?_⟩
  obtain ⟨hs, ⟨c', dV, hf, hc, hdf⟩, hW, ht⟩ := h
  have pv := (pe_var (X := (gCx X Ng qg sg g cdg s H).tr pn xe) (pos := p1) (i := i) hN hv hd hcd).run pinsZ sZ σZ HZ (fun v H1 => v = .ref f ∧ H1 = HZ) IZ ⟨.ref f, hs, rfl, rfl⟩
  refine wpAny_Call_Name_kw (thn pv fun u s1 ⟨v, H1, I1, r1, q1⟩ => ?_)
  obtain ⟨rfl, rfl⟩ := q1
  obtain rfl : u = Value.ref f := r1
  obtain ⟨⟨pm, ctv, of1⟩, _, _⟩ := I1.hok f _ hf
  obtain ⟨⟨oc, vs, t, hoc, hdc, hvc⟩, _, _⟩ := I1.hok c' _ hc
  refine PySem.W.callWith_F0 ⟨_, _, _, _, of1⟩ ?_
  have un : Un (frs X.stack) [] H H1 s.heap s1.heap := I1.base
  have rc : codeAny (model X.prog X.w) (X.A.deeper (envOfC qg sg s.heap.objs.size g cdg)) (.call (.ref f) ⟨[], []⟩) (CR (L2.CX X.prog X.w) (envOfC qg sg s.heap.objs.size g cdg :: X.stack) X.prog X.w H1 s1 Q E) s1 := by
    refine PySem.W.kla_callFunE hr.depth of1 rfl L.co L.gen rfl ⟨c', oc, vs, t, rfl, hoc, hdc, hvc⟩ ?_
    -- whatever is bound, the body runs
    have go : ∀ (binds : List (Str × Value)), (∀ y ∈ binds, d.scope.names.lookup y.1 = some .local) →
        wpAny (model X.prog X.w) (X.A.deeper (envOfC qg sg s.heap.objs.size g cdg)).in1 (newFunctionEnv d.scope mainGlobals (lcl X d.scope) binds (lq X ++ ".<locals>.") (some f) (.ref c') none builtinsNs)
          (fun env s2 => s2.heap.NoLimit ∧ codeAny (model X.prog X.w) (X.A.deeper (envOfC qg sg s.heap.objs.size g cdg)) (.expr d.body env) (CR (L2.CX X.prog X.w) (envOfC qg sg s.heap.objs.size g cdg :: X.stack) X.prog X.w H1 s1 Q E) s2)
          (fun e s' => CR (L2.CX X.prog X.w) (envOfC qg sg s.heap.objs.size g cdg :: X.stack) X.prog X.w H1 s1 Q E (.error e) s') s1 := by
      intro binds hb
      refine wpAny_newFunctionEnv (fun y hy => (L.own y hy).1) hb (fun h1 hns hsb => ⟨I1.nolimit.fresh _ hsb, ?_⟩) L.kind
      show codeAny _ _ (.expr d.body (lamEnv X d.scope s1.heap.objs.size f c')) _ _
      have kp : ∀ b o, s1.heap.get? b = some o → h1.get? b = some o := fun b o e => hsb.extBut b o (Nat.ne_of_lt (Heap.lt_size e)) (Heap.get?_push_of_some _ e)
      have J := lam_in (E := E) (f := f) (c' := c') (tk := s1.toks + binds.length) I L I1.env0 hr.hd un hns kp
      refine PySem.W.kla_codeExpr (wpAny_mono ((hbody _ _ s1 H1 f c' (hr.deeper _)).run [] _ _ H1 Q J ht) (fun v s' hq => ?_) fun e s' hq => hq)
      obtain ⟨w', H', J', rv, q⟩ := hq
      exact ⟨w', H', J'.os, J'.bare, J'.base, J'.hok, rv, q⟩
    cases hd0 : d.dflt with
    | none =>
      have e0 : dV = .none := by
        unfold DflOk at hdf
        rw [hd0] at hdf
        exact hdf
      subst e0
      rw [B.no hd0]
      exact wpAny_pure (go [] fun y hy => by cases hy)
    | some p =>
      obtain ⟨x, n⟩ := p
      unfold DflOk at hdf
      rw [hd0] at hdf
      obtain ⟨T, rfl, hT⟩ := hdf
      obtain ⟨hloc, hk⟩ := B.one x n hd0
      obtain ⟨kk, e1, e2⟩ := hk (lq X) (lcl X d.scope) pm (.ref c') ctv T
      rw [e1]
      obtain ⟨_, its, rvs, oT, o1, o2, n2, o3⟩ := I1.hok T _ hT
      refine wpAny_bind (wpAny_seqItems o1 o3 ?_)
      obtain ⟨v, rfl, _⟩ := vals1 rvs
      rw [e2 v]
      exact wpAny_pure (go [(x, v)] fun y hy => by
        rcases List.mem_cons.mp hy with rfl | hy
        · exact hloc
        · cases hy)
  refine wpAny_call (codeAny_mono rc fun r s' hq => ?_)
  cases r with
  | error e => exact tk e s' (XE.of_call I1 hW hq)
  | ok fl =>
    cases fl with
    | ret u => exact I1.after hq
    | next => exact False.elim hq
    | brk => exact False.elim hq
    | cont => exact False.elim hq
/-- the promise of a def g(a) whose body calls a: TT what it makes of the call's reading -/
def Gives2 (X : Cx) (Ng : List Str) (x : Str) (st : Stmt) (a : Str) (TT : (XK → Hp → VK → Prop) → Hp → VK → Prop) : Prop :=
  ∀ (g : Addr) (cdg : Value) (s : Shared) (f : Addr) (H : Hp) (Q : VK) (tl : XK → Hp → VK → Prop) (St : Hp → Prop),
    (∀ (W : WX) (pn : List (Addr × Obj)) (xe : Value → Shared → Prop) (E : XK) (p1 p2 : Pos), Takes ((gCx X Ng x (defScope st) g cdg s H).tr pn xe) W →
      PE ((gCx X Ng x (defScope st) g cdg s H).tr pn xe) (.Call (.Name a p1) [] [] p2) (fun σZ HZ Q => σZ[0]? = some (some (.ref f)) ∧ St HZ ∧ (∀ cls d H', E cls d H' → W cls d σZ H') ∧ tl E HZ Q)) →
    St H → TT tl H Q →
    ∃ t, PSs (gCx X Ng x (defScope st) g cdg s H).nox (defBody st) t ∧ t { nx := fun _ H' => Q .non H', rt := Q } (L2.start Ng [.ref f]) H
/-- g(e), e one of n lambdas -/
def tGive (X : Cx) (te : TE) (n : Nat) (fam : Nat → LamD) (TT : (XK → Hp → VK → Prop) → Hp → VK → Prop) (tb : Nat → XK → TE) : TE := fun σ H Q =>
  te σ H fun v H1 => ∃ (j : Nat) (f : Addr), j < n ∧ v = .ref f ∧ LamAt X (fam j) f H1 ∧ TT (fun E H' Q' => tb j E σ H' Q') H1 Q
theorem pe_give {x a : Str} {st : Stmt} {Ng : List Str} {k n : Nat} {te : TE} {e : Expr} {fam : Nat → LamD} {TT : (XK → Hp → VK → Prop) → Hp → VK → Prop} {tb : Nat → XK → TE} {p pos : Pos}
    (D : DefAt X.K X.mg x st) (Sg : FnScope Ng [a] (defScope st)) (hNg : Ng[0]? = some a) (hva : Vis (defScope st) a)
    (hbg : ∀ (kV doc pm : Value) (an : Option Addr) (cdv ct : Value) (us : List Value), us.length = 1 → bindArgs (PySem.W.fnOf x x (defArgs st) (defBody st) (defScope st) .none kV doc pm an cdv ct) ⟨us, []⟩ = pure ([a].zip us))
    (hg : Gl X x) (hG : Gives2 X Ng x st a TT) (hr : Room (k + 2) X.A) (he : PE X e te)
    (L : ∀ j, j < n → LamS2 X.N X.env.scope (fam j).scope) (B : ∀ j, j < n → BindD (fam j))
    (hbody : ∀ (j : Nat), j < n → ∀ (A : Around) (outer : List Env) (s : Shared) (H : Hp) (E : XK) (f c' : Addr), Room k (A.deeper (lamEnv X (fam j).scope s.heap.objs.size f c')) → PE (lamCx X A outer s H E (fam j).scope f c') (fam j).body (tb j E))
    (hdb : (x == ("__debug__" : Str)) = false := by decide) (hd : (a == ("__debug__" : Str)) = false := by decide) (hcd : (a == ("__classdict__" : Str)) = false := by decide)
    (hs : starEach [e] X.env = (false, eval e X.env) :: starEach [] X.env := by rfl) (hpl : (backTo pos (starEach [] X.env)).any (·.1) = false := by rfl) :
    PE X (.Call (.Name x p) [e] [] pos) (tGive X te n fam TT tb) := by
  refine ⟨fun pins s σ H Q I h => ?_⟩
  obtain ⟨g, fd, F, hm⟩ := D.ex
  refine wpAny_Call_Name_kw (ld_glob I hg hm ?_ hdb)
  have ha : PA X [e] (tCons te tNil) := pa_cons he pa_nil hs
  refine PySem.W.callWith_K (h₀ := X.base) I.ok.mod.kin F.kp (thn (ha.run pos pins s σ H (fun vs H1 => ∃ (j : Nat) (f : Addr), j < n ∧ vs = [.ref f] ∧ LamAt X (fam j) f H1 ∧ TT (fun E H' Q' => tb j E σ H' Q') H1 Q) I ?_) fun us s1 ⟨vs, H1, I1, r, q⟩ => ⟨I1.kIn, ?_⟩) hs hpl
  · have e1 : (fun v H1 => ∃ (j : Nat) (f : Addr), j < n ∧ v = V.ref f ∧ LamAt X (fam j) f H1 ∧ TT (fun E H' Q' => tb j E σ H' Q') H1 Q) = (fun v H1 => ∃ (j : Nat) (f : Addr), j < n ∧ [v] = [V.ref f] ∧ LamAt X (fam j) f H1 ∧ TT (fun E H' Q' => tb j E σ H' Q') H1 Q) := by
      funext v H1
      simp only [List.cons.injEq, and_true]
    show te σ H _
    have h : te σ H (fun v H1 => ∃ (j : Nat) (f : Addr), j < n ∧ v = V.ref f ∧ LamAt X (fam j) f H1 ∧ TT (fun E H' Q' => tb j E σ H' Q') H1 Q) := h
    rw [e1] at h
    exact h
  obtain ⟨j, f, hj, rfl, hA, hTT⟩ := q
  obtain ⟨oc, od, dV, kV, doc, pm, an, cdv, ct, osl, rfl, lk, hcd2, hD, hK⟩ := F.ex
  have e0 : dV = .none := by
    rcases hD with ⟨_, z⟩ | ⟨z, _⟩
    · exact z
    · exact absurd rfl z
  subst e0
  obtain ⟨u, rfl, ru⟩ := vals1 r
  obtain rfl : u = Value.ref f := ru
  have rc : codeAny (model X.prog X.w) X.A (.call (.ref g) ⟨[.ref f], []⟩) (CR CX0 X.stack X.prog X.w H1 s1 Q E0) s1 := by
    refine run_ofS (N := Ng) (ps := [a]) (us := [.ref f]) (vs := [.ref f]) lk hcd2 Sg hr I1.env0 (.of_eq (hbg _ _ _ _ _ _ [.ref f] rfl)) (.cons rfl .nil) rfl fun hr' => ?_
    obtain ⟨t', ht', hq'⟩ := hG g cdv s1 f H1 Q (fun E H' Q' => tb j E σ H' Q') (fun HZ => LamAt X (fam j) f HZ)
      (fun W pn xe E p1 p2 tk => pe_act2 (i := 0) I1 (L j hj) (B j hj) tk hr' (fun A outer s H f c' hr2 => hbody j hj A outer s H E f c' hr2) hNg hva hd hcd) hA hTT
    exact ⟨t', ht'.nox, hq'⟩
  refine wpAny_call (codeAny_mono rc fun r s2 hq => ?_)
  cases r with
  | error e => exact (show False from hq).elim
  | ok fl =>
    cases fl with
    | ret u => exact I1.after hq
    | next => exact False.elim hq
    | brk => exact False.elim hq
    | cont => exact False.elim hq
theorem pss_ex {X : Cx} {st : List Stmt} {α : Type} {R : α → Prop} {t : α → TS} (h : ∀ z, R z → PSs X st (t z)) : PSs X st (fun D σ H => ∃ z, R z ∧ t z D σ H) :=
  ⟨fun pins s σ H D I ⟨z, hz, ht⟩ => (h z hz).run pins s σ H D I ht⟩
/-- the body of a try: the call alone -/
def tTry (f : Addr) (St : Hp → Prop) (tl : XK → Hp → VK → Prop) : WX → TS := fun W D σ H => ∃ E : XK, (∀ cls d H', E cls d H' → W cls d σ H') ∧ σ[0]? = some (some (.ref f)) ∧ St H ∧ tl E H (fun _ H1 => D.nx σ H1)
theorem pss_try {Z : Cx} {f : Addr} {St : Hp → Prop} {tl : XK → Hp → VK → Prop} {W : WX} {a : Str} {p1 p2 p3 : Pos}
    (act : ∀ E : XK, PE Z (.Call (.Name a p1) [] [] p2) (fun σZ HZ Q => σZ[0]? = some (some (.ref f)) ∧ St HZ ∧ (∀ cls d H', E cls d H' → W cls d σZ H') ∧ tl E HZ Q)) :
    PSs Z [.Expr (.Call (.Name a p1) [] [] p2) p3] (tTry f St tl W) := by
  refine ⟨fun pins s σ H D I ⟨E, hW, h1, h2, h3⟩ => ?_⟩
  exact (pss_one (ps_expr (pos := p3) (act E))).run pins s σ H D I ⟨h1, h2, hW, h3⟩
end
end WLam
namespace WLam
open PySem PySem.Spec PyProof.Rows L2 Evl WL LamX
section
variable {X : Cx}
theorem bindD_no {params : Arguments} {body : Expr} {scope : Scope} (h1 : ∀ (q : Str) (cl : List (Str × Addr)) (pm cv ct : Value), bindArgs (lfn q params body scope cl pm cv ct .none) ⟨[], []⟩ = pure []) (h2 : ∀ env : Env, defaultsOf params env = ([], [])) (h3 : params.kwonlyargs = []) :
    BindD ⟨params, body, scope, none⟩ := ⟨fun _ => h1, (fun _ _ z => by cases z), fun _ => h2, (fun _ _ z => by cases z), h3⟩
theorem bindD_one {params : Arguments} {body : Expr} {scope : Scope} {x : Str} {i : Int} (h0 : scope.names.lookup x = some .local)
    (h1 : ∀ (q : Str) (cl : List (Str × Addr)) (pm cv ct : Value) (t : Addr), ∃ k, bindArgs (lfn q params body scope cl pm cv ct (.ref t)) ⟨[], []⟩ = seqItems? (.ref t) >>= k ∧ ∀ v : Value, k (some [v].toArray) = pure [(x, v)])
    (k : Nat) (pos : Pos) (h2 : ∀ env : Env, defaultsOf params env = ([eval (.Constant (.int i) k pos) env], [])) (h3 : params.kwonlyargs = []) :
    BindD ⟨params, body, scope, some (x, i)⟩ := by
  refine ⟨fun z => (by cases z), fun y j z => ?_, fun z => (by cases z), fun y j z => ?_, h3⟩
  · cases z
    exact ⟨h0, h1⟩
  · cases z
    exact ⟨k, pos, h2⟩
/-- g(lambda: ..) -/
theorem pe_giveL {x a : Str} {st : Stmt} {Ng : List Str} {k : Nat} {T : List (Addr × Str)} {c P : Addr} {params : Arguments} {body : Expr} {scope : Scope} {dflt : Option (Str × Int)} {TT : (XK → Hp → VK → Prop) → Hp → VK → Prop} {tb : XK → TE} {p lpos pos : Pos}
    (D : DefAt X.K X.mg x st) (Sg : FnScope Ng [a] (defScope st)) (hNg : Ng[0]? = some a) (hva : Vis (defScope st) a)
    (hbg : ∀ (kV doc pm : Value) (an : Option Addr) (cdv ct : Value) (us : List Value), us.length = 1 → bindArgs (PySem.W.fnOf x x (defArgs st) (defBody st) (defScope st) .none kV doc pm an cdv ct) ⟨us, []⟩ = pure ([a].zip us))
    (hg : Gl X x) (hG : Gives2 X Ng x st a TT) (hr : Room (k + 2) X.A)
    (TB : TabB X.base X.mg c P) (hcode : X.env.code = .ref c) (hm : (P, lq X) ∈ T) (hu : ∀ p ∈ T, p.1 = P → p.2 = lq X)
    (L : LamS2 X.N X.env.scope scope) (B : BindD ⟨params, body, scope, dflt⟩)
    (hbody : ∀ (A : Around) (outer : List Env) (s : Shared) (H : Hp) (E : XK) (f c' : Addr), Room k (A.deeper (lamEnv X scope s.heap.objs.size f c')) → PE (lamCx X A outer s H E scope f c') body (tb E))
    (hdb : (x == ("__debug__" : Str)) = false := by decide) (hd : (a == ("__debug__" : Str)) = false := by decide) (hcd : (a == ("__classdict__" : Str)) = false := by decide)
    (hs : starEach [.Lambda params body scope lpos] X.env = (false, eval (.Lambda params body scope lpos) X.env) :: starEach [] X.env := by rfl) (hpl : (backTo pos (starEach [] X.env)).any (·.1) = false := by rfl) :
    PE X (.Call (.Name x p) [.Lambda params body scope lpos] [] pos) (tGive X (tMk X T ⟨params, body, scope, dflt⟩) 1 (fun _ => ⟨params, body, scope, dflt⟩) TT (fun _ => tb)) :=
  pe_give (n := 1) (fam := fun _ => ⟨params, body, scope, dflt⟩) (tb := fun _ => tb) D Sg hNg hva hbg hg hG hr (pe_lam (d := ⟨params, body, scope, dflt⟩) TB hcode hm hu L B) (fun _ _ => L) (fun _ _ => B)
    (fun _ _ A outer s H E f c' h => hbody A outer s H E f c' h) hdb hd hcd hs hpl
/-- its reading, where all of H is kept but the tables -/
theorem give_at {σ : L2.St} {H : Hp} {Q : VK} {T : List (Addr × Str)} {d : LamD} {TT : (XK → Hp → VK → Prop) → Hp → VK → Prop} {tb : Nat → XK → TE} (hT : Tabs T H)
    (h : ∀ H1, ExtN H H1 → Tabs T H1 → TT (fun E H' Q' => tb 0 E σ H' Q') H1 Q) : tGive X (tMk X T d) 1 (fun _ => d) TT tb σ H Q :=
  ⟨hT, fun f H1 x1 T1 _ hA => ⟨0, f, by decide, rfl, hA, h H1 x1 T1⟩⟩
end
end WLam
namespace WLam
open PySem PySem.Spec PyProof.Rows L2 Evl WL LamX
/-- an own error class, a direct one of WidthError's -/
structure Er (K : PySem.W.Frag) (mg : Str → Option Value) (x : Str) : Prop where
  g : mg x = some (.ref (He.ga K x))
  xc : PySem.W.excIn K (He.ga K x) He.veBase "ValueError.__new__" = true
  k : PySem.W.keepIn K (.ref (He.ga K x)) = true
  b : PySem.W.subIn K (.ref (He.ga K x)) (.type "BaseException") = some true
  t : PySem.W.typeIn K (.ref (He.ga K x)) = some (.type "type")
  c : ExcC K (He.ga K x)
  m : PySem.W.exmOne K (.ref (He.ga K x)) (.ref (He.ga K "WidthError")) = some true
theorem excCB_ok {K : PySem.W.Frag} {D : Addr} (h : excCB K D = true) : ExcC K D := by
  unfold excCB at h
  simp only [Bool.and_eq_true, decide_eq_true_eq] at h
  obtain ⟨h1, h2, h3, h4, h5, h6, h7, h8⟩ := h
  exact ⟨He.eqO_ok h1, He.eqO_ok h2, h3, h4, He.eqO_ok h5, He.eqO_ok h6, h7, h8⟩
theorem erB_ok {K : PySem.W.Frag} {h : Heap} {mg : Str → Option Value} (X : K.In h) (G : h.Ns mainGlobals mg) {x : Str} (g : (He.Fa.glo x).ok K = true) (e : erB K x = true) : Er K mg x := by
  unfold erB at e
  simp only [Bool.and_eq_true] at e
  obtain ⟨e1, e2, e3⟩ := e
  obtain ⟨a1, a2, a3, a4⟩ := He.exc_ok e1
  exact ⟨He.glo_ok X G g, a1, a2, a3, a4, excCB_ok e3, He.exm_ok e2⟩
/-- isinstance of one's own errors -/
def Kq (K : PySem.W.Frag) (x y : Str) (b : Bool) : Prop := PySem.W.kitOne K (.ref (He.ga K x)) (.ref (He.ga K y)) = some b
end WLam
namespace WLam
open PySem PySem.Spec PyProof.Rows L2 Evl WL LamX
section
variable {K : PySem.W.Frag} {r a : Addr} {ns : List Int} {H H' : Hp} {T : List (Addr × Str)}
theorem tabs_exb (R : RowOK K H r a ns) (t : Tabs T H) (e : ExB r H H') : Tabs T H' := fun p hp => by
  obtain ⟨ys, hr⟩ := R.is
  obtain ⟨ps, h1, h2, h3⟩ := t p hp
  refine ⟨ps, e _ _ (ne_of h1 hr (by intro z; cases z)) h1, h2, fun pos cv hc => ?_⟩
  obtain ⟨c, e1, e2⟩ := h3 pos cv hc
  exact ⟨c, e1, e _ _ (ne_of e2 hr (by unfold CodeO; intro z; cases z)) e2⟩
theorem rd_extN {b : Addr} {u : HO} (hu : ∀ ps, u ≠ .tbl ps) (e : ExtN H H') (h : Rd H b u) : Rd H' b u := by
  rcases h with h | ⟨o, h⟩
  · exact .inl (e _ _ h hu)
  · exact .inr ⟨o, e _ _ h fun ps z => by cases z⟩
theorem extN_l {b : Addr} {xs : List V} (e : ExtN H H') (h : SqL K H b xs) : SqL K H' b xs := by
  rcases h with h | h
  · exact .inl (rd_extN (fun ps z => by cases z) e h)
  · exact .inr h
theorem extN_t {b : Addr} {xs : List V} (e : ExtN H H') (h : SqT K H b xs) : SqT K H' b xs := by
  rcases h with h | h
  · exact .inl (rd_extN (fun ps z => by cases z) e h)
  · exact .inr h
theorem row_extN (R : RowOK K H r a ns) (e : ExtN H H') : RowOK K H' r a ns := by
  obtain ⟨p, s, t, h1, h2, h3, h⟩ := R.row
  exact ⟨⟨p, s, t, h1, h2, h3, e _ _ h fun ps z => by cases z⟩, extN_l e R.scr, R.len⟩
end
theorem flat_rv (x : Option Int) : flatV (rv x) = true := by cases x <;> rfl
end WLam
namespace WLam
open PySem PySem.Spec PyProof.Rows L2 Evl WL LamX
section
variable {s : L2.St} {H : Hp} {te : TE} {D : Ends} {tz : TS}
theorem seq_asg {i : Nat} (h : te s H fun v H1 => tz D (s.set i (some v)) H1) : tSeq (tAsg te (gName i)) tz D s H := h
theorem seq_asgG {g : TG} (h : te s H fun v H1 => g v s H1 fun s' H' => tz D s' H') : tSeq (tAsg te g) tz D s H := h
end
end WLam

/-! Numbers 2^w - 1 that are primes: each smaller number is coprime to them. -/
namespace WP
theorem pigeon : ∀ (m : Nat) (f : Nat → Nat), (∀ i, i < m → f i < m) → (∀ i j, i < m → j < m → f i = f j → i = j) →
    ∀ y, y < m → ∃ i, i < m ∧ f i = y := by
  intro m
  induction m with
  | zero => intro f _ _ y hy; omega
  | succ m ih =>
    intro f hf hi y hy
    by_cases hh : ∃ i, i < m + 1 ∧ f i = y
    · exact hh
    · exfalso
      have hn : ∀ i, i < m + 1 → f i ≠ y := fun i h e => hh ⟨i, h, e⟩
      have hv : ∀ i, i < m + 1 → (if f i = m then y else f i) < m := by
        intro i h
        have h1 := hf i h; have h2 := hn i h
        split <;> omega
      have hj : ∀ i j, i < m + 1 → j < m + 1 → (if f i = m then y else f i) = (if f j = m then y else f j) → i = j := by
        intro i j h1 h2 e
        have n1 := hn i h1; have n2 := hn j h2
        refine hi i j h1 h2 ?_
        split at e <;> split at e <;> omega
      obtain ⟨i, h1, h2⟩ := ih (fun i => if f i = m then y else f i) (fun i h => hv i (by omega)) (fun i j a b e => hj i j (by omega) (by omega) e) _ (hv m (by omega))
      have := hj i m (by omega) (by omega) h2
      omega
theorem one_of {g n a b : Nat} (h2 : 1 < n) (ha : g ^ a % n = 1) (k : Nat) : g ^ (a * k + b) % n = g ^ b % n := by
  rw [Nat.pow_add, Nat.pow_mul, Nat.mul_mod, Nat.pow_mod, ha, Nat.one_pow, Nat.mod_eq_of_lt h2, Nat.one_mul, Nat.mod_mod]
theorem one_gcd {g n : Nat} (h2 : 1 < n) (a b : Nat) : g ^ a % n = 1 → g ^ b % n = 1 → g ^ (Nat.gcd a b) % n = 1 := by
  induction a, b using Nat.gcd.induction with
  | H0 b => intro _ h; rw [Nat.gcd_zero_left]; exact h
  | H1 a b ha ih =>
    intro h3 h4
    rw [Nat.gcd_rec]
    refine ih ?_ h3
    have e := one_of (b := b % a) h2 h3 (b / a)
    rw [Nat.div_add_mod] at e
    rw [← e]; exact h4
def small (q : Nat) : Bool := decide (1 < q) && (List.range q).all (fun d => decide (d ≤ 1) || decide (q % d ≠ 0))
theorem small_cop {q e : Nat} (h : small q = true) (hd : ¬ q ∣ e) : Nat.Coprime e q := by
  unfold small at h
  simp only [Bool.and_eq_true, decide_eq_true_eq, List.all_eq_true, Bool.or_eq_true] at h
  obtain ⟨h1, h2⟩ := h
  have g1 := Nat.gcd_dvd_left e q
  have g2 := Nat.gcd_dvd_right e q
  have g3 := Nat.le_of_dvd (by omega) g2
  have g4 : 0 < Nat.gcd e q := Nat.gcd_pos_of_pos_right _ (by omega)
  by_cases e1 : Nat.gcd e q = q
  · rw [e1] at g1; exact absurd g1 hd
  · have := h2 (Nat.gcd e q) (List.mem_range.mpr (by omega))
    rcases this with h3 | h3
    · show Nat.gcd e q = 1; omega
    · exact absurd (Nat.mod_eq_zero_of_dvd g2) h3
theorem cop_prod {e : Nat} : ∀ (Q : List Nat), (∀ q ∈ Q, Nat.Coprime e q) → Nat.Coprime e (Q.foldr (· * ·) 1)
  | [], _ => by show Nat.gcd e 1 = 1; exact Nat.gcd_one_right e
  | q :: r, h => Nat.Coprime.mul_right (h q (List.mem_cons_self ..)) (cop_prod r (fun x hx => h x (List.mem_cons_of_mem _ hx)))
theorem lucas {n g N : Nat} (Q : List Nat) (h2 : 1 < n) (hN : n = N + 1) (hQ : Q.foldr (· * ·) 1 = N) (hs : ∀ q ∈ Q, small q = true)
    (h1 : g ^ N % n = 1) (hq : ∀ q ∈ Q, g ^ (N / q) % n ≠ 1) : ∀ a, 0 < a → a < n → Nat.Coprime a n := by
  have N1 : 0 < N := by omega
  have cg : Nat.Coprime g n := by
    have d1 := Nat.gcd_dvd_left g n
    have d2 := Nat.gcd_dvd_right g n
    have d3 : Nat.gcd g n ∣ g ^ N := Nat.dvd_trans d1 (Nat.dvd_of_pow_dvd (Nat.le_refl 1) (by rw [Nat.pow_one]; exact Nat.dvd_trans (Nat.dvd_refl g) (by obtain ⟨k, rfl⟩ : ∃ k, N = k + 1 := ⟨N - 1, by omega⟩; exact ⟨g ^ k, by rw [Nat.pow_succ, Nat.mul_comm]⟩)))
    have d4 : Nat.gcd g n ∣ g ^ N % n := (Nat.dvd_mod_iff d2).mpr d3
    rw [h1] at d4
    exact Nat.dvd_one.mp d4
  have cp : ∀ k, Nat.Coprime (g ^ k) n := fun k => Nat.Coprime.pow_left k cg
  have ord : ∀ t, 0 < t → t < N → g ^ t % n ≠ 1 := by
    intro t t0 t1 ht
    have hh := one_gcd h2 t N ht h1
    obtain ⟨h, hh'⟩ : ∃ h, h = Nat.gcd t N := ⟨_, rfl⟩
    rw [← hh'] at hh
    have hd : h ∣ N := hh' ▸ Nat.gcd_dvd_right t N
    have hl : h ≤ t := Nat.le_of_dvd t0 (hh' ▸ Nat.gcd_dvd_left t N)
    obtain ⟨e, he⟩ := hd
    have ce : Nat.Coprime e N := by
      have := cop_prod (e := e) Q (fun q hm => small_cop (hs q hm) (by
        intro hqe
        obtain ⟨e2, he2⟩ := hqe
        refine hq q hm ?_
        have q0 : 0 < q := by
          have := hs q hm; unfold small at this; simp only [Bool.and_eq_true, decide_eq_true_eq] at this; omega
        have : N / q = h * e2 + 0 := by
          rw [he, he2, Nat.mul_left_comm, Nat.mul_div_cancel_left _ q0, Nat.add_zero]
        rw [this, one_of h2 hh, Nat.pow_zero, Nat.mod_eq_of_lt h2]))
      rw [hQ] at this; exact this
    have e1 := Nat.Coprime.eq_one_of_dvd ce ⟨h, by rw [he, Nat.mul_comm]⟩
    rw [e1] at he; omega
  have inj : ∀ i j, i < j → j < N → g ^ i % n ≠ g ^ j % n := by
    intro i j hij hj e
    obtain ⟨t, rfl⟩ : ∃ t, j = i + t := ⟨j - i, by omega⟩
    have hle : 1 ≤ g ^ t := Nat.one_le_iff_ne_zero.mpr (by
      intro h0
      have := cp t
      rw [h0] at this
      have := Nat.gcd_zero_left n
      have e3 : Nat.gcd 0 n = 1 := by assumption
      omega)
    have hd : n ∣ g ^ i * (g ^ t - 1) := by
      rw [Nat.mul_sub, Nat.mul_one, ← Nat.pow_add]
      exact Nat.dvd_of_mod_eq_zero (Nat.sub_mod_eq_zero_of_mod_eq e.symm)
    have := Nat.Coprime.dvd_of_dvd_mul_left (cp i).symm hd
    obtain ⟨c, hc⟩ := this
    refine ord t (by omega) (by omega) ?_
    have : g ^ t = n * c + 1 := by omega
    rw [this, Nat.mul_add_mod, Nat.mod_eq_of_lt h2]
  have nz : ∀ k, 0 < g ^ k % n := by
    intro k
    refine Nat.pos_of_ne_zero (fun h => ?_)
    have d : n ∣ g ^ k := Nat.dvd_of_mod_eq_zero h
    have : Nat.gcd (g ^ k) n = n := Nat.gcd_eq_right d
    have e3 : Nat.gcd (g ^ k) n = 1 := cp k
    omega
  intro a a0 a1
  obtain ⟨k, hk, e⟩ := pigeon N (fun k => g ^ k % n - 1) (fun i _ => by
      have := Nat.mod_lt (g ^ i) (show 0 < n by omega); have := nz i; show g ^ i % n - 1 < N; omega)
    (fun i j hi hj e => by
      have e' : g ^ i % n - 1 = g ^ j % n - 1 := e
      have n1 := nz i; have n2 := nz j
      have e2 : g ^ i % n = g ^ j % n := by omega
      rcases Nat.lt_trichotomy i j with h | h | h
      · exact absurd e2 (inj i j h hj)
      · exact h
      · exact absurd e2.symm (inj j i h hi)) (a - 1) (by omega)
  have e' : g ^ k % n - 1 = a - 1 := e
  have n1 := nz k
  have ea : a = g ^ k % n := by omega
  show Nat.gcd a n = 1
  rw [ea, ← Nat.gcd_rec, Nat.gcd_comm]
  exact cp k
/-- powers by squares -/
def pm (n g : Nat) : Nat → Nat → Nat
  | 0, _ => 1 % n
  | t + 1, k => if k % 2 = 1 then (pm n g t (k / 2)) ^ 2 * g % n else (pm n g t (k / 2)) ^ 2 % n
theorem pm_eq (n g : Nat) : ∀ t k, k < 2 ^ t → pm n g t k = g ^ k % n
  | 0, k, h => by
    have : k = 0 := by simpa using h
    subst this; rfl
  | t + 1, k, h => by
    have ih := pm_eq n g t (k / 2) (by rw [Nat.pow_succ] at h; omega)
    have hk := Nat.div_add_mod k 2
    unfold pm
    split
    · rename_i h1
      rw [ih, Nat.mul_mod, ← Nat.pow_mod, ← Nat.pow_mul, ← Nat.mul_mod]
      rw [← Nat.pow_succ]
      congr 2; omega
    · rename_i h1
      rw [ih, ← Nat.pow_mod, ← Nat.pow_mul]
      congr 2; omega
def cert (n g : Nat) (Q : List Nat) : Bool :=
  decide (Q.foldr (· * ·) 1 = n - 1) && decide (1 < n) && decide (n < 2 ^ 64) && Q.all small && decide (pm n g 64 (n - 1) = 1) && Q.all (fun q => decide (pm n g 64 ((n - 1) / q) ≠ 1))
theorem cop_cert {n g : Nat} {Q : List Nat} (h : cert n g Q = true) : ∀ a, 0 < a → a < n → Nat.Coprime a n := by
  unfold cert at h
  simp only [Bool.and_eq_true, decide_eq_true_eq, List.all_eq_true] at h
  obtain ⟨⟨⟨⟨⟨h1, h2⟩, h3⟩, h4⟩, h5⟩, h6⟩ := h
  refine lucas (g := g) (N := n - 1) Q h2 (by omega) h1 h4 ?_ ?_
  · rw [← pm_eq n g 64 _ (by omega)]; exact h5
  · intro q hq
    have := Nat.div_le_self (n - 1) q
    rw [← pm_eq n g 64 _ (by omega)]; exact h6 q hq
theorem cop5 : ∀ a, 0 < a → a < 31 → Nat.Coprime a 31 := cop_cert (g := 3) (Q := [2, 3, 5]) (by decide +kernel)
theorem cop7 : ∀ a, 0 < a → a < 127 → Nat.Coprime a 127 := cop_cert (g := 3) (Q := [2, 3, 3, 7]) (by decide +kernel)
theorem cop13 : ∀ a, 0 < a → a < 8191 → Nat.Coprime a 8191 := cop_cert (g := 17) (Q := [2, 3, 3, 5, 7, 13]) (by decide +kernel)
theorem cop17 : ∀ a, 0 < a → a < 131071 → Nat.Coprime a 131071 := cop_cert (g := 3) (Q := [2, 3, 5, 17, 257]) (by decide +kernel)
theorem cop19 : ∀ a, 0 < a → a < 524287 → Nat.Coprime a 524287 := cop_cert (g := 3) (Q := [2, 3, 3, 3, 7, 19, 73]) (by decide +kernel)
theorem cop31 : ∀ a, 0 < a → a < 2147483647 → Nat.Coprime a 2147483647 := cop_cert (g := 7) (Q := [2, 3, 3, 7, 11, 31, 151, 331]) (by decide +kernel)
theorem cop61 : ∀ a, 0 < a → a < 2305843009213693951 → Nat.Coprime a 2305843009213693951 :=
  cop_cert (g := 37) (Q := [2, 3, 3, 5, 5, 7, 11, 13, 31, 41, 61, 151, 331, 1321]) (by decide +kernel)
def mers (w : Nat) : Bool := [2, 3, 5, 7, 13, 17, 19, 31, 61].contains w
theorem mers_cop {w : Nat} (h : mers w = true) (h4 : 4 ≤ w) : ∀ a, 0 < a → a < 2 ^ w - 1 → Nat.Coprime a (2 ^ w - 1) := by
  unfold mers at h
  simp only [List.contains_cons, List.contains_nil, Bool.or_false, Bool.or_eq_true, beq_iff_eq] at h
  rcases h with h | h | h | h | h | h | h | h | h
  · omega
  · omega
  · subst h; exact cop5
  · subst h; exact cop7
  · subst h; exact cop13
  · subst h; exact cop17
  · subst h; exact cop19
  · subst h; exact cop31
  · subst h; exact cop61
theorem cop5' : ∀ a, 0 < a → a < 7 → Nat.Coprime a 7 := cop_cert (g := 3) (Q := [2, 3]) (by decide +kernel)
/-- the product of two is a multiple only where one of them is -/
theorem mers_int {w : Nat} (h : mers w = true) (h4 : 4 ≤ w) {a b : Int} (ha : a ≠ 0) (hl : a.natAbs < 2 ^ w - 1)
    (hd : ((2 ^ w - 1 : Nat) : Int) ∣ a * b) : ((2 ^ w - 1 : Nat) : Int) ∣ b := by
  have c := mers_cop h h4 a.natAbs (by omega) hl
  have d : 2 ^ w - 1 ∣ a.natAbs * b.natAbs := by
    have := Int.natAbs_dvd_natAbs.mpr hd
    rw [Int.natAbs_mul] at this
    exact this
  have e := Nat.Coprime.dvd_of_dvd_mul_left (Nat.Coprime.symm c) d
  exact Int.natAbs_dvd_natAbs.mp e
end WP

/-! The rules of arithmetic in formats: when each holds, and what breaks it. -/
set_option maxHeartbeats 4000000
namespace WM
inductive Rl where
  | sumG | prodG | dist | dneg | diff | addB | divi | remR | negQ | shift | absV | ordD | monoS | aver | squa | zeroP | canc
  deriving DecidableEq
def Rl.ar : Rl → Nat
  | .sumG | .prodG | .dist | .monoS | .canc => 3
  | .dneg | .shift | .absV | .squa => 1
  | _ => 2
/-- an operation on two results -/
def op2 (f : Fmt) (g : Int → Int → Int) (x y : Option Int) : Option Int := match x, y with
  | some a, some b => fitR f (g a b)
  | _, _ => none
def addO (f : Fmt) (x y : Option Int) : Option Int := op2 f (· + ·) x y
def subO (f : Fmt) (x y : Option Int) : Option Int := op2 f (· - ·) x y
def mulO (f : Fmt) (x y : Option Int) : Option Int := op2 f (· * ·) x y
def divO (f : Fmt) (x y : Option Int) : Option Int := op2 f (quo f.dv) x y
def negO (f : Fmt) (x : Option Int) : Option Int := match x with
  | some a => fitR f (-a)
  | none => none
def remO (f : Fmt) (a b : Int) : Option Int := fitR f (a - b * quo f.dv a b)
def leO (x y : Option Int) : Bool := match x, y with
  | some a, some b => decide (a ≤ b)
  | _, _ => false
def ltO (x y : Option Int) : Bool := match x, y with
  | some a, some b => decide (a < b)
  | _, _ => false
/-- whether a rule holds for numbers -/
def ruleB (f : Fmt) (r : Rl) (a b c : Int) : Bool := match r with
  | .sumG => decide (addO f (addO f (some a) (some b)) (some c) = addO f (some a) (addO f (some b) (some c)))
  | .prodG => decide (mulO f (mulO f (some a) (some b)) (some c) = mulO f (some a) (mulO f (some b) (some c)))
  | .dist => decide (mulO f (some a) (addO f (some b) (some c)) = addO f (mulO f (some a) (some b)) (mulO f (some a) (some c)))
  | .dneg => decide (negO f (negO f (some a)) = some a)
  | .diff => decide (subO f (some a) (some b) = addO f (some a) (negO f (some b)))
  | .addB => decide (addO f (subO f (some a) (some b)) (some b) = some a)
  | .divi => decide (b = 0) || decide (addO f (mulO f (divO f (some a) (some b)) (some b)) (remO f a b) = some a)
  | .remR => decide (b = 0) || (leO (some 0) (remO f a b) && ltO (remO f a b) (some (b.natAbs : Int)))
  | .negQ => decide (b = 0) || decide (divO f (negO f (some a)) (some b) = negO f (divO f (some a) (some b)))
  | .shift => decide (divO f (some a) (some 2) = some (a.fdiv 2))
  | .absV => leO (some 0) (if 0 ≤ a then some a else negO f (some a))
  | .ordD => decide (subO f (some a) (some b) ≠ none) && (decide (a < b) == ltO (subO f (some a) (some b)) (some 0))
  | .monoS => decide (b < a) || leO (addO f (some a) (some c)) (addO f (some b) (some c))
  | .aver => decide (b < a) || (leO (some a) (addO f (some a) (divO f (subO f (some b) (some a)) (some 2))) &&
      leO (addO f (some a) (divO f (subO f (some b) (some a)) (some 2))) (some b))
  | .squa => leO (some 0) (mulO f (some a) (some a))
  | .zeroP => decide (a = 0) || decide (b = 0) || decide (mulO f (some a) (some b) ≠ some 0)
  | .canc => decide (a = 0) || decide (mulO f (some a) (some b) ≠ mulO f (some a) (some c)) || decide (b = c)
def isS (f : Fmt) : Bool := decide (f.sg = .sym)
def isT (f : Fmt) : Bool := decide (f.sg = .twos)
def isU (f : Fmt) : Bool := decide (f.sg = .uns)
def isSat (f : Fmt) : Bool := decide (f.ov = .sat)
def isTrap (f : Fmt) : Bool := decide (f.ov = .trap)
def isWrap (f : Fmt) : Bool := decide (f.ov = .wrap)
def isD (f : Fmt) (d : Dv) : Bool := decide (f.dv = d)
/-- whether a rule holds for all numbers, by the conditions -/
def holdsB (f : Fmt) : Rl → Bool
  | .sumG => isWrap f || isU f
  | .prodG => isWrap f || (isSat f && (isS f || isU f))
  | .dist => isWrap f || (isSat f && isU f)
  | .dneg => isS f || isWrap f
  | .diff => isS f || isWrap f
  | .addB => isWrap f
  | .divi => isWrap f || (isS f && isD f .zero) || (isU f && (isD f .floor || isD f .zero || isD f .euc))
  | .remR => isD f .euc || (isU f && (isD f .floor || isD f .zero || isSat f))
  | .negQ => (isS f && (isD f .zero || isD f .even)) || (isU f && isSat f) || (isU f && isTrap f && isD f .ceil)
  | .shift => isD f .floor || isD f .euc || (isU f && isD f .zero)
  | .absV => isS f || isU f || isSat f
  | .ordD => isSat f && (isS f || isT f)
  | .monoS => isSat f
  | .aver => isU f || isSat f
  | .squa => isSat f || (isU f && isWrap f)
  | .zeroP => isSat f || isTrap f || (isS f && WP.mers f.w)
  | .canc => isWrap f && isS f && WP.mers f.w

/-! ### fitting by kinds of overflow -/
def wr (f : Fmt) (e : Int) : Int := lo f + (e - lo f).fmod (many f)
def cl (f : Fmt) (e : Int) : Int := if e < lo f then lo f else if hi f < e then hi f else e
theorem fitR_out {f : Fmt} {e : Int} (h : ¬ fits f e) : fitR f e = match f.ov with
    | .wrap => some (lo f + (e - lo f).fmod (many f))
    | .sat => some (if e < lo f then lo f else hi f)
    | .trap => none := if_neg h
theorem wr_id {f : Fmt} {x : Int} (h : fits f x) : wr f x = x := by
  have F := facts f
  obtain ⟨h1, h2⟩ := h
  unfold wr
  rw [Int.fmod_eq_emod_of_nonneg _ (show 0 ≤ many f by omega), Int.emod_eq_of_lt (by omega) (by omega)]
  omega
theorem fitW {f : Fmt} (h : f.ov = .wrap) (e : Int) : fitR f e = some (wr f e) := by
  by_cases hf : fits f e
  · rw [fitR_in hf, wr_id hf]
  · rw [fitR_out hf, h]; rfl
theorem fitS {f : Fmt} (h : f.ov = .sat) (e : Int) : fitR f e = some (cl f e) := by
  have F := facts f
  by_cases hf : fits f e
  · rw [fitR_in hf]; obtain ⟨h1, h2⟩ := hf
    unfold cl; rw [if_neg (by omega), if_neg (by omega)]
  · rw [fitR_out hf, h]; simp only []
    unfold cl; unfold fits at hf
    congr 1
    split
    · rfl
    · rw [if_pos (by omega)]
theorem fitT {f : Fmt} (h : f.ov = .trap) (e : Int) : fitR f e = if lo f ≤ e ∧ e ≤ hi f then some e else none := by
  by_cases hf : fits f e
  · rw [fitR_in hf]; exact (if_pos hf).symm
  · rw [fitR_out hf, h]; exact (if_neg hf).symm
theorem wr_mod (f : Fmt) (e : Int) : ∃ k : Int, e = wr f e + many f * k := by
  refine ⟨(e - lo f).fdiv (many f), ?_⟩
  have := Int.mul_fdiv_add_fmod (e - lo f) (many f)
  unfold wr; omega
theorem wr_fits (f : Fmt) (e : Int) : lo f ≤ wr f e ∧ wr f e ≤ hi f := by
  have F := facts f
  have h1 := Int.fmod_nonneg_of_pos (e - lo f) (show 0 < many f by omega)
  have h2 := Int.fmod_lt_of_pos (e - lo f) (show 0 < many f by omega)
  unfold wr; omega
theorem wr_eq {f : Fmt} {x y k : Int} (h : x = y + many f * k) : wr f x = wr f y := by
  unfold wr
  have : x - lo f = (y - lo f) + many f * k := by omega
  rw [this, Int.add_mul_fmod_self_left]
theorem wr_addl (f : Fmt) (x y : Int) : wr f (wr f x + y) = wr f (x + y) := by
  obtain ⟨k, hk⟩ := wr_mod f x
  exact (wr_eq (k := k) (by omega)).symm
theorem wr_addr (f : Fmt) (x y : Int) : wr f (x + wr f y) = wr f (x + y) := by
  obtain ⟨k, hk⟩ := wr_mod f y
  exact (wr_eq (k := k) (by omega)).symm
theorem wr_mull (f : Fmt) (x y : Int) : wr f (wr f x * y) = wr f (x * y) := by
  obtain ⟨k, hk⟩ := wr_mod f x
  refine (wr_eq (k := k * y) ?_).symm
  generalize wr f x = z at hk
  subst hk
  rw [Int.add_mul, Int.mul_assoc]
theorem wr_mulr (f : Fmt) (x y : Int) : wr f (x * wr f y) = wr f (x * y) := by
  rw [Int.mul_comm, wr_mull, Int.mul_comm]
theorem wr_neg (f : Fmt) (x : Int) : wr f (- wr f x) = wr f (-x) := by
  obtain ⟨k, hk⟩ := wr_mod f x
  refine (wr_eq (k := -k) ?_).symm
  rw [Int.mul_neg]; omega
/-- the numbers by signs -/
theorem sgn (f : Fmt) : (isS f = true → lo f = - hi f ∧ f.sg = .sym) ∧ (isT f = true → lo f = - hi f - 1 ∧ f.sg = .twos) ∧ (isU f = true → lo f = 0 ∧ f.sg = .uns) ∧
    (isS f = true ∨ isT f = true ∨ isU f = true) ∧ (lo f = - hi f ∨ lo f = - hi f - 1 ∨ lo f = 0) := by
  obtain ⟨w, sg, ov, dv, l1, l2⟩ := f
  cases sg <;> (simp [isS, isT, isU, lo, hi, bnd]; try omega)
/-- quotients by exact sizes -/
theorem quo_spec (d : Dv) (a b : Int) (hb : b ≠ 0) : ∃ s t r u : Int, (a.natAbs : Int) = t + r ∧ 0 ≤ r ∧ r < b.natAbs ∧ 0 ≤ s ∧ s ≤ t ∧ t = s * b.natAbs ∧
    (1 < (b.natAbs : Int) → 2 * s ≤ t) ∧ (u = 0 ∨ u = 1) ∧ (r = 0 → u = 0) ∧ (r ≠ 0 → u = if qup d a b r s then 1 else 0) ∧
    ((decide (a < 0) != decide (b < 0)) = true → quo d a b = -(s + u)) ∧ ((decide (a < 0) != decide (b < 0)) = false → quo d a b = s + u) ∧
    (0 ≤ a → b * quo d a b = t + u * b.natAbs) ∧ (a < 0 → b * quo d a b = - (t + u * b.natAbs)) := by
  have n0 : 0 < (b.natAbs : Int) := by omega
  obtain ⟨n, hn⟩ : ∃ n : Int, n = b.natAbs := ⟨_, rfl⟩
  obtain ⟨m, hm⟩ : ∃ m : Int, m = a.natAbs := ⟨_, rfl⟩
  rw [← hn] at n0
  have m0 : 0 ≤ m := by omega
  have q := (quoS_eq d a b hb).symm
  unfold quoS at q
  simp only [← hn, ← hm] at q
  have h1 := Int.mul_fdiv_self_le (x := m) n0
  have h2 := Int.lt_mul_fdiv_self_add (x := m) n0
  have h3 : 0 ≤ m.fdiv n := Int.fdiv_nonneg m0 (by omega)
  have c : m.fdiv n * n = n * m.fdiv n := Int.mul_comm _ _
  rw [c] at q
  obtain ⟨s, hs⟩ : ∃ s, s = m.fdiv n := ⟨_, rfl⟩
  rw [← hs] at q h1 h2 h3
  obtain ⟨t, ht⟩ : ∃ t, t = n * s := ⟨_, rfl⟩
  have hst : s ≤ t := by
    have := Int.mul_le_mul_of_nonneg_right (show 1 ≤ n by omega) h3
    omega
  have h2s : 1 < n → 2 * s ≤ t := by
    intro h
    have := Int.mul_le_mul_of_nonneg_right (show 2 ≤ n by omega) h3
    omega
  rw [← ht] at q h1 h2
  obtain ⟨u, hu⟩ : ∃ u : Int, u = if m - t = 0 then 0 else if qup d a b (m - t) s then 1 else 0 := ⟨_, rfl⟩
  have u01 : u = 0 ∨ u = 1 := by rw [hu]; split <;> (try split) <;> simp
  have qv : quo d a b = if (decide (a < 0) != decide (b < 0)) = true then -(s + u) else s + u := by
    rw [q, hu]
    split
    · split <;> omega
    · split
      · split
        · omega
        · omega
      · split
        · omega
        · omega
  have pr : n * (s + u) = t + u * n := by rw [Int.mul_add, ← ht, Int.mul_comm n u]
  refine ⟨s, t, m - t, u, by omega, by omega, by omega, h3, hst, by rw [ht, Int.mul_comm, hn], by rw [← hn]; exact h2s, u01, ?_, ?_, ?_, ?_, ?_, ?_⟩
  · intro h; rw [hu, if_pos h]
  · intro h; rw [hu, if_neg h]
  · intro h; rw [qv, if_pos h]
  · intro h; rw [qv, h]; simp
  · intro ha
    have e1 : decide (a < 0) = false := by simp; omega
    rw [qv, e1]
    by_cases hb2 : b < 0
    · have e2 : decide (b < 0) = true := by simp; omega
      have e3 : b = -n := by omega
      rw [e2, ← hn, e3]
      show -n * (if (false != true) = true then -(s + u) else s + u) = _
      rw [if_pos (by decide), Int.neg_mul_neg, pr]
    · have e2 : decide (b < 0) = false := by simp; omega
      have e3 : b = n := by omega
      rw [e2, ← hn, e3]
      show n * (if (false != false) = true then -(s + u) else s + u) = _
      rw [if_neg (by decide), pr]
  · intro ha
    have e1 : decide (a < 0) = true := by simp; omega
    rw [qv, e1]
    by_cases hb2 : b < 0
    · have e2 : decide (b < 0) = true := by simp; omega
      have e3 : b = -n := by omega
      rw [e2, ← hn, e3]
      show -n * (if (true != true) = true then -(s + u) else s + u) = _
      rw [if_neg (by decide), Int.neg_mul, pr]
    · have e2 : decide (b < 0) = false := by simp; omega
      have e3 : b = n := by omega
      rw [e2, ← hn, e3]
      show n * (if (true != false) = true then -(s + u) else s + u) = _
      rw [if_pos (by decide), Int.mul_neg, pr]
theorem quo_zero (d : Dv) (b : Int) (hb : b ≠ 0) : quo d 0 b = 0 := by
  obtain ⟨s, t, r, u, h1, h2, h3, h4, h5, _, _, h6, h7, h8, h9, h10, _, _⟩ := quo_spec d 0 b hb
  have z : ((0 : Int).natAbs : Int) = 0 := rfl
  have := h7 (by omega)
  cases hc : (decide ((0 : Int) < 0) != decide (b < 0))
  · have := h10 hc; omega
  · have := h9 hc; omega
theorem quo_le (d : Dv) (a b : Int) (hb : b ≠ 0) : -(a.natAbs : Int) ≤ quo d a b ∧ quo d a b ≤ a.natAbs := by
  obtain ⟨s, t, r, u, h1, h2, h3, h4, h5, _, h11, h6, h7, h8, h9, h10, _, _⟩ := quo_spec d a b hb
  have : s + u ≤ a.natAbs := by
    by_cases hr : r = 0
    · have := h7 hr; omega
    · have := h11 (by omega); omega
  cases hc : (decide (a < 0) != decide (b < 0))
  · have := h10 hc; omega
  · have := h9 hc; omega
/-- quotients of numbers that are not negative -/
theorem quo_nn (d : Dv) {a b : Int} (ha : 0 ≤ a) (hb : 0 < b) : ∃ s t r u : Int, a = t + r ∧ 0 ≤ r ∧ r < b ∧ 0 ≤ s ∧ s ≤ t ∧ t = s * b ∧ (1 < b → 2 * s ≤ t) ∧
    (u = 0 ∨ u = 1) ∧ (r = 0 → u = 0) ∧ (d = .floor → u = 0) ∧ (d = .zero → u = 0) ∧ (d = .euc → u = 0) ∧ (d = .ceil → r ≠ 0 → u = 1) ∧
    quo d a b = s + u ∧ b * quo d a b = t + u * b := by
  obtain ⟨s, t, r, u, h1, h2, h3, h4, h5, h6, h7, h8, h9, h10, h11, h12, h13, h14⟩ := quo_spec d a b (by omega)
  have eb : (b.natAbs : Int) = b := by omega
  have ea : (a.natAbs : Int) = a := by omega
  rw [eb] at h3 h6 h7 h13
  rw [ea] at h1
  have d1 : decide (a < 0) = false := by simp; omega
  have d2 : decide (b < 0) = false := by simp; omega
  refine ⟨s, t, r, u, h1, h2, h3, h4, h5, h6, h7, h8, h9, ?_, ?_, ?_, ?_, h12 (by rw [d1, d2]; rfl), h13 ha⟩
  · intro e; subst e
    by_cases hr : r = 0
    · exact h9 hr
    · have := h10 hr; simp [qup, d1, d2] at this; exact this
  · intro e; subst e
    by_cases hr : r = 0
    · exact h9 hr
    · have := h10 hr; simp [qup] at this; exact this
  · intro e; subst e
    by_cases hr : r = 0
    · exact h9 hr
    · have := h10 hr; simp [qup, d1] at this; omega
  · intro e hr; subst e
    have := h10 hr; simp [qup, d1, d2] at this; exact this
end WM

/-! The rules that hold. -/
set_option maxHeartbeats 4000000
namespace WM
theorem fitN {f : Fmt} (h : f.ov = .trap) {e : Int} (hf : ¬ fits f e) : fitR f e = none := by
  rw [fitR_out hf, h]
theorem sg3 {f : Fmt} : (isS f = true → lo f = - hi f) ∧ (isT f = true → lo f = - hi f - 1) ∧ (isU f = true → lo f = 0) := by
  obtain ⟨h1, h2, h3, _⟩ := sgn f
  exact ⟨fun h => (h1 h).1, fun h => (h2 h).1, fun h => (h3 h).1⟩
theorem hw_ {f : Fmt} (h : isWrap f = true) : f.ov = .wrap := of_decide_eq_true h
theorem hs_ {f : Fmt} (h : isSat f = true) : f.ov = .sat := of_decide_eq_true h
theorem ht_ {f : Fmt} (h : isTrap f = true) : f.ov = .trap := of_decide_eq_true h
theorem hd_ {f : Fmt} {d : Dv} (h : isD f d = true) : f.dv = d := of_decide_eq_true h
theorem ov3 (f : Fmt) : f.ov = .sat ∨ f.ov = .trap ∨ f.ov = .wrap := by cases f.ov <;> simp
theorem h_sumG {f : Fmt} {a b c : Int} (h : holdsB f .sumG = true) (ha : fits f a) (hb : fits f b) (hc : fits f c) : ruleB f .sumG a b c = true := by
  simp only [holdsB, Bool.or_eq_true] at h
  refine decide_eq_true ?_
  have F := facts f
  rcases h with h | h
  · simp only [addO, op2, fitW (hw_ h), wr_addl, wr_addr, Int.add_assoc]
  · have U := sg3.2.2 h
    unfold fits at ha hb hc
    rcases ov3 f with o | o | o
    · simp only [addO, op2, fitS o, cl]
      congr 1
      repeat' split
      all_goals omega
    · by_cases h1 : fits f (a + b) <;> by_cases h2 : fits f (b + c) <;> by_cases h3 : fits f (a + b + c) <;>
        have h4 := h3 <;> rw [Int.add_assoc] at h4 <;>
        simp only [addO, op2, fitR_in, fitN o, h1, h2, h3, h4, not_false_eq_true] <;> first | (congr 1; omega) | (exfalso; unfold fits at *; omega)
    · simp only [addO, op2, fitW o, wr_addl, wr_addr, Int.add_assoc]
theorem cl_mul {f : Fmt} (hs : lo f = - hi f ∨ lo f = 0) {x y : Int} (hx : lo f = 0 → 0 ≤ x ∧ 0 ≤ y) : cl f (cl f x * y) = cl f (x * y) := by
  have F := facts f
  by_cases y0 : y = 0
  · subst y0; simp
  by_cases h1 : x < lo f
  · have e : cl f x = lo f := by unfold cl; rw [if_pos h1]
    rw [e]
    rcases hs with s | s
    · by_cases hy : 0 < y
      · have g1 : lo f * y ≤ lo f * 1 := Int.mul_le_mul_of_nonpos_left (by omega) (by omega)
        have g2 : x * y ≤ x * 1 := Int.mul_le_mul_of_nonpos_left (by omega) (by omega)
        unfold cl; repeat' split
        all_goals omega
      · have g1 : lo f * (-1) ≤ lo f * y := Int.mul_le_mul_of_nonpos_left (by omega) (by omega)
        have g2 : x * (-1) ≤ x * y := Int.mul_le_mul_of_nonpos_left (by omega) (by omega)
        unfold cl; repeat' split
        all_goals omega
    · have := hx s; omega
  by_cases h2 : hi f < x
  · have e : cl f x = hi f := by unfold cl; rw [if_neg h1, if_pos h2]
    rw [e]
    by_cases hy : 0 < y
    · have g1 : hi f * 1 ≤ hi f * y := Int.mul_le_mul_of_nonneg_left (by omega) (by omega)
      have g2 : x * 1 ≤ x * y := Int.mul_le_mul_of_nonneg_left (by omega) (by omega)
      unfold cl; repeat' split
      all_goals omega
    · rcases hs with s | s
      · have g1 : hi f * y ≤ hi f * (-1) := Int.mul_le_mul_of_nonneg_left (by omega) (by omega)
        have g2 : x * y ≤ x * (-1) := Int.mul_le_mul_of_nonneg_left (by omega) (by omega)
        unfold cl; repeat' split
        all_goals omega
      · have := hx s; omega
  · have e : cl f x = x := by unfold cl; rw [if_neg h1, if_neg h2]
    rw [e]
theorem h_prodG {f : Fmt} {a b c : Int} (h : holdsB f .prodG = true) (ha : fits f a) (hb : fits f b) (hc : fits f c) : ruleB f .prodG a b c = true := by
  simp only [holdsB, Bool.or_eq_true, Bool.and_eq_true] at h
  refine decide_eq_true ?_
  have F := facts f
  rcases h with h | ⟨h, g⟩
  · simp only [mulO, op2, fitW (hw_ h), wr_mull, wr_mulr, Int.mul_assoc]
  · simp only [mulO, op2, fitS (hs_ h)]
    have hs : lo f = - hi f ∨ lo f = 0 := by
      rcases g with g | g
      · exact Or.inl (sg3.1 g)
      · exact Or.inr (sg3.2.2 g)
    unfold fits at ha hb hc
    rw [cl_mul hs (fun z => ⟨Int.mul_nonneg (by omega) (by omega), by omega⟩), Int.mul_comm a (cl f _), cl_mul hs (fun z => ⟨Int.mul_nonneg (by omega) (by omega), by omega⟩), Int.mul_assoc, Int.mul_comm (b * c) a]
theorem h_dist {f : Fmt} {a b c : Int} (h : holdsB f .dist = true) (ha : fits f a) (hb : fits f b) (hc : fits f c) : ruleB f .dist a b c = true := by
  simp only [holdsB, Bool.or_eq_true, Bool.and_eq_true] at h
  refine decide_eq_true ?_
  have F := facts f
  rcases h with h | ⟨h, g⟩
  · simp only [addO, mulO, op2, fitW (hw_ h), wr_mull, wr_mulr, wr_addl, wr_addr, Int.mul_add]
  · simp only [addO, mulO, op2, fitS (hs_ h)]
    have U := sg3.2.2 g
    unfold fits at ha hb hc
    rw [Int.mul_comm a (cl f _), cl_mul (Or.inr U) (fun z => ⟨by omega, by omega⟩), Int.mul_comm _ a, Int.mul_add]
    have g1 : 0 ≤ a * b := Int.mul_nonneg (by omega) (by omega)
    have g2 : 0 ≤ a * c := Int.mul_nonneg (by omega) (by omega)
    generalize a * b = x at *
    generalize a * c = y at *
    congr 1
    unfold cl
    repeat' split
    all_goals omega
theorem neg_fits {f : Fmt} (h : isS f = true) {a : Int} (ha : fits f a) : fits f (-a) := by
  have := sg3.1 h; unfold fits at *; omega
theorem h_dneg {f : Fmt} {a b c : Int} (h : holdsB f .dneg = true) (ha : fits f a) : ruleB f .dneg a b c = true := by
  simp only [holdsB, Bool.or_eq_true] at h
  refine decide_eq_true ?_
  rcases h with h | h
  · simp only [negO, fitR_in (neg_fits h ha), Int.neg_neg, fitR_in ha]
  · simp only [negO, fitW (hw_ h), wr_neg, Int.neg_neg, wr_id ha]
theorem h_diff {f : Fmt} {a b c : Int} (h : holdsB f .diff = true) (ha : fits f a) (hb : fits f b) : ruleB f .diff a b c = true := by
  simp only [holdsB, Bool.or_eq_true] at h
  refine decide_eq_true ?_
  rcases h with h | h
  · simp only [subO, addO, op2, negO, fitR_in (neg_fits h hb), Int.sub_eq_add_neg]
  · simp only [subO, addO, op2, negO, fitW (hw_ h), wr_addr, Int.sub_eq_add_neg]
theorem h_addB {f : Fmt} {a b c : Int} (h : holdsB f .addB = true) (ha : fits f a) (hb : fits f b) : ruleB f .addB a b c = true := by
  simp only [holdsB] at h
  refine decide_eq_true ?_
  simp only [subO, addO, op2, fitW (hw_ h), wr_addl, Int.sub_add_cancel, wr_id ha]
theorem h_divi {f : Fmt} {a b c : Int} (h : holdsB f .divi = true) (ha : fits f a) (hb : fits f b) : ruleB f .divi a b c = true := by
  simp only [holdsB, Bool.or_eq_true, Bool.and_eq_true] at h
  unfold ruleB
  by_cases b0 : b = 0
  · rw [decide_eq_true b0]; rfl
  rw [decide_eq_false b0, Bool.false_or]
  refine decide_eq_true ?_
  have F := facts f
  have key : quo f.dv a b * b + (a - b * quo f.dv a b) = a := by rw [Int.mul_comm b]; omega
  rcases h with (h | ⟨h, g⟩) | ⟨h, g⟩
  · simp only [addO, mulO, divO, remO, op2, fitW (hw_ h), wr_mull, wr_addl, wr_addr, key, wr_id ha]
  · have S := sg3.1 h
    have Q := quo_le f.dv a b b0
    obtain ⟨s, t, r, u, h1, h2, h3, h4, h5, h6, h7, h8, h9, h10, h11, h12, h13, h14⟩ := quo_spec f.dv a b b0
    unfold fits at ha hb
    have u0 : u = 0 := by
      by_cases hr : r = 0
      · exact h9 hr
      · have := h10 hr; rw [hd_ g] at this; simpa [qup] using this
    subst u0
    rw [Int.zero_mul] at h13 h14
    have m1 : fits f (b * quo f.dv a b) := by
      unfold fits
      by_cases a0 : 0 ≤ a
      · have := h13 a0; omega
      · have := h14 (by omega); omega
    have m2 : fits f (a - b * quo f.dv a b) := by
      unfold fits
      by_cases a0 : 0 ≤ a
      · have := h13 a0; omega
      · have := h14 (by omega); omega
    have m0 : fits f (quo f.dv a b) := by unfold fits; omega
    rw [Int.mul_comm] at m1
    simp only [addO, mulO, divO, remO, op2, fitR_in m0, fitR_in m1, fitR_in m2, key, fitR_in ha]
  · have U := sg3.2.2 h
    unfold fits at ha hb
    have Q := quo_le f.dv a b b0
    obtain ⟨s, t, r, u, h1, h2, h3, h4, h5, h6, h7, h8, h9, h10, h11, h12, h13, h14, h15⟩ := quo_nn f.dv (show 0 ≤ a by omega) (show 0 < b by omega)
    have u0 : u = 0 := by
      rcases g with (g | g) | g
      · exact h10 (hd_ g)
      · exact h11 (hd_ g)
      · exact h12 (hd_ g)
    subst u0
    rw [Int.zero_mul] at h15
    have m1 : fits f (b * quo f.dv a b) := by unfold fits; omega
    have m2 : fits f (a - b * quo f.dv a b) := by unfold fits; omega
    have m0 : fits f (quo f.dv a b) := by unfold fits; omega
    rw [Int.mul_comm] at m1
    simp only [addO, mulO, divO, remO, op2, fitR_in m0, fitR_in m1, fitR_in m2, key, fitR_in ha]
theorem leO_s {a b : Int} (h : a ≤ b) : leO (some a) (some b) = true := decide_eq_true h
theorem ltO_s {a b : Int} (h : a < b) : ltO (some a) (some b) = true := decide_eq_true h
theorem h_remR {f : Fmt} {a b c : Int} (h : holdsB f .remR = true) (ha : fits f a) (hb : fits f b) : ruleB f .remR a b c = true := by
  simp only [holdsB, Bool.or_eq_true, Bool.and_eq_true] at h
  unfold ruleB
  by_cases b0 : b = 0
  · rw [decide_eq_true b0]; rfl
  rw [decide_eq_false b0, Bool.false_or]
  have F := facts f
  obtain ⟨-, -, -, S1, S2⟩ := sgn f
  rcases h with h | ⟨h, g⟩
  · have e : 0 ≤ a - b * quo f.dv a b ∧ a - b * quo f.dv a b < b.natAbs := by
      rw [hd_ h]
      unfold quo
      by_cases hp : 0 < b
      · simp only [if_pos hp]
        have h1 := Int.mul_fdiv_self_le (x := a) hp
        have h2 := Int.lt_mul_fdiv_self_add (x := a) hp
        omega
      · simp only [if_neg hp]
        have hn : 0 < -b := by omega
        have h1 := Int.mul_fdiv_self_le (x := a) hn
        have h2 := Int.lt_mul_fdiv_self_add (x := a) hn
        rw [Int.neg_mul] at h1 h2
        rw [Int.mul_neg]
        omega
    have m : fits f (a - b * quo f.dv a b) := by unfold fits at *; omega
    simp only [remO, fitR_in m, leO_s e.1, ltO_s e.2, Bool.and_self]; rfl
  · have U := sg3.2.2 h
    unfold fits at ha hb
    obtain ⟨s, t, r, u, h1, h2, h3, h4, h5, h6, h7, h8, h9, h10, h11, h12, h13, h14, h15⟩ := quo_nn f.dv (show 0 ≤ a by omega) (show 0 < b by omega)
    have e : ∃ z, remO f a b = some z ∧ 0 ≤ z ∧ z < b.natAbs := by
      rcases g with g | g
      · have u0 : u = 0 := by
          rcases g with g | g
          · exact h10 (hd_ g)
          · exact h11 (hd_ g)
        subst u0
        rw [Int.zero_mul] at h15
        exact ⟨_, fitR_in (by unfold fits; omega), by omega, by omega⟩
      · refine ⟨_, fitS (hs_ g) _, ?_⟩
        rcases h8 with u0 | u0
        · subst u0; rw [Int.zero_mul] at h15
          unfold cl; rw [if_neg (by omega), if_neg (by omega)]; omega
        · subst u0; rw [Int.one_mul] at h15
          unfold cl
          by_cases hz : a - b * quo f.dv a b < lo f
          · rw [if_pos hz]; omega
          · rw [if_neg hz, if_neg (by omega)]; omega
    obtain ⟨z, e1, e2, e3⟩ := e
    rw [e1, leO_s e2, ltO_s e3]; rfl
theorem h_negQ {f : Fmt} {a b c : Int} (h : holdsB f .negQ = true) (ha : fits f a) (hb : fits f b) : ruleB f .negQ a b c = true := by
  simp only [holdsB, Bool.or_eq_true, Bool.and_eq_true] at h
  unfold ruleB
  by_cases b0 : b = 0
  · rw [decide_eq_true b0]; rfl
  rw [decide_eq_false b0, Bool.false_or]
  refine decide_eq_true ?_
  have F := facts f
  rcases h with (⟨h, g⟩ | ⟨h, g⟩) | ⟨⟨h, g⟩, gd⟩
  · have S := sg3.1 h
    have Q := quo_le f.dv a b b0
    have Q2 := quo_le f.dv (-a) b b0
    have e : quo f.dv (-a) b = - quo f.dv a b := by
      rw [← quoS_eq _ _ _ b0, ← quoS_eq _ _ _ b0]
      by_cases a0 : a = 0
      · subst a0
        rw [quoS_eq _ _ _ b0, quoS_eq _ _ _ b0, show (-0 : Int) = 0 from rfl, quo_zero _ _ b0]; rfl
      have n1 : (-a).natAbs = a.natAbs := Int.natAbs_neg a
      have n2 : decide (-a < 0) = ! decide (a < 0) := by
        by_cases a1 : a < 0
        · rw [decide_eq_true a1]; exact decide_eq_false (by omega)
        · rw [decide_eq_false a1]; exact decide_eq_true (by omega)
      have n3 : ∀ l s, qup f.dv (-a) b l s = qup f.dv a b l s := by
        intro l s
        rcases g with g | g <;> rw [hd_ g] <;> rfl
      unfold quoS
      simp only [n1, n2, n3]
      cases decide (a < 0) <;> cases decide (b < 0) <;> simp only [Bool.not_true, Bool.not_false] <;> (repeat' split) <;> simp_all
    have m1 : fits f (-a) := neg_fits h ha
    unfold fits at ha
    have m2 : fits f (quo f.dv a b) := by unfold fits; omega
    have m3 : fits f (- quo f.dv a b) := neg_fits h m2
    simp only [divO, negO, op2, fitR_in m1, fitR_in m2, e]
  · have U := sg3.2.2 h
    unfold fits at ha hb
    obtain ⟨s, t, r, u, h1, h2, h3, h4, h5, h6, h7, h8, h9, h10, h11, h12, h13, h14, h15⟩ := quo_nn f.dv (show 0 ≤ a by omega) (show 0 < b by omega)
    have Q := quo_le f.dv a b b0
    simp only [divO, negO, op2, fitS (hs_ g)]
    have c1 : cl f (-a) = 0 := by unfold cl; (repeat' split) <;> omega
    have c2 : cl f (quo f.dv a b) = quo f.dv a b := by unfold cl; (repeat' split) <;> omega
    have c3 : cl f (- quo f.dv a b) = 0 := by unfold cl; (repeat' split) <;> omega
    have c4 : cl f 0 = 0 := by unfold cl; (repeat' split) <;> omega
    rw [c1, c2, c3, quo_zero _ _ b0, c4]
  · have U := sg3.2.2 h
    unfold fits at ha hb
    obtain ⟨s, t, r, u, h1, h2, h3, h4, h5, h6, h7, h8, h9, h10, h11, h12, h13, h14, h15⟩ := quo_nn f.dv (show 0 ≤ a by omega) (show 0 < b by omega)
    have Q := quo_le f.dv a b b0
    have m2 : fits f (quo f.dv a b) := by unfold fits; omega
    simp only [divO, negO, op2, fitR_in m2]
    by_cases a0 : a = 0
    · subst a0
      have m0 : fits f 0 := by unfold fits; omega
      rw [show (-0 : Int) = 0 from rfl, fitR_in m0, quo_zero _ _ b0, show (-0 : Int) = 0 from rfl]
      simp only [fitR_in m0, quo_zero _ _ b0]
    · have q1 : 1 ≤ quo f.dv a b := by
        by_cases r0 : r = 0
        · have : s ≠ 0 := by intro e; subst e; rw [Int.zero_mul] at h6; omega
          omega
        · have := h13 (hd_ gd) r0; omega
      rw [fitN (ht_ g) (show ¬ fits f (-a) by unfold fits; omega), fitN (ht_ g) (show ¬ fits f (-quo f.dv a b) by unfold fits; omega)]
theorem h_shift {f : Fmt} {a b c : Int} (h : holdsB f .shift = true) (ha : fits f a) : ruleB f .shift a b c = true := by
  simp only [holdsB, Bool.or_eq_true, Bool.and_eq_true] at h
  refine decide_eq_true ?_
  have F := facts f
  have e : quo f.dv a 2 = a.fdiv 2 := by
    rcases h with (h | h) | ⟨h, g⟩
    · rw [hd_ h]; rfl
    · rw [hd_ h]; show (if (0:Int) < 2 then a.fdiv 2 else - a.fdiv (-2)) = _; rw [if_pos (by decide)]
    · have U := sg3.2.2 h
      unfold fits at ha
      rw [hd_ g]
      have n1 : (a.natAbs : Int) = a := by omega
      have n2 : decide (a < 0) = decide ((2:Int) < 0) := by rw [decide_eq_false (show ¬ a < 0 by omega)]; rfl
      unfold quo
      simp only [n1, if_pos n2]; rfl
  have m : fits f (a.fdiv 2) := by
    rw [Int.fdiv_eq_ediv_of_nonneg _ (by decide)]
    unfold fits at *; omega
  simp only [divO, op2, e, fitR_in m]
theorem h_absV {f : Fmt} {a b c : Int} (h : holdsB f .absV = true) (ha : fits f a) : ruleB f .absV a b c = true := by
  simp only [holdsB, Bool.or_eq_true] at h
  unfold ruleB
  by_cases a0 : 0 ≤ a
  · rw [if_pos a0]; exact leO_s a0
  rw [if_neg a0]
  have F := facts f
  rcases h with (h | h) | h
  · simp only [negO, fitR_in (neg_fits h ha)]; exact leO_s (by omega)
  · have U := sg3.2.2 h; unfold fits at ha; omega
  · simp only [negO, fitS (hs_ h)]
    refine leO_s ?_
    unfold cl; (repeat' split) <;> omega
theorem h_ordD {f : Fmt} {a b c : Int} (h : holdsB f .ordD = true) (ha : fits f a) (hb : fits f b) : ruleB f .ordD a b c = true := by
  simp only [holdsB, Bool.or_eq_true, Bool.and_eq_true] at h
  obtain ⟨h, g⟩ := h
  have F := facts f
  have L : lo f < 0 := by
    rcases g with g | g
    · have := sg3.1 g; omega
    · have := sg3.2.1 g; omega
  unfold ruleB
  simp only [subO, op2, fitS (hs_ h)]
  rw [decide_eq_true (by simp), Bool.true_and]
  have e : ltO (some (cl f (a - b))) (some 0) = decide (a < b) := by
    unfold ltO
    simp only []
    by_cases hab : a < b
    · rw [decide_eq_true hab]; refine decide_eq_true ?_
      unfold cl; (repeat' split) <;> omega
    · rw [decide_eq_false hab]; refine decide_eq_false ?_
      unfold cl; (repeat' split) <;> omega
  rw [e]; exact beq_self_eq_true _
theorem h_monoS {f : Fmt} {a b c : Int} (h : holdsB f .monoS = true) : ruleB f .monoS a b c = true := by
  simp only [holdsB] at h
  have F := facts f
  unfold ruleB
  by_cases hab : b < a
  · rw [decide_eq_true hab]; rfl
  rw [decide_eq_false hab, Bool.false_or]
  simp only [addO, op2, fitS (hs_ h)]
  refine leO_s ?_
  unfold cl; (repeat' split) <;> omega
theorem half {d : Dv} {x : Int} (h : 0 ≤ x) : 0 ≤ quo d x 2 ∧ quo d x 2 ≤ x := by
  obtain ⟨s, t, r, u, h1, h2, h3, h4, h5, h6, h7, h8, h9, h10, h11, h12, h13, h14, h15⟩ := quo_nn d h (show (0:Int) < 2 by decide)
  have := quo_le d x 2 (by decide)
  omega
theorem h_aver {f : Fmt} {a b c : Int} (h : holdsB f .aver = true) (ha : fits f a) (hb : fits f b) : ruleB f .aver a b c = true := by
  simp only [holdsB, Bool.or_eq_true] at h
  have F := facts f
  unfold ruleB
  by_cases hab : b < a
  · rw [decide_eq_true hab]; rfl
  rw [decide_eq_false hab, Bool.false_or]
  unfold fits at ha hb
  have e : ∃ d, subO f (some b) (some a) = some d ∧ 0 ≤ d ∧ d ≤ b - a ∧ fits f d := by
    rcases h with h | h
    · have U := sg3.2.2 h
      have m : fits f (b - a) := by unfold fits; omega
      exact ⟨_, by simp only [subO, op2, fitR_in m], by omega, by omega, m⟩
    · refine ⟨_, by simp only [subO, op2, fitS (hs_ h)]; rfl, ?_⟩
      unfold cl fits; (repeat' split) <;> omega
  obtain ⟨d, e1, e2, e3, e4⟩ := e
  have H := half (d := f.dv) e2
  unfold fits at e4
  have m1 : fits f (quo f.dv d 2) := by unfold fits; omega
  have m2 : fits f (a + quo f.dv d 2) := by unfold fits; omega
  have e5 : addO f (some a) (divO f (subO f (some b) (some a)) (some 2)) = some (a + quo f.dv d 2) := by
    rw [e1]; simp only [addO, divO, op2, fitR_in m1, fitR_in m2]
  rw [e5, leO_s (by omega), leO_s (by omega)]; rfl
theorem h_squa {f : Fmt} {a b c : Int} (h : holdsB f .squa = true) : ruleB f .squa a b c = true := by
  simp only [holdsB, Bool.or_eq_true, Bool.and_eq_true] at h
  have F := facts f
  unfold ruleB
  have p : 0 ≤ a * a := by
    rcases Int.le_total 0 a with h | h
    · exact Int.mul_nonneg h h
    · exact Int.mul_nonneg_of_nonpos_of_nonpos h h
  rcases h with h | ⟨h, g⟩
  · simp only [mulO, op2, fitS (hs_ h)]
    refine leO_s ?_
    unfold cl; (repeat' split) <;> omega
  · have U := sg3.2.2 h
    simp only [mulO, op2, fitW (hw_ g)]
    have := wr_fits f (a * a)
    exact leO_s (by omega)
theorem many_sym {f : Fmt} (h : isS f = true) : many f = ((2 ^ f.w - 1 : Nat) : Int) := by
  have e1 : p2 f.w = ((2 ^ f.w : Nat) : Int) := by unfold p2; rw [Int.natCast_pow]; rfl
  have F := facts f
  have e2 : f.sg = .sym := of_decide_eq_true h
  have e3 : lo f = 1 - p2 (f.w - 1) := by unfold lo; rw [e2]
  have e4 : hi f = p2 (f.w - 1) - 1 := by unfold hi bnd; rw [e2]
  omega
theorem wr_dvd {f : Fmt} {x y : Int} (h : wr f x = wr f y) : many f ∣ x - y := by
  obtain ⟨k, hk⟩ := wr_mod f x
  obtain ⟨l, hl⟩ := wr_mod f y
  exact ⟨k - l, by rw [Int.mul_sub]; omega⟩
theorem prime_dvd {f : Fmt} (h : isS f = true) (hm : WP.mers f.w = true) {a b : Int} (ha : fits f a) (a0 : a ≠ 0) (hd : many f ∣ a * b) : many f ∣ b := by
  have F := facts f
  have S := sg3.1 h
  have M := many_sym h
  unfold fits at ha
  rw [M] at hd ⊢
  exact WP.mers_int hm f.lo4 a0 (by omega) hd
theorem small_dvd {m x : Int} (h : m ∣ x) (h1 : -m < x) (h2 : x < m) : x = 0 := by
  obtain ⟨k, hk⟩ := h
  have m0 : 0 < m := by omega
  by_cases k1 : 1 ≤ k
  · have := Int.mul_le_mul_of_nonneg_left k1 (show 0 ≤ m by omega); omega
  by_cases k2 : k ≤ -1
  · have := Int.mul_le_mul_of_nonneg_left k2 (show 0 ≤ m by omega); omega
  have : k = 0 := by omega
  subst this; rw [hk, Int.mul_zero]
theorem h_zeroP {f : Fmt} {a b c : Int} (h : holdsB f .zeroP = true) (ha : fits f a) (hb : fits f b) : ruleB f .zeroP a b c = true := by
  simp only [holdsB, Bool.or_eq_true, Bool.and_eq_true] at h
  have F := facts f
  obtain ⟨-, -, -, S1, S2⟩ := sgn f
  unfold ruleB
  by_cases a0 : a = 0
  · rw [decide_eq_true a0]; rfl
  by_cases b0 : b = 0
  · rw [decide_eq_true b0, Bool.or_true]; rfl
  rw [decide_eq_false a0, decide_eq_false b0, Bool.false_or, Bool.false_or]
  refine decide_eq_true ?_
  have p : a * b ≠ 0 := Int.mul_ne_zero a0 b0
  simp only [mulO, op2]
  rcases h with (h | h) | ⟨h, g⟩
  · rw [fitS (hs_ h)]
    intro e
    have e' : cl f (a * b) = 0 := Option.some.inj e
    unfold fits at ha hb
    unfold cl at e'
    by_cases l0 : lo f = 0
    · have : 0 ≤ a * b := Int.mul_nonneg (by omega) (by omega)
      revert e'; (repeat' split) <;> omega
    · revert e'; (repeat' split) <;> omega
  · intro e
    by_cases m : fits f (a * b)
    · rw [fitR_in m] at e; exact p (Option.some.inj e)
    · rw [fitN (ht_ h) m] at e; cases e
  · rcases ov3 f with o | o | o
    · rw [fitS o]
      intro e
      have e' : cl f (a * b) = 0 := Option.some.inj e
      have S := sg3.1 h
      unfold cl at e'
      revert e'; (repeat' split) <;> omega
    · intro e
      by_cases m : fits f (a * b)
      · rw [fitR_in m] at e; exact p (Option.some.inj e)
      · rw [fitN o m] at e; cases e
    · rw [fitW o]
      intro e
      have e' : wr f (a * b) = 0 := Option.some.inj e
      have z : wr f 0 = 0 := wr_id (by unfold fits; omega)
      have d := wr_dvd (e'.trans z.symm)
      rw [Int.sub_zero] at d
      have d2 := prime_dvd h g ha a0 d
      have S := sg3.1 h
      unfold fits at hb
      exact b0 (small_dvd d2 (by omega) (by omega))
theorem h_canc {f : Fmt} {a b c : Int} (h : holdsB f .canc = true) (ha : fits f a) (hb : fits f b) (hc : fits f c) : ruleB f .canc a b c = true := by
  simp only [holdsB, Bool.and_eq_true] at h
  obtain ⟨⟨o, h⟩, g⟩ := h
  have F := facts f
  unfold ruleB
  by_cases a0 : a = 0
  · rw [decide_eq_true a0]; rfl
  by_cases bc : b = c
  · rw [decide_eq_true bc, Bool.or_true]
  rw [decide_eq_false a0, decide_eq_false bc, Bool.false_or, Bool.or_false]
  refine decide_eq_true ?_
  simp only [mulO, op2, fitW (hw_ o)]
  intro e
  have e' : wr f (a * b) = wr f (a * c) := Option.some.inj e
  have d := wr_dvd e'
  rw [← Int.mul_sub] at d
  have d2 := prime_dvd h g ha a0 d
  have S := sg3.1 h
  unfold fits at hb hc
  have := small_dvd d2 (by omega) (by omega)
  omega
/-- no numbers break a rule that holds -/
theorem rule_holds {f : Fmt} {r : Rl} {a b c : Int} (h : holdsB f r = true) (ha : fits f a) (hb : fits f b) (hc : fits f c) : ruleB f r a b c = true := by
  cases r
  · exact h_sumG h ha hb hc
  · exact h_prodG h ha hb hc
  · exact h_dist h ha hb hc
  · exact h_dneg h ha
  · exact h_diff h ha hb
  · exact h_addB h ha hb
  · exact h_divi h ha hb
  · exact h_remR h ha hb
  · exact h_negQ h ha hb
  · exact h_shift h ha
  · exact h_absV h ha
  · exact h_ordD h ha hb
  · exact h_monoS h
  · exact h_aver h ha hb
  · exact h_squa h
  · exact h_zeroP h ha hb
  · exact h_canc h ha hb hc
def ruleL (f : Fmt) (r : Rl) (l : List Int) : Bool := match r.ar, l with
  | 1, [a] => ruleB f r a 0 0
  | 2, [a, b] => ruleB f r a b 0
  | 3, [a, b, c] => ruleB f r a b c
  | _, _ => true
def allSg : List Sg := [.sym, .twos, .uns]
def allOv : List Ov := [.sat, .trap, .wrap]
def allDv : List Dv := [.ceil, .euc, .even, .floor, .zero]
def allRl : List Rl := [.sumG, .prodG, .dist, .dneg, .diff, .addB, .divi, .remR, .negQ, .shift, .absV, .ordD, .monoS, .aver, .squa, .zeroP, .canc]
theorem ruleL_holds {f : Fmt} {r : Rl} {xs : List Int} (h : holdsB f r = true) (hx : ∀ x ∈ xs, fits f x) : ruleL f r xs = true := by
  have z : fits f 0 := by have F := facts f; unfold fits; omega
  match xs, hx with
  | [a], hx =>
    have ha := hx a (List.mem_cons_self ..)
    cases r <;> first | rfl | exact rule_holds h ha z z
  | [a, b], hx =>
    have ha := hx a (List.mem_cons_self ..)
    have hb := hx b (List.mem_cons_of_mem _ (List.mem_cons_self ..))
    cases r <;> first | rfl | exact rule_holds h ha hb z
  | [a, b, c], hx =>
    have ha := hx a (List.mem_cons_self ..)
    have hb := hx b (List.mem_cons_of_mem _ (List.mem_cons_self ..))
    have hc := hx c (List.mem_cons_of_mem _ (List.mem_cons_of_mem _ (List.mem_cons_self ..)))
    cases r <;> first | rfl | exact rule_holds h ha hb hc
  | [], _ => cases r <;> rfl
  | _ :: _ :: _ :: _ :: _, _ => cases r <;> rfl
end WM

/-! The least factors of 2^w - 1, and the numbers that break a rule. -/
set_option maxHeartbeats 4000000
set_option maxRecDepth 1000000
namespace WM
def lfac (w : Nat) : Nat := match w with
  | 4 => 3
  | 6 => 3
  | 8 => 3
  | 9 => 7
  | 10 => 3
  | 11 => 23
  | 12 => 3
  | 14 => 3
  | 15 => 7
  | 16 => 3
  | 18 => 3
  | 20 => 3
  | 21 => 7
  | 22 => 3
  | 23 => 47
  | 24 => 3
  | 25 => 31
  | 26 => 3
  | 27 => 7
  | 28 => 3
  | 29 => 233
  | 30 => 3
  | 32 => 3
  | 33 => 7
  | 34 => 3
  | 35 => 31
  | 36 => 3
  | 37 => 223
  | 38 => 3
  | 39 => 7
  | 40 => 3
  | 41 => 13367
  | 42 => 3
  | 43 => 431
  | 44 => 3
  | 45 => 7
  | 46 => 3
  | 47 => 2351
  | 48 => 3
  | 49 => 127
  | 50 => 3
  | 51 => 7
  | 52 => 3
  | 53 => 6361
  | 54 => 3
  | 55 => 23
  | 56 => 3
  | 57 => 7
  | 58 => 3
  | 59 => 179951
  | 60 => 3
  | 62 => 3
  | 63 => 7
  | 64 => 3
  | _ => 2 ^ w - 1
def ndo (n K : Nat) : Bool := Nat.rec (motive := fun _ => Bool) true (fun k ih => cond (Nat.beq (n % (2 * k + 3)) 0) false ih) K
theorem ndo_of {n : Nat} : ∀ K, ndo n K = true → ∀ k, k < K → n % (2 * k + 3) ≠ 0
  | 0, _, k, h => by omega
  | K + 1, h, k, hk => by
    have e : ndo n (K + 1) = cond (Nat.beq (n % (2 * K + 3)) 0) false (ndo n K) := rfl
    rw [e] at h
    cases hb : Nat.beq (n % (2 * K + 3)) 0 with
    | true => rw [hb] at h; cases h
    | false =>
      rw [hb] at h
      by_cases e2 : k = K
      · subst e2; intro h0; rw [h0] at hb; cases hb
      · exact ndo_of K h k (by omega)
theorem noDiv_of {n p : Nat} (h : ndo n ((p - 2) / 2) = true) (ho : n % 2 = 1) (hp : p % 2 = 1) {d : Nat} (h1 : 1 < d) (h2 : d < p) : ¬ d ∣ n := by
  intro e
  by_cases d2 : d % 2 = 0
  · have : 2 ∣ n := Nat.dvd_trans (Nat.dvd_of_mod_eq_zero d2) e
    omega
  · have := ndo_of _ h ((d - 3) / 2) (by omega)
    rw [show 2 * ((d - 3) / 2) + 3 = d by omega] at this
    exact this (Nat.mod_eq_zero_of_dvd e)
def lfacOk (w : Nat) : Bool := WP.mers w || (ndo (2 ^ w - 1) ((lfac w - 2) / 2) && decide ((2 ^ w - 1) % lfac w = 0) && decide (3 ≤ lfac w) && decide (lfac w ≤ 180000) &&
  decide (3 * lfac w ≤ 2 ^ w - 1) && decide (lfac w % 2 = 1) && decide ((2 ^ w - 1) % 2 = 1))
theorem lfac_all : (List.range 63).all (fun i => lfacOk (i + 2)) = true := by decide +kernel
theorem lfac_comp {w : Nat} (h2 : 2 ≤ w) (h64 : w ≤ 64) (hm : WP.mers w = false) : lfac w ∣ 2 ^ w - 1 ∧ 3 ≤ lfac w ∧ lfac w ≤ 180000 ∧ 3 * lfac w ≤ 2 ^ w - 1 ∧
    (2 ^ w - 1) % 2 = 1 ∧ ∀ d, 1 < d → d < lfac w → ¬ d ∣ 2 ^ w - 1 := by
  have h := List.all_eq_true.mp lfac_all (w - 2) (List.mem_range.mpr (by omega))
  rw [show w - 2 + 2 = w by omega] at h
  unfold lfacOk at h
  simp only [hm, Bool.false_or, Bool.and_eq_true, decide_eq_true_eq] at h
  obtain ⟨⟨⟨⟨⟨⟨a, b⟩, c⟩, d⟩, e⟩, g⟩, i⟩ := h
  exact ⟨Nat.dvd_of_mod_eq_zero b, c, d, e, i, fun x h1 h2 => noDiv_of a i g h1 h2⟩
/-- the least factor is the only one that the document's words fit -/
theorem lfac_unique {w p : Nat} (h2 : 2 ≤ w) (h64 : w ≤ 64) (hm : WP.mers w = false) (h1 : 1 < p) (hp : p ∣ 2 ^ w - 1) (hl : ∀ d, 1 < d → d < p → ¬ d ∣ 2 ^ w - 1) : p = lfac w := by
  obtain ⟨a, b, c, d, e, g⟩ := lfac_comp h2 h64 hm
  rcases Nat.lt_trichotomy p (lfac w) with h | h | h
  · exact absurd hp (g p h1 h)
  · exact h
  · exact absurd a (hl _ (by omega) h)
theorem lfac_mers {w : Nat} (hm : WP.mers w = true) : lfac w = 2 ^ w - 1 := by
  unfold WP.mers at hm
  simp only [List.contains_cons, List.contains_nil, Bool.or_false, Bool.or_eq_true, beq_iff_eq] at hm
  rcases hm with h | h | h | h | h | h | h | h | h <;> subst h <;> rfl
/-- the numbers told for a rule that doesn't hold -/
def cexN (f : Fmt) (r : Rl) : List Int :=
  let L := lo f
  let M := hi f
  let H := p2 (f.w - 1)
  let n := p2 f.w - 1
  let p : Int := lfac f.w
  match r with
  | .sumG => [M, 1, -1]
  | .prodG => if isTrap f then [M, 2, 0] else [L, -1, -1]
  | .dist => if isTrap f then [0, M, 1] else [2, M, -1]
  | .dneg => if isT f then [L] else [1]
  | .diff => if isT f then [-1, L] else [1, 1]
  | .addB | .ordD | .aver => [L, 1]
  | .divi => if isT f then [L, -1] else if isS f then (if isD f .floor || isD f .euc then [L, 2] else [M, 2]) else (if isD f .ceil then [1, 2] else [3, 2])
  | .remR => match f.dv with
    | .floor => [1, -2]
    | .zero => [-1, 2]
    | .ceil => [1, 2]
    | .even => [3, 2]
    | .euc => []
  | .negQ => if isT f then (if isSat f then (if isD f .ceil then [1, 2] else if isD f .even then (if f.w % 2 = 0 then [L, n.fdiv 3] else [L, p2 ((f.w + 1) / 2) - 2]) else [L, 2]) else [L, 2]) else [1, 2]
  | .shift => match f.dv with
    | .zero => [-1]
    | .ceil => [1]
    | .even => [3]
    | _ => []
  | .absV => [L]
  | .monoS => [M - 1, M, 1]
  | .squa => if isTrap f then [M] else if f.w % 2 = 0 then [p2 (f.w / 2) - 1] else [p2 (f.w / 2)]
  | .zeroP => if isT f then [2, L] else if isU f then [2, H] else [p, n.fdiv p]
  | .canc => if isWrap f then (if isT f then [2, 0, L] else if isU f then [2, 0, H] else [p, 0, n.fdiv p]) else [2, M, M - 1]
def fitsB (f : Fmt) (x : Int) : Bool := decide (lo f ≤ x) && decide (x ≤ hi f)
def cexOk (f : Fmt) (r : Rl) : Bool := holdsB f r || (!(ruleL f r (cexN f r)) && (cexN f r).all (fitsB f) && decide ((cexN f r).length = r.ar))
theorem allSg_all (s : Sg) : s ∈ allSg := by cases s <;> decide
theorem allOv_all (s : Ov) : s ∈ allOv := by cases s <;> decide
theorem allDv_all (s : Dv) : s ∈ allDv := by cases s <;> decide
theorem allRl_all (s : Rl) : s ∈ allRl := by cases s <;> decide
def cexRow (i : Fin 61) : Bool := allSg.all fun s => allOv.all fun o => allDv.all fun d => allRl.all fun r => cexOk ⟨i.val + 4, s, o, d, by omega, by omega⟩ r
theorem cex_p0 : ∀ j : Fin 5, cexRow ⟨j.val + 0, by omega⟩ = true := by decide +kernel
theorem cex_p1 : ∀ j : Fin 5, cexRow ⟨j.val + 5, by omega⟩ = true := by decide +kernel
theorem cex_p2 : ∀ j : Fin 5, cexRow ⟨j.val + 10, by omega⟩ = true := by decide +kernel
theorem cex_p3 : ∀ j : Fin 5, cexRow ⟨j.val + 15, by omega⟩ = true := by decide +kernel
theorem cex_p4 : ∀ j : Fin 5, cexRow ⟨j.val + 20, by omega⟩ = true := by decide +kernel
theorem cex_p5 : ∀ j : Fin 5, cexRow ⟨j.val + 25, by omega⟩ = true := by decide +kernel
theorem cex_p6 : ∀ j : Fin 5, cexRow ⟨j.val + 30, by omega⟩ = true := by decide +kernel
theorem cex_p7 : ∀ j : Fin 5, cexRow ⟨j.val + 35, by omega⟩ = true := by decide +kernel
theorem cex_p8 : ∀ j : Fin 5, cexRow ⟨j.val + 40, by omega⟩ = true := by decide +kernel
theorem cex_p9 : ∀ j : Fin 5, cexRow ⟨j.val + 45, by omega⟩ = true := by decide +kernel
theorem cex_p10 : ∀ j : Fin 5, cexRow ⟨j.val + 50, by omega⟩ = true := by decide +kernel
theorem cex_p11 : ∀ j : Fin 5, cexRow ⟨j.val + 55, by omega⟩ = true := by decide +kernel
theorem cex_p12 : cexRow ⟨60, by omega⟩ = true := by decide +kernel
theorem cex_all (i : Fin 61) : cexRow i = true := by
  obtain ⟨i, hi⟩ := i
  by_cases h0 : i < 5
  · have e := cex_p0 ⟨i - 0, by omega⟩
    rw [show (⟨i - 0 + 0, by omega⟩ : Fin 61) = ⟨i, hi⟩ from Fin.ext (by show i - 0 + 0 = i; omega)] at e
    exact e
  by_cases h1 : i < 10
  · have e := cex_p1 ⟨i - 5, by omega⟩
    rw [show (⟨i - 5 + 5, by omega⟩ : Fin 61) = ⟨i, hi⟩ from Fin.ext (by show i - 5 + 5 = i; omega)] at e
    exact e
  by_cases h2 : i < 15
  · have e := cex_p2 ⟨i - 10, by omega⟩
    rw [show (⟨i - 10 + 10, by omega⟩ : Fin 61) = ⟨i, hi⟩ from Fin.ext (by show i - 10 + 10 = i; omega)] at e
    exact e
  by_cases h3 : i < 20
  · have e := cex_p3 ⟨i - 15, by omega⟩
    rw [show (⟨i - 15 + 15, by omega⟩ : Fin 61) = ⟨i, hi⟩ from Fin.ext (by show i - 15 + 15 = i; omega)] at e
    exact e
  by_cases h4 : i < 25
  · have e := cex_p4 ⟨i - 20, by omega⟩
    rw [show (⟨i - 20 + 20, by omega⟩ : Fin 61) = ⟨i, hi⟩ from Fin.ext (by show i - 20 + 20 = i; omega)] at e
    exact e
  by_cases h5 : i < 30
  · have e := cex_p5 ⟨i - 25, by omega⟩
    rw [show (⟨i - 25 + 25, by omega⟩ : Fin 61) = ⟨i, hi⟩ from Fin.ext (by show i - 25 + 25 = i; omega)] at e
    exact e
  by_cases h6 : i < 35
  · have e := cex_p6 ⟨i - 30, by omega⟩
    rw [show (⟨i - 30 + 30, by omega⟩ : Fin 61) = ⟨i, hi⟩ from Fin.ext (by show i - 30 + 30 = i; omega)] at e
    exact e
  by_cases h7 : i < 40
  · have e := cex_p7 ⟨i - 35, by omega⟩
    rw [show (⟨i - 35 + 35, by omega⟩ : Fin 61) = ⟨i, hi⟩ from Fin.ext (by show i - 35 + 35 = i; omega)] at e
    exact e
  by_cases h8 : i < 45
  · have e := cex_p8 ⟨i - 40, by omega⟩
    rw [show (⟨i - 40 + 40, by omega⟩ : Fin 61) = ⟨i, hi⟩ from Fin.ext (by show i - 40 + 40 = i; omega)] at e
    exact e
  by_cases h9 : i < 50
  · have e := cex_p9 ⟨i - 45, by omega⟩
    rw [show (⟨i - 45 + 45, by omega⟩ : Fin 61) = ⟨i, hi⟩ from Fin.ext (by show i - 45 + 45 = i; omega)] at e
    exact e
  by_cases h10 : i < 55
  · have e := cex_p10 ⟨i - 50, by omega⟩
    rw [show (⟨i - 50 + 50, by omega⟩ : Fin 61) = ⟨i, hi⟩ from Fin.ext (by show i - 50 + 50 = i; omega)] at e
    exact e
  by_cases h11 : i < 60
  · have e := cex_p11 ⟨i - 55, by omega⟩
    rw [show (⟨i - 55 + 55, by omega⟩ : Fin 61) = ⟨i, hi⟩ from Fin.ext (by show i - 55 + 55 = i; omega)] at e
    exact e
  · rw [show (⟨i, hi⟩ : Fin 61) = ⟨60, by omega⟩ from Fin.ext (by show i = 60; omega)]
    exact cex_p12
theorem cex_ok (f : Fmt) (r : Rl) : cexOk f r = true := by
  obtain ⟨w, s, o, d, l1, l2⟩ := f
  have h := cex_all ⟨w - 4, by omega⟩
  have h1 := List.all_eq_true.mp h s (allSg_all s)
  have h2 := List.all_eq_true.mp h1 o (allOv_all o)
  have h3 := List.all_eq_true.mp h2 d (allDv_all d)
  have h4 := List.all_eq_true.mp h3 r (allRl_all r)
  obtain ⟨k, rfl⟩ : ∃ k, w = k + 4 := ⟨w - 4, by omega⟩
  exact h4
theorem cex_breaks {f : Fmt} {r : Rl} (h : holdsB f r = false) : ruleL f r (cexN f r) = false ∧ (∀ x ∈ cexN f r, fits f x) ∧ (cexN f r).length = r.ar := by
  have e := cex_ok f r
  unfold cexOk at e
  rw [h, Bool.false_or, Bool.and_eq_true, Bool.and_eq_true, decide_eq_true_eq, Bool.not_eq_true', List.all_eq_true] at e
  obtain ⟨⟨a, b⟩, c⟩ := e
  refine ⟨a, fun x hx => ?_, c⟩
  have := b x hx
  unfold fitsB at this
  rw [Bool.and_eq_true, decide_eq_true_eq, decide_eq_true_eq] at this
  exact this
end WM

/-! The test of Lucas and Lehmer, as a computation; least factors as numbers. -/
set_option maxHeartbeats 4000000
set_option maxRecDepth 1000000
namespace WM
def ll (n : Int) : Nat → Int
  | 0 => 4
  | k + 1 => (ll n k * ll n k - 2).fmod n
def llOk (w : Nat) : Bool := w % 2 == 0 || decide (ll (p2 w - 1) (w - 2) = 0) == WP.mers w
theorem ll_all : (List.range 63).all (fun i => llOk (i + 2)) = true := by decide +kernel
theorem ll_mers {w : Nat} (h2 : 2 ≤ w) (h64 : w ≤ 64) (ho : w % 2 ≠ 0) : decide (ll (p2 w - 1) (w - 2) = 0) = WP.mers w := by
  have h := List.all_eq_true.mp ll_all (w - 2) (List.mem_range.mpr (by omega))
  rw [show w - 2 + 2 = w by omega] at h
  unfold llOk at h
  rw [Bool.or_eq_true, beq_iff_eq, beq_iff_eq] at h
  rcases h with h | h
  · exact absurd h ho
  · exact h
theorem mers_even {w : Nat} (h2 : 2 ≤ w) (h64 : w ≤ 64) (he : w % 2 = 0) : WP.mers w = decide (w = 2) := by
  have h : (List.range 63).all (fun i => (i + 2) % 2 != 0 || WP.mers (i + 2) == decide (i + 2 = 2)) = true := by decide +kernel
  have h := List.all_eq_true.mp h (w - 2) (List.mem_range.mpr (by omega))
  rw [show w - 2 + 2 = w by omega] at h
  rw [Bool.or_eq_true, bne_iff_ne, beq_iff_eq] at h
  rcases h with h | h
  · exact absurd he h
  · exact h
theorem p2_pos {w : Nat} (h2 : 2 ≤ w) (h64 : w ≤ 64) : 3 ≤ p2 w - 1 ∧ p2 w ≤ 18446744073709551616 := by
  have h : (List.range 63).all (fun i => decide (3 ≤ p2 (i + 2) - 1) && decide (p2 (i + 2) ≤ 18446744073709551616)) = true := by decide +kernel
  have h := List.all_eq_true.mp h (w - 2) (List.mem_range.mpr (by omega))
  rw [show w - 2 + 2 = w by omega] at h
  rw [Bool.and_eq_true, decide_eq_true_eq, decide_eq_true_eq] at h
  exact h
theorem ll_in {n : Int} (hn : 3 ≤ n) (k : Nat) : 0 ≤ ll n k ∧ (ll n k < n ∨ ll n k = 4) := by
  cases k with
  | zero => exact ⟨by show (0 : Int) ≤ 4; decide, .inr rfl⟩
  | succ k => exact ⟨Int.fmod_nonneg_of_pos _ (by omega), .inl (Int.fmod_lt_of_pos _ (by omega))⟩
theorem pN {w : Nat} : p2 w - 1 = ((2 ^ w - 1 : Nat) : Int) := by
  have := Nat.one_le_two_pow (n := w)
  unfold p2
  rw [Int.ofNat_sub this]
  rfl
end WM

/-! Least factors as numbers. -/
set_option maxHeartbeats 4000000
set_option maxRecDepth 1000000
namespace WM
/-- what the search for the least factor needs -/
theorem lfac_odd {w : Nat} (h2 : 2 ≤ w) (h64 : w ≤ 64) (hm : WP.mers w = false) : lfac w % 2 = 1 := by
  obtain ⟨a, b, c, d, e, g⟩ := lfac_comp h2 h64 hm
  by_cases h : lfac w % 2 = 1
  · exact h
  · have : 2 ∣ 2 ^ w - 1 := Nat.dvd_trans (Nat.dvd_of_mod_eq_zero (by omega)) a
    omega
theorem fmod_dvd {a b : Nat} : ((a : Int).fmod (b : Int) = 0) ↔ b ∣ a := by
  rw [Int.fmod_eq_emod_of_nonneg _ (by omega), ← Int.natCast_emod]
  constructor
  · intro h
    exact Nat.dvd_of_mod_eq_zero (by omega)
  · intro h
    rw [Nat.mod_eq_zero_of_dvd h]; rfl
theorem least_at {w k : Nat} (h2 : 2 ≤ w) (h64 : w ≤ 64) (hm : WP.mers w = false) (h3 : 3 ≤ k) (hl : k ≤ lfac w) : ((p2 w - 1).fmod (k : Int) = 0) ↔ k = lfac w := by
  obtain ⟨a, b, c, d, e, g⟩ := lfac_comp h2 h64 hm
  rw [pN, fmod_dvd]
  constructor
  · intro h
    by_cases q : k = lfac w
    · exact q
    · exact absurd h (g k (by omega) (by omega))
  · intro h
    rw [h]; exact a
theorem lfac_prime {w d : Nat} (h2 : 2 ≤ w) (h64 : w ≤ 64) (hm : WP.mers w = false) (h3 : 3 ≤ d) (hd : d * d ≤ lfac w) : (lfac w : Int).fmod (d : Int) ≠ 0 := by
  obtain ⟨a, b, c, dd, e, g⟩ := lfac_comp h2 h64 hm
  intro h
  have h' := fmod_dvd.mp h
  have : d < lfac w := by
    have : d * 3 ≤ d * d := Nat.mul_le_mul_left d h3
    omega
  exact g d (by omega) this (Nat.dvd_trans h' a)
end WM

set_option maxHeartbeats 4000000
/-! Rules as values: what the law's own arithmetic of rules needs. -/
namespace WL
open PySem PySem.Spec PyProof.Rows L2 Evl WM
def rlS : Rl → Str
  | .sumG => "sum grouping" | .prodG => "product grouping" | .dist => "distribution" | .dneg => "double negation" | .diff => "difference" | .addB => "add back"
  | .divi => "division" | .remR => "remainder range" | .negQ => "negated quotient" | .shift => "shift" | .absV => "absolute value" | .ordD => "order by difference"
  | .monoS => "monotone sum" | .aver => "average" | .squa => "square" | .zeroP => "zero product" | .canc => "cancellation"
def IsR (v : V) (x : Option Int) : Prop := v = rv x
theorem isr_i {a : Int} : IsR (.int a) (some a) := rfl
theorem isr_r {x : Option Int} : IsR (rv x) x := rfl
theorem dec_rv {x y : Option Int} : decide (rv x = rv y) = decide (x = y) := by
  cases x <;> cases y <;> simp [rv]
theorem dec_rvi {x : Option Int} {i : Int} : decide (rv x = V.int i) = decide (x = some i) := dec_rv (y := some i)
theorem dec_rvt {x : Option Int} : decide (rv x = V.str "trap") = decide (x = none) := dec_rv (y := none)
theorem osm_do {f : Fmt} {d : De} {x y : Option Int} : OSm (doR f d x y) := by
  cases x <;> cases y <;> first | exact osm_fit | (intro i h; cases h)
theorem osm_div {f : Fmt} {x y : Option Int} : OSm (divR f x y) := by
  cases x <;> cases y <;> first | exact osm_fit | (intro i h; cases h)
theorem nz_i {b : Int} (h : b ≠ 0) : NZ (some b) := fun z => h (Option.some.inj z)
theorem do_add {f : Fmt} {x y : Option Int} : doR f .add x y = addO f x y := by cases x <;> cases y <;> rfl
theorem do_sub {f : Fmt} {x y : Option Int} : doR f .sub x y = subO f x y := by cases x <;> cases y <;> rfl
theorem do_mul {f : Fmt} {x y : Option Int} : doR f .mul x y = mulO f x y := by cases x <;> cases y <;> rfl
theorem do_div {f : Fmt} {x y : Option Int} : divR f x y = divO f x y := by cases x <;> cases y <;> rfl
theorem do_neg {f : Fmt} {x : Option Int} : doR f .sub (some 0) x = negO f x := by
  cases x with
  | none => rfl
  | some a => show fitR f (0 - a) = fitR f (-a); rw [Int.zero_sub]
theorem scal_rv {x y : Option Int} : scal (rv x) (rv y) = true := by cases x <;> cases y <;> rfl
/-- whether results rise -/
def risesB : List (Option Int) → Bool
  | [] => true
  | [x] => x.isSome
  | x :: y :: r => leO x y && risesB (y :: r)
theorem rises_none : ∀ {xs : List (Option Int)}, none ∈ xs → risesB xs = false
  | [x], h => by
    rcases List.mem_cons.mp h with h | h
    · subst h; rfl
    · cases h
  | x :: y :: r, h => by
    rcases List.mem_cons.mp h with h | h
    · subst h; cases y <;> rfl
    · have := rises_none (xs := y :: r) h
      show (leO x y && risesB (y :: r)) = false
      rw [this, Bool.and_false]
theorem le_all {n : Int} : ∀ {ns : List Int}, ns.Pairwise (· ≤ ·) → (∀ m ∈ ns, n ≤ m) → (n :: ns).Pairwise (· ≤ ·) := fun h k => List.pairwise_cons.mpr ⟨k, h⟩
theorem rises_some : ∀ ns : List Int, risesB (ns.map some) = true ↔ ns.Pairwise (· ≤ ·)
  | [] => ⟨fun _ => .nil, fun _ => rfl⟩
  | [x] => ⟨fun _ => List.pairwise_cons.mpr ⟨fun _ h => (List.not_mem_nil h).elim, .nil⟩, fun _ => rfl⟩
  | x :: y :: r => by
    have ih := rises_some (y :: r)
    show (decide (x ≤ y) && risesB ((y :: r).map some)) = true ↔ _
    rw [Bool.and_eq_true, ih, decide_eq_true_eq]
    constructor
    · rintro ⟨h1, h2⟩
      refine List.pairwise_cons.mpr ⟨fun m hm => ?_, h2⟩
      rcases List.mem_cons.mp hm with e | e
      · subst e; exact h1
      · exact Int.le_trans h1 ((List.pairwise_cons.mp h2).1 m e)
    · intro h
      have h' := List.pairwise_cons.mp h
      exact ⟨h'.1 y (List.mem_cons_self ..), h'.2⟩
theorem sorted_unique : ∀ {xs ys : List Int}, xs.Perm ys → xs.Pairwise (· ≤ ·) → ys.Pairwise (· ≤ ·) → xs = ys := fun h a b => h.eq_of_pairwise (fun x y _ _ h1 h2 => Int.le_antisymm h1 h2) a b
theorem in_trap : ∀ xs : List (Option Int), inV (.str "trap") (xs.map rv) = true ↔ none ∈ xs
  | [] => by constructor <;> intro h <;> cases h
  | x :: r => by
    have ih := in_trap r
    show (eqV (rv x) (.str "trap") || inV (.str "trap") (r.map rv)) = true ↔ _
    rw [Bool.or_eq_true, ih, List.mem_cons]
    cases x with
    | none => exact ⟨fun _ => .inl rfl, fun _ => .inl (by decide +kernel)⟩
    | some i => exact ⟨fun h => h.elim (fun z => by cases z) .inr, fun h => h.elim (fun z => by cases z) .inr⟩
theorem all_some : ∀ {xs : List (Option Int)}, none ∉ xs → ∃ ns : List Int, xs = ns.map some
  | [], _ => ⟨[], rfl⟩
  | none :: r, h => (h (List.mem_cons_self ..)).elim
  | some i :: r, h => by
    obtain ⟨ns, e⟩ := all_some (xs := r) fun z => h (List.mem_cons_of_mem _ z)
    exact ⟨i :: ns, by rw [e]; rfl⟩
theorem flat_rvs : ∀ xs : List (Option Int), (xs.map rv).all flatV = true
  | [] => rfl
  | x :: r => by show (flatV (rv x) && (r.map rv).all flatV) = true; rw [flat_rvs r]; cases x <;> rfl
theorem eqv_ints : ∀ ns ms : List Int, PyData.eqvAll (ns.map PyData.int) (ms.map PyData.int) = decide (ns = ms)
  | [], [] => by simp [PyData.eqvAll]
  | [], _ :: _ => by simp [PyData.eqvAll]
  | _ :: _, [] => by simp [PyData.eqvAll]
  | a :: r, b :: t => by
    simp only [List.map_cons, PyData.eqvAll, PyData.eqv, eqv_ints r t]
    by_cases h : a = b <;> by_cases h2 : r = t <;> simp [h, h2]
theorem dp_ints {K : PySem.W.Frag} {H : Hp} : ∀ ns : List Int, DpAll K H (ns.map V.int) (ns.map PyData.int)
  | [] => .nil
  | n :: r => .cons (.int n) (dp_ints r)
theorem map_rv (ns : List Int) : (ns.map some).map rv = ns.map V.int := by rw [List.map_map]; rfl
section
variable {K : PySem.W.Frag} {s : L2.St} {H : Hp} {ta tb te : TE} {tl : TA} {x v : V} {E : XK}
theorem ev_inLst {xs : List V} (ha : Ev ta s H x) (hb : EvA tl s H xs) (hl : xs.length ≤ 100000) (hx : flatV x = true) (hf : xs.all flatV = true) : Ev (tOp (rIn K false) ta (tLst tl)) s H (.bl (inV x xs)) :=
  ev_opL ha (el_lst hb hl) fun _ _ h _ => rv_isL (sq_of h) hx hf
theorem ev_ownL {R : List V → Hp → V → Prop} {xs : List V} (h : EvA tl s H xs) (hl : xs.length ≤ 100000) (k : ∀ l H1, H1 l = some (.lst xs) → R [.ref l] H1 v) : Ev (tCall (Pu R) [] E (tCons (tLst tl) tNil)) s H v := fun H1 e Q q =>
  show tLst tl s H1 (fun x H2 => Pu R [x] H2 Q E) from
  el_lst h hl H1 e _ fun p H2 _ e2 hx => ⟨v, k p H2 hx, fun H3 e3 => q H3 (e2.trans e3)⟩
end
/-- 'trap' not in some and list(some) == sorted(some) -/
theorem ev_rises {K : PySem.W.Frag} {s : L2.St} {H : Hp} {i : Nat} {l : Addr} {xs : List (Option Int)} (hs : s[i]? = some (some (.ref l))) (hl : SqL K H l (xs.map rv)) (hn : xs.length < 64)
    (sh : ∀ ns : List Int, SeqAt.shaped (.list (ns.map PyData.int)) = true) :
    Ev (tAndV (tOp (rIn K true) (tC (.str "trap")) (tVar i)) (tOp (rEqD K) (tCB (rListS K) (tCons (tVar i) tNil)) (tCB (rSorted K) (tCons (tVar i) tNil)))) s H (.bl (risesB xs)) := by
  by_cases hm : none ∈ xs
  · refine ev_is (ev_andV (a := false) (b := false) ?_ (fun z => by cases z)) (by rw [rises_none hm]; rfl)
    refine ev_is (ev_op ev_c (ev_var hs) (rv_niL hl rfl (flat_rvs xs))) ?_
    rw [(in_trap xs).mpr hm]; rfl
  · refine ev_is (ev_andV (a := true) (b := risesB xs) ?_ (fun _ => ?_)) (by rw [Bool.true_and])
    · refine ev_is (ev_op ev_c (ev_var hs) (rv_niL hl rfl (flat_rvs xs))) ?_
      have : inV (.str "trap") (xs.map rv) = false := by
        cases h : inV (.str "trap") (xs.map rv) with
        | false => rfl
        | true => exact (hm ((in_trap xs).mp h)).elim
      rw [this]; rfl
    · obtain ⟨ns, rfl⟩ := all_some hm
      rw [map_rv] at hl
      rw [List.length_map] at hn
      intro H1 e Q q
      refine ⟨_, hs, l, _, rfl, .inl (ex_l e hl), fun l1 hl1 => ⟨_, hs, l, ns, rfl, ex_l (e.trans (Ex.new hl1)) hl, hn, fun ns' p hp hw hp0 => ?_⟩⟩
      refine ⟨.list (ns.map .int), .list (ns'.map .int), .lst (sq_of ?_) (dp_ints ns), .lst (sq_of upd_same) (dp_ints ns'), sh _, sh _, ?_⟩
      · exact Ex.new hp0 _ _ upd_same
      have e2 : PyData.eqv (.list (ns.map .int)) (.list (ns'.map .int)) = risesB (ns.map some) := by
        simp only [PyData.eqv, eqv_ints]
        by_cases hr : ns.Pairwise (· ≤ ·)
        · rw [(rises_some ns).mpr hr]
          exact decide_eq_true (sorted_unique hp hw hr).symm
        · have : risesB (ns.map some) = false := by
            cases h : risesB (ns.map some) with
            | false => rfl
            | true => exact (hr ((rises_some ns).mp h)).elim
          rw [this]
          exact decide_eq_false fun z => hr (z ▸ hw)
      rw [e2]
      exact q _ ((Ex.new hl1).trans (Ex.new hp0))
theorem rises2 {x y : Option Int} : risesB [x, y] = leO x y := by
  cases x <;> cases y <;> simp [risesB, leO]
theorem rises3 {x y z : Option Int} : risesB [x, y, z] = (leO x y && leO y z) := by
  cases x <;> cases y <;> cases z <;> simp [risesB, leO]
theorem dec_i {i j : Int} : decide (V.int i = V.int j) = decide (i = j) := by
  by_cases h : i = j <;> simp [h]
theorem dec_b {i j : Bool} : decide (V.bl i = V.bl j) = (i == j) := by
  cases i <;> cases j <;> rfl
theorem dec_not {p : Prop} [Decidable p] : (!decide p) = decide (¬ p) := by
  by_cases h : p <;> simp [h]
theorem in_two {a b : Int} : inV (.int 0) [.int a, .int b] = (decide (a = 0) || decide (b = 0)) := by
  show (eqV (.int a) (.int 0) || (eqV (.int b) (.int 0) || false)) = _
  rw [Bool.or_false]; rfl
theorem isr_if {b : Bool} {u v : V} {x y : Option Int} (h1 : IsR u x) (h2 : IsR v y) : IsR (if b = true then u else v) (if b = true then x else y) := by
  cases b
  · exact h2
  · exact h1
theorem osm_if {b : Bool} {x y : Option Int} (h1 : OSm x) (h2 : OSm y) : OSm (if b = true then x else y) := by
  cases b
  · exact h2
  · exact h1
section
variable {s : L2.St} {H : Hp} {D : Ends} {tz : TS} {ta : TA}
/-- a list and a written one put together -/
theorem el_cat {i : Nat} {l : Addr} {xs zs : List V} (hs : s[i]? = some (some (.ref l))) (hl : H l = some (.lst xs)) (h : EvA ta s H zs) (hz : zs.length ≤ 100000) (hn : xs.length + zs.length ≤ 100000) : EvL (tOp rCat (tVar i) (tLst ta)) s H (xs ++ zs) := fun H1 e Q q =>
  ⟨_, hs, el_lst h hz H1 e _ fun p H2 hp e2 hx => ⟨l, p, xs, zs, rfl, rfl, e2 _ _ (e _ _ hl), hx, sz_of hn, fun m hm => q m _ (fresh_back e2 hm) (e2.trans (Ex.new hm)) upd_same⟩⟩
end
def rlV : List V := allRl.map fun r => V.str (rlS r)
theorem shape {xs : List Int} {r : Rl} (h : xs.length = r.ar) : (∃ a b c, xs = [a, b, c] ∧ r.ar = 3) ∨ (∃ a b, xs = [a, b] ∧ r.ar = 2) ∨ ∃ a, xs = [a] ∧ r.ar = 1 := by
  match xs, h with
  | [], h => cases r <;> cases h
  | _ :: _ :: _ :: _ :: _, h => exact absurd h (by cases r <;> simp only [List.length_cons, Rl.ar] <;> omega)
  | [a, b, c], h => exact .inl ⟨a, b, c, rfl, h.symm⟩
  | [a, b], h => exact .inr (.inl ⟨a, b, rfl, h.symm⟩)
  | [a], h => exact .inr (.inr ⟨a, rfl, h.symm⟩)
end WL

set_option maxHeartbeats 4000000
/-! More of the layer: comprehensions over steps, new lists against the empty one, lambdas that stay. -/
namespace WX
open PySem PySem.Spec PyProof.Rows L2 Evl WM WL WLam LamX
section
variable {K : PySem.W.Frag} {s : L2.St} {H : Hp} {ta tb te : TE} {t : TT}
theorem el_step {tr : TA} {j : Nat} {vs : List Nat} {lo hi c : Int} {n : Nat} (f : Nat → Bool) (v : Nat → V) (h : EvA tr s H [.int lo, .int hi, .int c]) (hr : RgC lo hi c n) (hn : n ≤ 40000)
    (hw : ∀ x, wipe ((wipe s vs).set j (some x)) vs = wipe s vs)
    (ht : ∀ (i : Nat) H1, Ex H H1 → i < n → EvT t ((wipe s vs).set j (some (.int (lo + (i : Int) * c)))) H1 (f i))
    (he : ∀ (i : Nat) H1, Ex H H1 → i < n → f i = true → Ev te ((wipe s vs).set j (some (.int (lo + (i : Int) * c)))) H1 (v i)) :
    EvL (tLc (iRng3 tr) (gName j) t te vs) s H (given n f v) := by
  intro H0 e Q q
  refine h H0 e _ fun H1 e1 => ⟨lo, hi, c, n, rfl, hr, fun Z hZ => ?_⟩
  refine ⟨fun a b G => b = n - a ∧ a ≤ n ∧ Cw H1 f v Z a G, ⟨n, (Nat.sub_zero n).symm, Nat.zero_le n, hZ, Ex.new hZ, upd_same⟩, ?_⟩
  rintro a b G ⟨hb, ha, p⟩
  by_cases lt : a < n
  · refine .inr ⟨lt, Cw H1 f v Z (a + 1), fun G2 p2 => ⟨n - (a + 1), by omega, rfl, lt, p2⟩, ?_⟩
    rintro x G2 ⟨rfl, rfl⟩
    exact ⟨hw _, cw_turn p (by omega) (ht a H1 (e.trans e1) lt) (fun hf => he a H1 (e.trans e1) lt hf)⟩
  · obtain rfl : a = n := by omega
    exact .inl ⟨Nat.le_refl _, q Z G (fresh_back e1 p.1) (e1.trans p.2.1) p.2.2⟩
theorem given_nil {n : Nat} {f : Nat → Bool} {v : Nat → V} (h : ∀ i, i < n → f i = false) : given n f v = [] := by
  unfold given
  rw [List.filter_eq_nil_iff.mpr fun i hi => ?_]
  · rfl
  · rw [h i (List.mem_range.mp hi)]; decide
theorem given_all {n : Nat} {f : Nat → Bool} {v : Nat → V} (h : ∀ i, i < n → f i = true) : given n f v = (List.range n).map v := by
  unfold given
  rw [List.filter_eq_self.mpr fun i hi => h i (List.mem_range.mp hi)]
theorem nil_ne (ha : EvL ta s H []) : Ev (tOp (rNeD K) ta (tLst tNil)) s H (.bl false) :=
  ev_opLL ha (el_lst ea_nil (Nat.zero_le _)) fun p q H1 hp hq _ H2 e Q k =>
    ⟨.list [], .list [], .lst (sq_of (e _ _ hp)) .nil, .lst (sq_of (e _ _ hq)) .nil, by decide +kernel, by decide +kernel, k H2 (Ex.refl H2)⟩
theorem nil_eq (ha : EvL ta s H []) : Ev (tOp (rEqD K) ta (tLst tNil)) s H (.bl true) :=
  ev_opLL ha (el_lst ea_nil (Nat.zero_le _)) fun p q H1 hp hq _ H2 e Q k =>
    ⟨.list [], .list [], .lst (sq_of (e _ _ hp)) .nil, .lst (sq_of (e _ _ hq)) .nil, by decide +kernel, by decide +kernel, k H2 (Ex.refl H2)⟩
end
/-- the steps of range(a, b, 2) -/
theorem rg2 {a b : Int} (h1 : 0 ≤ a) (h2 : a < b) (h4 : b ≤ 70000) : RgC a b 2 ((b - a - 1) / 2 + 1).toNat ∧ ((b - a - 1) / 2 + 1).toNat ≤ 40000 := by
  have e : Builtin.Range.rangeSize a b 2 = (b - a - 1) / 2 + 1 := by
    unfold Builtin.Range.rangeSize
    rw [if_pos (by decide), if_pos h2]
  refine ⟨⟨by decide, by decide, ?_, ?_⟩, by omega⟩
  · unfold Builtin.Range.small
    rw [e]
    simp only [Builtin.Range.rangeFitsLong, Bool.and_eq_true, Bool.or_eq_true, decide_eq_true_eq, beq_iff_eq, show ((2 : Int) > 0) by decide, if_true]
    omega
  · rw [e]; omega
theorem rg2_none {a b : Int} (h1 : 0 ≤ a) (h2 : b ≤ a) (h3 : 0 ≤ b) (h4 : a ≤ 70000) : RgC a b 2 0 := by
  have e : Builtin.Range.rangeSize a b 2 = 0 := by
    unfold Builtin.Range.rangeSize
    rw [if_pos (by decide), if_neg (by omega)]
  refine ⟨by decide, by decide, ?_, e⟩
  unfold Builtin.Range.small
  rw [e]
  simp only [Builtin.Range.rangeFitsLong, Bool.and_eq_true, Bool.or_eq_true, decide_eq_true_eq, beq_iff_eq, show ((2 : Int) > 0) by decide, if_true]
  omega
theorem lamAt_exb {X : Cx} {d : LamD} {g r a : Addr} {ns : List Int} {H H' : Hp} (R : RowOK X.K H r a ns) (h : LamAt X d g H) (e : ExB r H H') : LamAt X d g H' := by
  obtain ⟨ys, hr⟩ := R.is
  obtain ⟨c', dV, h1, h2, h3⟩ := h
  refine ⟨c', dV, e _ _ (ne_of h1 hr (by unfold LamO; intro z; cases z)) h1, e _ _ (ne_of h2 hr (by unfold CodeO; intro z; cases z)) h2, ?_⟩
  unfold DflOk at *
  cases hd : d.dflt with
  | none => rw [hd] at h3; exact h3
  | some p =>
    rw [hd] at h3
    obtain ⟨t, e1, e2⟩ := h3
    exact ⟨t, e1, e _ _ (ne_of e2 hr (by intro z; cases z)) e2⟩
/-- what counts as an integer -/
inductive Wh (K : PySem.W.Frag) (H : Hp) : V → Bool → Prop
  | int (i : Int) : Wh K H (.int i) true
  | bl (b : Bool) : Wh K H (.bl b) false
  | non : Wh K H .non false
  | str (z : Str) : Wh K H (.str z) false
  | tup {p : Addr} {xs : List V} (h : SqT K H p xs) : Wh K H (.ref p) false
theorem Wh.ex {K : PySem.W.Frag} {H H' : Hp} {v : V} {b : Bool} (h : Wh K H v b) (e : Ex H H') : Wh K H' v b := by
  cases h with
  | int i => exact .int i
  | bl b => exact .bl b
  | non => exact .non
  | str z => exact .str z
  | tup h => exact .tup (ex_t e h)
end WX

set_option maxHeartbeats 4000000
/-! Tables of the module with text keys: their keys as a tuple; calls of what stands in them. -/
namespace WT
open PySem PySem.Spec PyProof.Rows L2 Evl WM WL WLam StX
/-! ### calls of a function that a local name holds -/
def tCallV (Fam : V → Sp → Prop) (E : XK) (tf : TE) (t : TA) : TE := fun σ H Q => tf σ H fun y H1 => ∃ sp, Fam y sp ∧ t σ H1 fun vs H2 => sp vs H2 Q E
def FamOk (P : Program) (w : World) (K : PySem.W.Frag) (mg : Str → Option Value) (base : Heap) (CX : CXT) (k : Nat) (Fam : V → Sp → Prop) : Prop :=
  ∀ y sp, Fam y sp → ∃ f, y = .ref f ∧ FnR P w K mg base CX k f sp ∧ PySem.W.keepIn K (.ref f) = true
section
variable {X : Cx} {CX : CXT} {k : Nat} {Fam : V → Sp → Prop} {E : XK} {x : Str} {e : Expr} {es : List Expr} {te tf : TE} {t : TA} {p sp_ pos : Pos}
theorem pe_callVP (hF : FamOk X.prog X.w X.K X.mg X.base CX k Fam) (hr : Room k X.A) (hx : Passes CX X E) (hf : PE X (.Name x p) tf) (ha : PA X (e :: es) t)
    (he : starEach (e :: es) X.env = (false, eval e X.env) :: starEach es X.env := by rfl) (hst : (backTo pos (starEach es X.env)).any (·.1) = false := by rfl) :
    PE X (.Call (.Name x p) (e :: es) [] pos) (tCallV Fam E tf t) := by
  refine ⟨fun pins s σ H Q I h => wpAny_Call_Name_kw (thn (hf.run pins s σ H _ I h) fun v s1 ⟨y, H1, I1, ry, sp, hfam, q⟩ => ?_)⟩
  obtain ⟨f, rfl, F, hk⟩ := hF _ _ hfam
  obtain rfl : v = Value.ref f := ry
  exact PySem.W.callWith_K (h₀ := X.base) I1.ok.mod.kin hk (thn (ha.run pos pins s1 σ H1 _ I1 q) fun us s2 ⟨vs, H2, I2, r, q2⟩ => ⟨I2.kIn, wpAny_call (run_fnR F hr hx I2 r q2)⟩) he hst
theorem pe_callVS (hF : FamOk X.prog X.w X.K X.mg X.base CX k Fam) (hr : Room k X.A) (hx : Passes CX X E) (hf : PE X (.Name x p) tf) (ha : PA X (e :: es) t)
    (he : starEach (e :: es) X.env = (false, eval e X.env) :: starEach es X.env := by rfl) (hst : (backTo pos (starEach es X.env)).any (·.1) = true := by rfl) :
    PE X (.Call (.Name x p) (e :: es) [] pos) (tCallV Fam E tf t) := by
  refine ⟨fun pins s σ H Q I h => wpAny_Call_Name_kw (thn (hf.run pins s σ H _ I h) fun v s1 ⟨y, H1, I1, ry, sp, hfam, q⟩ => ?_)⟩
  obtain ⟨f, rfl, F, hk⟩ := hF _ _ hfam
  obtain rfl : v = Value.ref f := ry
  exact PySem.W.callWith_S2 (h₀ := X.base) I1.ok.mod.kin hk (thn (ha.run pos pins s1 σ H1 _ I1 q) fun us s2 ⟨vs, H2, I2, r, q2⟩ => ⟨I2.kIn, wpAny_call (run_fnR F hr hx I2 r q2)⟩) he hst
/-- the only argument starred -/
def tStar1 (K : PySem.W.Frag) (te : TE) : TA := fun σ H Q => te σ H fun y H1 => ∃ a xs, y = V.ref a ∧ (SqT K H1 a xs ∨ SqL K H1 a xs) ∧ Q xs H1
theorem pe_callV1 (hF : FamOk X.prog X.w X.K X.mg X.base CX k Fam) (hr : Room k X.A) (hx : Passes CX X E) (hf : PE X (.Name x p) tf) (he : PE X e te)
    (hst : starEach [.Starred e sp_] X.env = [(true, eval e X.env)] := by rfl) :
    PE X (.Call (.Name x p) [.Starred e sp_] [] pos) (tCallV Fam E tf (tStar1 X.K te)) := by
  refine ⟨fun pins s σ H Q I h => wpAny_Call_Name_kw (thn (hf.run pins s σ H _ I h) fun v s1 ⟨y, H1, I1, ry, sp, hfam, q⟩ => ?_)⟩
  obtain ⟨f, rfl, F, hk⟩ := hF _ _ hfam
  obtain rfl : v = Value.ref f := ry
  refine PySem.W.callWith_S (h₀ := X.base) I1.ok.mod.kin hk (thn (he.run pins s1 σ H1 _ I1 q) fun v s2 ⟨y, H2, I2, ry, a, xs, ey, hxs, q2⟩ => ?_) hst
  subst ey
  obtain rfl : v = Value.ref a := ry
  exact star_any I2 hxs fun us s3 I3 rv => ⟨I3.kIn, wpAny_call (run_fnR F hr hx I3 rv q2)⟩
end
section
variable {P : Program} {w : World} {K : PySem.W.Frag} {mg : Str → Option Value} {base : Heap} {CX : CXT} {k : Nat} {sp : Sp} {ps : List Str} {x : Str}
theorem _root_.WL.Cal.raw (C : Cal P w K mg base CX k x ps sp) : ∃ f, mg x = some (.ref f) ∧ FnR P w K mg base CX k f sp ∧ PySem.W.keepIn K (.ref f) = true := by
  obtain ⟨f, fd, F, hm, hk, hb⟩ := C
  refine ⟨f, hm, (F.raw hb .nil).imp fun vs H Q E h => ?_, hk⟩
  show sp (vs ++ []) H Q E
  rw [List.append_nil]; exact h
end
/-! ### the keys of a table -/
theorem dicW_keys {K : PySem.W.Frag} {w : World} {a : Addr} {ks : List Str} (h : He.dicW K a = some (He.keysIn w.params ks)) : ∃ es n, KDict K w a es n ∧ es.toList.map He.keyOf = He.keysIn w.params ks := by
  obtain ⟨es, n, D⟩ := He.dicW_ok h
  refine ⟨es, n, D, ?_⟩
  unfold He.dicW at h
  rw [D.at_] at h
  simpa [D.low] using h
section
variable {prog : Program} {w : World} {A : Around} {E : Value → Shared → Prop} {s : Shared} {T : String} {r d : Addr} {n : Nat} {Pv : Nat → Value → Prop} {OK : Heap → Prop}
theorem collect_src {Q : List Value → Shared → Prop} (K : PySem.W.KdlSrc prog w T r d n Pv OK) (hh : A.handled = none) (hok : OK s.heap) (hn : n ≤ sizeLine)
    (hQ : ∀ (h' : Heap) (tk : Nat) (acc : Array Value), (∀ b o, s.heap.get? b = some o → h'.get? b = some o) → ItemsOf Pv acc n → Q acc.toList { s with heap := h', toks := tk }) : wpAny (model prog w) A (collect (.ref r)) Q E s := by
  have lt := K.there _ hok
  have nS : (s.heap.push { cls := .type "list", data := .seq ([] : List Value).toArray }).get? s.heap.objs.size = some { cls := .type "list", data := .seq #[] 0 } := Heap.get?_push_size _ rfl
  unfold collect
  (refine wpAny_bind (wpAny_runValue (codeAny_builtin F.entry_proto_collect ?_)); rw [Around.under_plainId F.plain_proto_collect _])
  (show wpAny _ A.in1 (newList [] >>= fun z => again (.builtin "list.__iadd__" ⟨[z, .ref r], []⟩)) _ _ s; refine wpAny_bind (wpAny_newObj_type ?_))
  (refine wpAny_pure ⟨plainId_quiet F.plain_list_iadd _, codeAny_builtin F.entry_list_iadd ?_⟩; rw [Around.under_plainId F.plain_list_iadd _])
  show wpAny _ A.in1 (Builtin.List.listExtendWith (.ref s.heap.objs.size) (.ref r) (.ref s.heap.objs.size)) _ _ _
  refine wpAny_mono (PySem.W.kdl_extend (A := A) (s := { s with heap := s.heap.push { cls := .type "list", data := .seq ([] : List Value).toArray } })
    (R := fun res s' => res = .ok (.ret (.ref s.heap.objs.size)) ∧ ∃ (h' : Heap) (tk : Nat) (acc : Array Value) (c' : Nat), s' = { s with heap := h', toks := tk } ∧ (∀ b o, s.heap.get? b = some o → h'.get? b = some o) ∧
      h'.get? s.heap.objs.size = some { cls := .type "list", dict := none, data := .seq acc c', slots := #[] } ∧ ItemsOf Pv acc n)
    K hh (K.keep _ _ hok fun b _ o e => Heap.get?_push_of_some _ e) s.heap.objs.size (Nat.ne_of_gt lt.1) (Nat.ne_of_gt lt.2) _ 0 nS
    (fun h' tk acc c' hk hS hi => ⟨rfl, h', tk, acc, c', rfl, fun b o q => hk b o (Nat.ne_of_lt (Heap.lt_size q)) (Heap.get?_push_of_some _ q), hS, hi⟩) hn) (fun fin s' h => ?_) (fun e s' h => absurd h.1 (by simp))
  cases fin with
  | done f =>
    obtain ⟨z, h', tk, acc, c', rfl, hk, hS, hi⟩ := h
    cases z
    (show wpAny _ A (load s.heap.objs.size >>= _) _ _ _; exact wpAny_bind (wpAny_load hS (wpAny_pure (hQ h' tk acc hk hi))))
  | again c' =>
    refine ⟨h.1, codeAny_mono h.2 fun res s'' hz => ?_⟩
    obtain ⟨rfl, h', tk, acc, c', rfl, hk, hS, hi⟩ := hz
    (show wpAny _ A (load s.heap.objs.size >>= _) _ _ _; exact wpAny_bind (wpAny_load hS (wpAny_pure (hQ h' tk acc hk hi))))
theorem code_tuple_src {Q₁ : Value → Shared → Prop} (K : PySem.W.KdlSrc prog w "dict" r d n Pv OK) (hh : A.handled = none) (hok : OK s.heap) (hn : n ≤ sizeLine)
    (h : ∀ (h' : Heap) (tk : Nat) (acc : Array Value), (∀ b o, s.heap.get? b = some o → h'.get? b = some o) → ItemsOf Pv acc n → Q₁ (.ref h'.objs.size) { s with heap := h'.push { cls := .type "tuple", data := .seq acc }, toks := tk }) :
    codeAny (model prog w) A (.call (.builtin "tuple.__new__") ⟨[.type "tuple", .ref r], []⟩) (wants Q₁ E) s := by
  (refine codeAny_of_tree ?_; show wpAny _ A.in1 (do checkBuiltinCall "tuple.__new__" ⟨[.type "tuple", .ref r], []⟩; again (.builtin "tuple.__new__" ⟨[.type "tuple", .ref r], []⟩)) _ _ s)
  (refine wpAny_bind (wpAny_of_eq (F.newCall_tuple_1 _) (wpAny_pure ⟨plainId_quiet F.plain_tuple_new _, codeAny_builtin F.entry_tuple_new ?_⟩)); rw [Around.under_plainId F.plain_tuple_new _])
  have k1 := sub_tuple_self
  have k2 := init_tuple_lookup
  have k3 := madeHere_tuple
  have k4 := K.type s hok
  have k5 : A.in1.handled = none := hh
  wp_walk using wpAny_typeOf k4, collect_src (A := A.in1) K k5 hok hn
  intro h' tk acc hk hacc
  (show wpAny _ _ (Builtin.Tuple.tupleExact acc.toList.toArray >>= fun v => ret v) _ _ _; unfold Builtin.Tuple.tupleExact)
  refine wpAny_bind (wpAny_newObj_type ?_ (by show acc.toList.toArray.size ≤ sizeLine; simp only [Array.toArray_toList]; rw [hacc.1]; exact hn))
  refine wpAny_pure ?_
  rw [show acc.toList.toArray = acc by simp]
  exact h h' tk acc hk hacc
theorem call_tuple_src {Q : Value → Shared → Prop} (K : PySem.W.KdlSrc prog w "dict" r d n Pv OK) (hh : A.handled = none) (hok : OK s.heap) (hn : n ≤ sizeLine)
    (hQ : ∀ (h' : Heap) (tk : Nat) (acc : Array Value), (∀ b o, s.heap.get? b = some o → h'.get? b = some o) → ItemsOf Pv acc n → Q (.ref h'.objs.size) { s with heap := h'.push { cls := .type "tuple", data := .seq acc }, toks := tk }) :
    wpAny (model prog w) A (call (.type "tuple") [.ref r]) Q E s := by
  refine callType_codes (Q₁ := fun ob z => z.TypeIs ob "tuple" ∧ Q ob z) F.called_tuple (F.typeCall_tuple_1 _) F.entry_object_init
    (code_tuple_src (A := A.in1) K hh hok hn fun h' tk acc hk hacc => ⟨⟨_, Heap.get?_push_size _ rfl, rfl⟩, hQ h' tk acc hk hacc⟩) fun ob z hz => ?_
  exact ⟨hz.1, F.args_object_init_2 ob _, object_init_meets F.called_tuple.init.lookup F.called_tuple.made (by decide) prog w A.in1 _ z ⟨hz.1, rfl, hz.2⟩⟩
end
def rTupD (K : PySem.W.Frag) (w : World) : List V → Hp → VK → Prop := fun xs H Q => ∃ d es n ks, xs = [.ref d] ∧ KDict K w d es n ∧ es.toList.map He.keyOf = He.keysIn w.params ks ∧ ks.length ≤ 100000 ∧ ∀ q, H q = none → Q (.ref q) (upd H q (.tup (ks.map V.str)))
theorem call_tuple_kd {X : Cx} (hc : X.calm = true) : CallR X (.type "tuple") (rTupD X.K X.w) := by
  intro pins s σ H xs us Q I r h
  obtain ⟨d, es, n, ks, rfl, D, hks, hz, q⟩ := h
  obtain ⟨u, rfl, rx⟩ := vals1 r
  obtain rfl : u = Value.ref d := rx
  have hat := I.kIn _ _ D.at_
  have hl : es.size = ks.length := by
    have := congrArg List.length hks
    simpa [He.keysIn] using this
  refine call_tuple_src (kdl_raw (es := es) (ep := n) D.low ⟨rfl, rfl, rfl⟩ rfl) (I.ok.hd hc) hat (by rw [hl]; exact sz_of hz) fun h' tk acc hk hacc => ?_
  have rv : Vals (ks.map V.str) acc.toList := by
    refine vals_of_at (by simp [hacc.1, hl]) fun j x v h1 h2 => ?_
    rw [Array.getElem?_toList] at h2
    obtain ⟨en, he, rfl⟩ := hacc.2 j v h2
    have h3 := congrArg (fun l => l[j]?) hks
    have e1 : (es.toList.map He.keyOf)[j]? = some (He.keyOf en) := by
      rw [List.getElem?_map, Array.getElem?_toList, he]; rfl
    rw [List.getElem?_map] at h1
    cases hk : ks[j]? with
    | none => rw [hk] at h1; cases h1
    | some z =>
      rw [hk] at h1
      cases h1
      have e2 : (He.keysIn X.w.params ks)[j]? = some (some (z, PyData.keyHash X.w.params z)) := by
        unfold He.keysIn
        rw [List.getElem?_map, hk]; rfl
      have e3 : some (He.keyOf en) = some (some (z, PyData.keyHash X.w.params z)) := by rw [← e1, ← e2, hks]
      have e4 := Option.some.inj e3
      unfold He.keyOf at e4
      split at e4
      · rename_i y t hy
        rw [hy, ← (Prod.mk.inj (Option.some.inj e4)).1]
        exact ⟨t, rfl⟩
      · cases e4
  have I1 : Inv X pins σ H { s with heap := h', toks := tk } := I.kept hk
  have I2 : Inv X pins σ (upd H h'.objs.size (.tup (ks.map V.str))) { s with heap := h'.push { cls := .type "tuple", data := .seq acc }, toks := tk } :=
    I1.laid (t' := tk) (fun b o e => Heap.get?_push_of_some _ e) (Nat.le_refl _) (show ObjOk X.prog X.w _ _ _ (.tup (ks.map V.str)) from ⟨by rw [List.length_map]; exact sz_of hz, acc.toList, rv, by rw [Array.toArray_toList]; exact IsTup.new _ _⟩)
  exact ⟨.ref h'.objs.size, _, I2, rfl, q _ (I1.hok.fresh (Nat.le_refl _))⟩
end WT

set_option maxHeartbeats 4000000
/-! More of the layer for the program's defs: new tuples handed on, tables, lists of draws. -/
namespace WU
open PySem PySem.Spec PyProof.Rows L2 Evl WM WL WLam WX WT StX
/-- what the operations take of a format -/
def tV (f : Fmt) : List V := [.int (lo f), .int (hi f), .str (ovS f.ov), .str (dvS f.dv)]
section
variable {K : PySem.W.Frag} {s : L2.St} {H : Hp} {ta tb te tf : TE} {t : TA} {v y : V} {D : Ends} {tz : TS} {E : XK} {w : World} {xs ys vs : List V}
theorem bl_unp2U {i j n : Nat} {a b : V} (h : EvU te s H [a, b]) (hn : 2 = n) (kk : ∀ H1, Ex H H1 → Bl tz D ((s.set i (some a)).set j (some b)) H1) :
    Bl (tSeq (tAsg te (gTup K n (gCons (gName i) (gCons (gName j) gNil)))) tz) D s H := fun H1 e =>
  h H1 e _ fun p H2 hp e2 hx => ⟨p, [a, b], rfl, st_of hx, hn, _, _, rfl, _, _, rfl, rfl, kk H2 (e.trans e2) H2 (Ex.refl H2)⟩
theorem bl_retUE (h : EvU te s H xs) (k : RetU ys H D.rt) (e : xs = ys) : Bl (tRet te) D s H := bl_retU h (by rw [e]; exact k)
theorem eu_is (h : EvU te s H xs) (e : xs = ys) : EvU te s H ys := by rw [← e]; exact h
theorem ev_own1U {R : List V → Hp → V → Prop} (h : EvU te s H xs) (hl : EvA t s H vs) (k : ∀ q H1, Ex H H1 → H1 q = some (.tup xs) → R (.ref q :: vs) H1 v) : Ev (tCall (Pu R) [] E (tCons te t)) s H v := fun H1 e Q q =>
  h H1 e _ fun p H2 hp e2 hx => hl H2 (e.trans e2) _ fun H3 e3 => by
    show Pu R ((V.ref p :: vs) ++ []) H3 Q E
    rw [List.append_nil]
    exact ⟨v, k p H3 ((e.trans e2).trans e3) (e3 _ _ hx), fun H4 e4 => q H4 ((e2.trans e3).trans e4)⟩
theorem pe_globS {X : Cx} {x : Str} {z : Str} {pos : Pos} (hg : Gl X x) (hm : ∃ t, X.mg x = some (.str z t)) (hd : (x == ("__debug__" : Str)) = false := by decide) : PE X (.Name x pos) (tC (.str z)) := by
  obtain ⟨t, hm⟩ := hm
  exact pe_glob hg hm ⟨_, rfl⟩ hd
theorem ev_own2U {R : List V → Hp → V → Prop} (h1 : EvU ta s H xs) (h2 : EvU tb s H ys) (k : ∀ p q H1, Ex H H1 → H1 p = some (.tup xs) → H1 q = some (.tup ys) → R [.ref p, .ref q] H1 v) : Ev (tCall (Pu R) [] E (tCons ta (tCons tb tNil))) s H v := fun H1 e Q q =>
  h1 H1 e _ fun p H2 _ e2 hx => h2 H2 (e.trans e2) _ fun p2 H3 _ e3 hy => by
    show Pu R ([V.ref p, V.ref p2] ++ []) H3 Q E
    exact ⟨v, k p p2 H3 ((e.trans e2).trans e3) (e3 _ _ hx) hy, fun H4 e4 => q H4 ((e2.trans e3).trans e4)⟩
theorem ev_own3U {x z : V} {tu : TE} {R : List V → Hp → V → Prop} (h1 : Ev ta s H x) (h2 : Ev tb s H z) (h3 : EvU tu s H ys) (k : ∀ p H1, Ex H H1 → H1 p = some (.tup ys) → R [x, z, .ref p] H1 v) : Ev (tCall (Pu R) [] E (tCons ta (tCons tb (tCons tu tNil)))) s H v := fun H1 e Q q =>
  h1 H1 e _ fun H2 e2 => h2 H2 (e.trans e2) _ fun H3 e3 => h3 H3 ((e.trans e2).trans e3) _ fun p H4 _ e4 hy => by
    show Pu R ([x, z, V.ref p] ++ []) H4 Q E
    exact ⟨v, k p H4 (((e.trans e2).trans e3).trans e4) hy, fun H5 e5 => q H5 (((e2.trans e3).trans e4).trans e5)⟩
/-- tuple(a new list) -/
theorem eu_tupOf (h : EvL te s H xs) : EvU (tCB (fun zs H Q => ∃ p ys, zs = [V.ref p] ∧ ((SqL K H p ys ∧ ∀ l, H l = none → Q (.ref l) (upd H l (.tup ys))) ∨ (SqT K H p ys ∧ Q (.ref p) H))) (tCons te tNil)) s H xs := fun H1 e Q q =>
  h H1 e _ fun p H2 _ e2 hx => ⟨p, xs, rfl, .inl ⟨sq_of hx, fun l hl => q l _ (fresh_back e2 hl) (e2.trans (Ex.new hl)) upd_same⟩⟩
/-- tuple(a list) -/
theorem eu_tupOfL {l : Addr} (h : Ev te s H (.ref l)) (hx : SqL K H l xs) : EvU (tCB (fun zs H Q => ∃ p ys, zs = [V.ref p] ∧ ((SqL K H p ys ∧ ∀ l, H l = none → Q (.ref l) (upd H l (.tup ys))) ∨ (SqT K H p ys ∧ Q (.ref p) H))) (tCons te tNil)) s H xs := fun H1 e Q q =>
  h H1 e _ fun H2 e2 => ⟨l, xs, rfl, .inl ⟨ex_l (e.trans e2) hx, fun p hp => q p _ (fresh_back e2 hp) (e2.trans (Ex.new hp)) upd_same⟩⟩
theorem kit_tt {K : PySem.W.Frag} : PySem.W.kitAny K (.type "tuple") [.type "tuple", .type "list"] = some true :=
  kitAny_cons (b := true) (kit_ty (by decide +kernel)) (fun z => by cases z) (fun _ => rfl)
theorem ev_isTT {p : Addr} {zs : List V} {te' : TE} (h : Ev te' s H (.ref p)) (hz : SqT K H p zs) : Ev (tCB (rIsiT K) (tCons te' (tCons (tTup (tCons (tC (.ty "tuple")) (tCons (tC (.ty "list")) tNil))) tNil))) s H (.bl true) :=
  ev_isiT h (ea_cons ev_c (ea_cons ev_c ea_nil)) (Nat.le_of_ble_eq_true rfl) (.cons (.ty _) (.cons (.ty _) .nil)) (fun _ e => tyx_T (ex_t e hz)) kit_tt
theorem el_is (h : EvL te s H xs) (e : xs = ys) : EvL te s H ys := by rw [← e]; exact h
theorem osm_op2 {f : Fmt} {g : Int → Int → Int} {x y : Option Int} : OSm (op2 f g x y) := by
  cases x <;> cases y <;> first | exact osm_fit | (intro i h; cases h)
theorem osm_add {f : Fmt} {x y : Option Int} : OSm (addO f x y) := osm_op2
theorem osm_sub {f : Fmt} {x y : Option Int} : OSm (subO f x y) := osm_op2
theorem osm_mul {f : Fmt} {x y : Option Int} : OSm (mulO f x y) := osm_op2
theorem osm_dvo {f : Fmt} {x y : Option Int} : OSm (divO f x y) := osm_op2
theorem osm_neg {f : Fmt} {x : Option Int} : OSm (negO f x) := by
  cases x <;> first | exact osm_fit | (intro i h; cases h)
theorem osm_rem {f : Fmt} {a b : Int} : OSm (remO f a b) := osm_fit
/-! ### tables -/
def KDE (K : PySem.W.Frag) (w : World) (a : Addr) : Prop := ∃ es n, KDict K w a es n
def rNotKD (K : PySem.W.Frag) (d : Addr) : R2 := fun x y H Q => ∃ (z : Str) (r : Option Value), x = .str z ∧ y = .ref d ∧ PySem.W.nsIn K d z = some r ∧ Q (.bl (!r.isSome)) H
theorem op_notKD {X : Cx} {d : Addr} (h : KDE X.K X.w d) : OpR X (compareOp .NotIn) (rNotKD X.K d) := by
  obtain ⟨es, n, D⟩ := h
  exact op_notIn_kd D
theorem rv_notKD {d : Addr} {z : Str} (h : KDct K w d z v) : RV (rNotKD K d) (.str z) (.ref d) H (.bl false) := fun H1 e Q q => by
  obtain ⟨es, n, u, _, _, hu, _⟩ := h
  exact ⟨z, some u, rfl, rfl, hu, q H1 (Ex.refl H1)⟩
def rInKD (K : PySem.W.Frag) (d : Addr) : R2 := fun x y H Q => ∃ (z : Str) (r : Option Value), x = .str z ∧ y = .ref d ∧ PySem.W.nsIn K d z = some r ∧ Q (.bl r.isSome) H
theorem op_inKD {X : Cx} {d : Addr} (h : KDE X.K X.w d) : OpR X (compareOp .In) (rInKD X.K d) := by
  obtain ⟨es, n, D⟩ := h
  exact op_in_kd D
theorem rv_inKD {d : Addr} {z : Str} (h : KDct K w d z v) : RV (rInKD K d) (.str z) (.ref d) H (.bl true) := fun H1 e Q q => by
  obtain ⟨es, n, u, _, _, hu, _⟩ := h
  exact ⟨z, some u, rfl, rfl, hu, q H1 (Ex.refl H1)⟩
theorem rv_ixKD {p : Addr} {z : Str} (h : KDct K w p z v) : RV (rIxD K w) (.ref p) (.str z) H v := fun H1 e Q q => ⟨p, z, v, rfl, rfl, h, q H1 (Ex.refl H1)⟩
theorem kdct_of {a : Addr} {kvs : List (Str × He.Dv)} (h : KDE K w a) (hv : He.valsB K a kvs = true) {q : Str × He.Dv} (hq : q ∈ kvs) : KDct K w a q.1 (q.2.v K) := by
  obtain ⟨es, n, D⟩ := h
  obtain ⟨u, hu, ru⟩ := He.valsB_ok hv hq
  exact ⟨es, n, u, D.at_, D.lit, hu, ru⟩
/-! ### calls of what a name holds -/
theorem ev_callV {Fam : V → Sp → Prop} {R : List V → Hp → V → Prop} (hf : Ev tf s H y) (hF : Fam y (Pu R)) (ha : EvA t s H vs) (k : ∀ H1, Ex H H1 → R vs H1 v) : Ev (tCallV Fam E tf t) s H v := fun H1 e Q q =>
  hf H1 e _ fun H2 e2 => ⟨_, hF, ha H2 (e.trans e2) _ fun H3 e3 => ⟨v, k H3 ((e.trans e2).trans e3), fun H4 e4 => q H4 ((e2.trans e3).trans e4)⟩⟩
theorem eu_callV {Fam : V → Sp → Prop} {R : List V → Hp → List V → Prop} (hf : Ev tf s H y) (hF : Fam y (PuT R)) (ha : EvA t s H vs) (k : ∀ H1, Ex H H1 → R vs H1 xs) : EvU (tCallV Fam E tf t) s H xs := fun H1 e Q q =>
  hf H1 e _ fun H2 e2 => ⟨_, hF, ha H2 (e.trans e2) _ fun H3 e3 => ⟨xs, k H3 ((e.trans e2).trans e3), fun p H4 hp e4 h4 => q p H4 (fresh_back (e2.trans e3) hp) ((e2.trans e3).trans e4) h4⟩⟩
theorem ea_star {p : Addr} (h : Ev te s H (.ref p)) (hx : SqT K H p xs) (hr : EvA t s H ys) : EvA (tStar K te t) s H (xs ++ ys) := fun H1 e Q q =>
  h H1 e _ fun H2 e2 => ⟨p, xs, rfl, .inl (ex_t (e.trans e2) hx), hr H2 (e.trans e2) _ fun H3 e3 => q H3 (e2.trans e3)⟩
theorem ea_star1 {p : Addr} (h : Ev te s H (.ref p)) (hx : SqT K H p xs) : EvA (tStar1 K te) s H xs := fun H1 e Q q =>
  h H1 e _ fun H2 e2 => ⟨p, xs, rfl, .inl (ex_t (e.trans e2) hx), q H2 e2⟩
/-- tuple(a table) -/
theorem eu_keys {d : Addr} {ks : List Str} (h : Ev te s H (.ref d)) (hk : ∃ es n, KDict K w d es n ∧ es.toList.map He.keyOf = He.keysIn w.params ks) (hz : ks.length ≤ 100000) : EvU (tCB (rTupD K w) (tCons te tNil)) s H (ks.map V.str) := fun H1 e Q q => by
  obtain ⟨es, n, D, hh⟩ := hk
  exact h H1 e _ fun H2 e2 => ⟨d, es, n, ks, rfl, D, hh, hz, fun p hp => q p _ (fresh_back e2 hp) (e2.trans (Ex.new hp)) upd_same⟩
end
section
variable {K : PySem.W.Frag} {s : L2.St} {H : Hp} {te : TE} {ta : TA} {r a : Addr} {ns : List Int} {Q : VK}
/-- [draw for k in range(n)]: a new list of what is drawn -/
theorem lc_draws {Pd : Int → Prop} {j : Nat} {vs : List Nat} {n : Nat} (h : EvA ta s H [.int (n : Int)]) (hn : n ≤ 1000) (R : RowOK K H r a ns) (hw : ∀ x, wipe ((wipe s vs).set j (some x)) vs = wipe s vs)
    (step : ∀ (i : Nat) (H1 : Hp) (Q1 : VK), i < n → RowOK K H1 r a ns → ExB r H H1 → (∀ (v : Int) (H2 : Hp), Pd v → RowOK K H2 r a ns → ExB r H1 H2 → Q1 (.int v) H2) → te ((wipe s vs).set j (some (.int (i : Int)))) H1 Q1)
    (k : ∀ (l : Addr) (xs : List Int) (H1 : Hp), xs.length = n → (∀ x ∈ xs, Pd x) → H l = none → H1 l = some (.lst (xs.map V.int)) → RowOK K H1 r a ns → ExB r H H1 → Q (.ref l) H1) :
    tLc (iRng1 ta) (gName j) tYes te vs s H Q := by
  refine h H (Ex.refl H) _ fun H0 e0 => ⟨(n : Int), rfl, by omega, by omega, fun Z hZ => ?_⟩
  have R0 : RowOK K H0 r a ns := R.ex e0
  have hZr : Z ≠ r := R0.fresh hZ
  refine ⟨fun i m H1 => m = n - i ∧ i ≤ n ∧ ∃ xs : List Int, xs.length = i ∧ (∀ x ∈ xs, Pd x) ∧ H1 Z = some (.lst (xs.map V.int)) ∧ RowOK K H1 r a ns ∧ ExB r H0 H1, ⟨n, by omega, Nat.zero_le _, [], rfl, (fun x hx => absurd hx List.not_mem_nil), upd_same, R0.new hZ, ExB.of (Ex.new hZ)⟩, ?_⟩
  rintro i m H1 ⟨hm, hi, xs, hl, hx, hz, R1, e1⟩
  by_cases lt : i < n
  · refine .inr ⟨by show i < (n : Int).toNat; omega, fun H2 => ∃ ys : List Int, ys.length = i + 1 ∧ (∀ x ∈ ys, Pd x) ∧ H2 Z = some (.lst (ys.map V.int)) ∧ RowOK K H2 r a ns ∧ ExB r H0 H2, fun H2 ⟨ys, h1, h2, h3, h4, h5⟩ => ⟨n - (i + 1), by omega, rfl, lt, ys, h1, h2, h3, h4, h5⟩, ?_⟩
    rintro x H2 ⟨rfl, rfl⟩
    rw [Int.zero_add]
    refine ⟨hw _, ?_⟩
    refine step i _ _ lt R1 ((ExB.of e0).trans e1) fun v H3 hv R3 e3 => ?_
    have z3 := e3 Z _ hZr hz
    refine ⟨_, z3, sz_lt (by rw [List.length_map]; omega), xs ++ [v], by rw [List.length_append, hl]; rfl, fun x hx' => ?_, ?_, ?_, ?_⟩
    · rcases List.mem_append.mp hx' with q | q
      · exact hx x q
      · rw [List.mem_singleton.mp q]; exact hv
    · rw [upd_same, List.map_append]; rfl
    · obtain ⟨p, s0, t, h1, h2, h3, hr⟩ := R3.row
      refine ⟨⟨p, s0, t, h1, h2, h3, by rw [upd_ne (Ne.symm hZr)]; exact hr⟩, ?_, R3.len⟩
      have sc := R.scr
      have eb : ExB r H (upd H3 Z (.lst (xs.map V.int ++ [.int v]))) := fun b o nb hb => by
        have := e0 _ _ hb
        rw [upd_ne (ne_of_none this hZ)]
        exact e3 _ _ nb (e1 _ _ nb this)
      exact R.scrB eb
    · exact fun b o nb hb => by
        rw [upd_ne (ne_of_none hb hZ)]
        exact e3 _ _ nb (e1 _ _ nb hb)
  · obtain rfl : i = n := by omega
    exact .inl ⟨by show (i : Int).toNat ≤ i; omega, k Z xs H1 hl hx (fresh_back e0 hZ) hz R1 ((ExB.of e0).trans e1)⟩
end
/-- a def that stands under another name than its own -/
def DefAtN (K : PySem.W.Frag) (mg : Str → Option Value) (x nm : Str) (st : Stmt) : Prop :=
  ∃ (f : Addr) (fd : FuncData), FunD K nm nm (defArgs st) (defBody st) (defScope st) [] [] f fd ∧ mg x = some (.ref f)
section
variable {P : Program} {w : World} {K : PySem.W.Frag} {mg : Str → Option Value} {base : Heap} {k : Nat} {sp : Sp} {ps : List Str}
theorem DefAtN.cal {x nm : Str} {st : Stmt} {N : List Str} (D : DefAtN K mg x nm st) (S : FnScope N ps (defScope st)) (len : ∀ vs H Q E, sp vs H Q E → vs.length = ps.length)
    (hb : ∀ (kV doc pm : Value) (an : Option Addr) (cdv ct : Value) (us : List Value), us.length = ps.length → bindArgs (PySem.W.fnOf nm nm (defArgs st) (defBody st) (defScope st) .none kV doc pm an cdv ct) ⟨us, []⟩ = pure (ps.zip us))
    (hbody : ∀ (f : Addr) (cdv : Value) (A : Around) (outer : List Env) (s : Shared) (H : Hp) (vs : List V) (Q : VK) (E : XK), Room k (A.deeper (envOfC nm (defScope st) s.heap.objs.size f cdv)) → sp vs H Q E →
      ∃ t, PSs (cxOf CX0 P w K mg base N nm (defScope st) f cdv A outer s H E).nox (defBody st) t ∧ t { nx := fun _ H' => Q .non H', rt := Q } (start N vs) H) : Cal P w K mg base CX0 (k + 1) x ps sp := by
  obtain ⟨f, fd, F, hm⟩ := D
  refine ⟨f, fd, F.ok S len fun cdv A outer s H vs Q E hr hs => ?_, hm, F.kp, F.bindsN hb⟩
  obtain ⟨t, ht, q⟩ := hbody f cdv A outer s H vs Q E hr hs
  exact ⟨t, ht.nox, q⟩
end
theorem mem_rl {v : V} (h : v ∈ rlV) : ∃ r, v = .str (rlS r) := by
  unfold rlV at h
  obtain ⟨r, _, e⟩ := List.mem_map.mp h
  exact ⟨r, e.symm⟩
theorem flat_rl : ∀ x ∈ rlV, flatV x = true := fun x h => by
  obtain ⟨r, rfl⟩ := mem_rl h
  rfl
end WU

set_option maxHeartbeats 4000000
/-! Dicts that are written, kept and filled on. -/
namespace WL
open PySem PySem.Spec PyProof.Rows L2 Evl WM
/-- a new dict -/
def EvD (te : TE) (s : L2.St) (H : Hp) (kvs : List (Key × V)) : Prop := ∀ H1, Ex H H1 → ∀ Q : VK, (∀ p H2, H1 p = none → Ex H1 H2 → H2 p = some (.dK kvs) → Q (.ref p) H2) → te s H1 Q
section
variable {s : L2.St} {H : Hp} {ta tb te td : TE} {D : Ends} {tz : TS} {v : V}
theorem ed_disp {trs : List (TE × TE)} {kvs : List (Key × V)} (h : Paired (fun a b => EvP a s H b) trs kvs) (hl : kvs.length ≤ 15) : EvD (tDisp trs) s H (mergeK [] kvs) := fun H1 e Q q p hp => by
  refine pairs_ev h (upd H1 p (.dK [])) (e.trans (Ex.new hp)) _ fun H2 e2 => ?_
  refine ⟨e2 p _ upd_same, kvs, rfl, hl, ?_⟩
  refine q p _ hp (fun a o ha => ?_) upd_same
  rw [upd_ne (ne_of_none ha hp)]
  exact e2 a o (by rw [upd_ne (ne_of_none ha hp)]; exact ha)
theorem bl_setD {i : Nat} {kvs : List (Key × V)} (h : EvD te s H kvs) (k : ∀ p H1, H p = none → Ex H H1 → H1 p = some (.dK kvs) → Bl tz D (s.set i (some (.ref p))) H1) : Bl (tSeq (tAsg te (gName i)) tz) D s H := fun H1 e =>
  h H1 e _ fun p H2 hp e2 hx => k p H2 (fresh_back e hp) (e.trans e2) hx H2 (Ex.refl H2)
/-- d[k] = v -/
theorem bl_put {d : Addr} {kvs : List (Key × V)} {k : Key} (hl : H d = some (.dK kvs)) (hv : Ev te s H v) (hd : Ev td s H (.ref d)) (hk : Ev tb s H (kV k)) (hn : kvs.length < 100000)
    (kk : ∀ H1, Ex H H1 → tz D s (upd H1 d (.dK (putK kvs k v)))) : Bl (tSeq (sDPut td tb te) tz) D s H := fun H1 e =>
  hv H1 e _ fun H2 e2 => hd H2 (e.trans e2) _ fun H3 e3 => hk H3 ((e.trans e2).trans e3) _ fun H4 e4 =>
    ⟨d, _, rfl, DPut.k ((((e.trans e2).trans e3).trans e4) _ _ hl) (sz_lt hn), kk H4 (((e.trans e2).trans e3).trans e4)⟩
theorem bl_putS {d : Addr} {kvs : List (Key × V)} {z : Str} (hl : H d = some (.dK kvs)) (hv : Ev te s H v) (hd : Ev td s H (.ref d)) (hk : Ev tb s H (.str z)) (hn : kvs.length < 100000)
    (kk : ∀ H1, Ex H H1 → tz D s (upd H1 d (.dK (putK kvs (Sum.inr z) v)))) : Bl (tSeq (sDPut td tb te) tz) D s H := bl_put (k := Sum.inr z) hl hv hd hk hn kk
/-- targets filled out of a tuple made on the way -/
theorem bl_asgU {g : TG} {xs : List V} (h : EvU te s H xs) (k : ∀ p H1, H p = none → Ex H H1 → H1 p = some (.tup xs) → g (.ref p) s H1 fun s' H' => tz D s' H') : Bl (tSeq (tAsg te g) tz) D s H := fun H1 e =>
  h H1 e _ fun p H2 hp e2 hx => k p H2 (fresh_back e hp) (e.trans e2) hx
/-- d[k] of a dict that is kept -/
theorem ev_get {d : Addr} {kvs : List (Key × V)} {k : Key} (hl : H d = some (.dK kvs)) (hd : Ev td s H (.ref d)) (hk : Ev tb s H (kV k)) (hv : valV kvs k = some v) : Ev (tDGet td tb) s H v := fun H1 e Q q =>
  hd H1 e _ fun H2 e2 => hk H2 (e.trans e2) _ fun H3 e3 => ⟨d, v, rfl, by rw [← hv]; exact DGet.k (((e.trans e2).trans e3) _ _ hl), q H3 (e2.trans e3)⟩
theorem ev_getS {d : Addr} {kvs : List (Key × V)} {z : Str} (hl : H d = some (.dK kvs)) (hd : Ev td s H (.ref d)) (hk : Ev tb s H (.str z)) (hv : valV kvs (Sum.inr z) = some v) : Ev (tDGet td tb) s H v := ev_get (k := Sum.inr z) hl hd hk hv
theorem go_put {H0 H' : Hp} {d : Addr} {kvs : List (Key × V)} (e : Ex H0 H') (hd : H0 d = none) (k : ∀ Hn, Ex H0 Hn → Hn d = some (.dK kvs) → Bl tz D s Hn) : tz D s (upd H' d (.dK kvs)) := bl_go (k _ (Ex.mut e hd) upd_same)
/-- an object that was not there may change -/
theorem ex_put {H0 H1 H2 : Hp} {d : Addr} {o : HO} (e1 : Ex H0 H1) (hd : H0 d = none) (e2 : Ex H1 H2) : Ex H0 (upd H2 d o) := Ex.mut (e1.trans e2) hd
end
/-! ### a dict that is filled: what stands in it so far -/
structure Fil (H : Hp) (d : Addr) (ks : List Str) (vs : List V) (H' : Hp) : Prop where
  ex : Ex H H'
  at_ : ∃ kvs : List (Key × V), H' d = some (.dK kvs) ∧ kvs.length ≤ ks.length ∧ ∀ p ∈ ks.zip vs, valV kvs (Sum.inr p.1) = some p.2
theorem putK_le (c : List (Key × V)) (k : Key) (x : V) : (putK c k x).length ≤ c.length + 1 := by
  unfold putK
  split
  · rw [List.length_map]; omega
  · rw [List.length_append]; exact Nat.le_refl _
theorem Fil.put {H H1 H2 : Hp} {d : Addr} {ks : List Str} {vs : List V} (F : Fil H d ks vs H1) (hd : H d = none) (e : Ex H1 H2) (hz : ks.length < 1000) (z : Str) (v : V) (hn : ks.contains z = false) :
    ∃ H3, DPut H2 d (.str z) v H3 ∧ Fil H d (z :: ks) (v :: vs) H3 := by
  obtain ⟨kvs, h1, h2, h3⟩ := F.at_
  refine ⟨_, DPut.k (k := Sum.inr z) (e _ _ h1) (sz_lt (by omega)), Ex.mut (F.ex.trans e) hd, putK kvs (Sum.inr z) v, upd_same, ?_, ?_⟩
  · have := putK_le kvs (Sum.inr z) v
    rw [List.length_cons]; omega
  · intro p hp
    rw [valV_put]
    rcases List.mem_cons.mp hp with rfl | hp
    · rw [if_pos rfl]
    · have : p.1 ≠ z := fun q => by
        have : z ∈ ks := by rw [← q]; exact (List.of_mem_zip hp).1
        rw [List.contains_iff_mem.mpr this] at hn
        cases hn
      rw [if_neg (fun q => this (Sum.inr.inj q))]
      exact h3 p hp
section
variable {s : L2.St} {H H1 : Hp} {ta tb te td : TE} {D : Ends} {tz : TS} {v : V} {d : Addr} {ks : List Str} {vs : List V}
theorem bl_fput {z : Str} (F : Fil H d ks vs H1) (h0 : H d = none) (hv : Ev te s H1 v) (hd : Ev td s H1 (.ref d)) (hk : Ev tb s H1 (.str z)) (hn : ks.contains z = false) (hz : ks.length < 1000)
    (kk : ∀ H2, Fil H d (z :: ks) (v :: vs) H2 → Bl tz D s H2) : Bl (tSeq (sDPut td tb te) tz) D s H1 := fun G e =>
  hv G e _ fun H2 e2 => hd H2 (e.trans e2) _ fun H3 e3 => hk H3 ((e.trans e2).trans e3) _ fun H4 e4 => by
    obtain ⟨H5, dp, F5⟩ := F.put h0 (((e.trans e2).trans e3).trans e4) hz z v hn
    exact ⟨d, H5, rfl, dp, bl_go (kk H5 F5)⟩
theorem fil_get {z : Str} (F : Fil H d ks vs H1) (hd : Ev td s H1 (.ref d)) (hk : Ev tb s H1 (.str z)) (hv : (z, v) ∈ ks.zip vs) : Ev (tDGet td tb) s H1 v := by
  obtain ⟨kvs, h1, _, h3⟩ := F.at_
  exact ev_getS h1 hd hk (h3 _ hv)
theorem Fil.start {kvs : List (Key × V)} (e : Ex H H1) (h : H1 d = some (.dK kvs)) (hl : kvs.length ≤ ks.length) (hv : ∀ p ∈ ks.zip vs, valV kvs (Sum.inr p.1) = some p.2) : Fil H d ks vs H1 := ⟨e, kvs, h, hl, hv⟩
end
section
variable {K : PySem.W.Frag} {s : L2.St} {H H1 H2 : Hp} {te : TE} {D : Ends} {tz : TS} {v v1 v2 v3 : V} {d : Addr} {ks : List Str} {vs : List V} {i : Nat} {z z1 z2 z3 : Str}
theorem g_fput {u : TGs} {rest : List V} {Q : L2.St → Hp → Prop} (F : Fil H d ks vs H1) (h0 : H d = none) (e : Ex H1 H2) (hs : s[i]? = some (some (.ref d))) (hn : ks.contains z = false) (hz : ks.length < 1000)
    (k : ∀ H3, Fil H d (z :: ks) (v :: vs) H3 → u rest s H3 Q) : gCons (gSub (tVar i) (tC (.str z)) rSetD) u (v :: rest) s H2 Q := by
  obtain ⟨H3, dp, F3⟩ := F.put h0 e hz z v hn
  exact ⟨v, rest, rfl, .ref d, hs, d, H3, rfl, dp, k H3 F3⟩
theorem bl_fput2 (F : Fil H d ks vs H1) (h0 : H d = none) (hs : s[i]? = some (some (.ref d))) (h : EvU te s H1 [v1, v2]) (n1 : ks.contains z1 = false) (n2 : (z1 :: ks).contains z2 = false) (hz : ks.length < 900)
    (kk : ∀ H2, Fil H d (z2 :: z1 :: ks) (v2 :: v1 :: vs) H2 → Bl tz D s H2) :
    Bl (tSeq (tAsg te (gTup K 2 (gCons (gSub (tVar i) (tC (.str z1)) rSetD) (gCons (gSub (tVar i) (tC (.str z2)) rSetD) gNil)))) tz) D s H1 :=
  bl_asgU h fun p H2 hp e2 hx => ⟨p, _, rfl, st_of hx, rfl, g_fput F h0 e2 hs n1 (by omega) fun H3 F3 => g_fput F3 h0 (Ex.refl H3) hs n2 (by simp only [List.length_cons]; omega) fun H4 F4 => ⟨rfl, bl_go (kk H4 F4)⟩⟩
theorem bl_fput3 (F : Fil H d ks vs H1) (h0 : H d = none) (hs : s[i]? = some (some (.ref d))) (h : EvU te s H1 [v1, v2, v3]) (n1 : ks.contains z1 = false) (n2 : (z1 :: ks).contains z2 = false)
    (n3 : (z2 :: z1 :: ks).contains z3 = false) (hz : ks.length < 900)
    (kk : ∀ H2, Fil H d (z3 :: z2 :: z1 :: ks) (v3 :: v2 :: v1 :: vs) H2 → Bl tz D s H2) :
    Bl (tSeq (tAsg te (gTup K 3 (gCons (gSub (tVar i) (tC (.str z1)) rSetD) (gCons (gSub (tVar i) (tC (.str z2)) rSetD) (gCons (gSub (tVar i) (tC (.str z3)) rSetD) gNil))))) tz) D s H1 :=
  bl_asgU h fun p H2 hp e2 hx => ⟨p, _, rfl, st_of hx, rfl, g_fput F h0 e2 hs n1 (by omega) fun H3 F3 => g_fput F3 h0 (Ex.refl H3) hs n2 (by simp only [List.length_cons]; omega) fun H4 F4 =>
    g_fput F4 h0 (Ex.refl H4) hs n3 (by simp only [List.length_cons]; omega) fun H5 F5 => ⟨rfl, bl_go (kk H5 F5)⟩⟩
end
end WL

set_option maxHeartbeats 4000000
/-! Tuples that are made on the way and kept in a dict; B is the heap that nothing new lies in. -/
namespace WB
open PySem PySem.Spec PyProof.Rows L2 Evl WM WL WLam WX WT WU StX
/-- a tuple that is not of B -/
def EvN (B : Hp) (te : TE) (s : L2.St) (H : Hp) (xs : List V) : Prop := ∀ H1, Ex H H1 → ∀ Q : VK, (∀ p H2, B p = none → Ex H1 H2 → H2 p = some (.tup xs) → Q (.ref p) H2) → te s H1 Q
/-- several of them, as arguments -/
def EvAN (B : Hp) (ta : TA) (s : L2.St) (H : Hp) (xss : List (List V)) : Prop :=
  ∀ H1, Ex H H1 → ∀ Q : List V → Hp → Prop, (∀ (ps : List Addr) H2, Ex H1 H2 → Paired (fun p xs => B p = none ∧ H2 p = some (.tup xs)) ps xss → Q (ps.map V.ref) H2) → ta s H1 Q
/-- a tuple of several of them -/
def EvNs (B : Hp) (te : TE) (s : L2.St) (H : Hp) (xss : List (List V)) : Prop :=
  ∀ H1, Ex H H1 → ∀ Q : VK, (∀ q (ps : List Addr) H2, Ex H1 H2 → H2 q = some (.tup (ps.map V.ref)) → Paired (fun p xs => B p = none ∧ H2 p = some (.tup xs)) ps xss → Q (.ref q) H2) → te s H1 Q
theorem paired_imp {α β : Type} {R S : α → β → Prop} (h : ∀ a b, R a b → S a b) : ∀ {as : List α} {bs : List β}, Paired R as bs → Paired S as bs
  | _, _, .nil => .nil
  | _, _, .cons x r => .cons (h _ _ x) (paired_imp h r)
theorem paired_len {α β : Type} {R : α → β → Prop} : ∀ {as : List α} {bs : List β}, Paired R as bs → as.length = bs.length
  | _, _, .nil => rfl
  | _, _, .cons _ r => congrArg (· + 1) (paired_len r)
section
variable {K : PySem.W.Frag} {s : L2.St} {B H H1 H2 : Hp} {ta : TA} {te tu td tb ty tx : TE} {t : TT} {D : Ends} {tz : TS} {v : V} {xs ys zs : List V} {xss yss : List (List V)}
theorem eu_ifB {b : Bool} (h : EvT t s H b) (h1 : EvU te s H xs) (h2 : EvU tu s H ys) : EvU (tIf t te tu) s H (if b = true then xs else ys) := fun H1 e Q q =>
  h H1 e _ fun H2 e2 => by
    cases b with
    | true => exact h1 H2 (e.trans e2) _ fun p H3 hp e3 hx => q p H3 (fresh_back e2 hp) (e2.trans e3) hx
    | false => exact h2 H2 (e.trans e2) _ fun p H3 hp e3 hx => q p H3 (fresh_back e2 hp) (e2.trans e3) hx
theorem en_of (hB : Ex B H) (h : EvU te s H xs) : EvN B te s H xs := fun H1 e Q q => h H1 e _ fun p H2 hp e2 hx => q p H2 (fresh_back (hB.trans e) hp) e2 hx
theorem en_var {i : Nat} {p : Addr} (hs : s[i]? = some (some (.ref p))) (hp : B p = none) (hx : H p = some (.tup xs)) : EvN B (tVar i) s H xs := fun H1 e Q q => ⟨_, hs, q p H1 hp (Ex.refl H1) (e _ _ hx)⟩
theorem en_is (h : EvN B te s H xs) (e : xs = ys) : EvN B te s H ys := by rw [← e]; exact h
theorem en_if {b : Bool} (h : EvT t s H b) (h1 : EvN B te s H xs) (h2 : EvN B tu s H ys) : EvN B (tIf t te tu) s H (if b = true then xs else ys) := fun H1 e Q q =>
  h H1 e _ fun H2 e2 => by
    cases b with
    | true => exact h1 H2 (e.trans e2) _ fun p H3 hp e3 hx => q p H3 hp (e2.trans e3) hx
    | false => exact h2 H2 (e.trans e2) _ fun p H3 hp e3 hx => q p H3 hp (e2.trans e3) hx
theorem ean_nil : EvAN B tNil s H [] := fun H1 _ Q q => q [] H1 (Ex.refl H1) .nil
theorem ean_cons (h : EvN B te s H xs) (r : EvAN B ta s H xss) : EvAN B (tCons te ta) s H (xs :: xss) := fun H1 e Q q =>
  h H1 e _ fun p H2 hp e2 hx => r H2 (e.trans e2) _ fun ps H3 e3 hr => q (p :: ps) H3 (e2.trans e3) (.cons ⟨hp, e3 _ _ hx⟩ hr)
theorem ens_tup (h : EvAN B ta s H xss) (hl : xss.length ≤ 1000) : EvNs B (tTup ta) s H xss := fun H1 e Q q =>
  h H1 e _ fun ps H2 e2 hr => ⟨sz_of (by rw [List.length_map, paired_len hr]; omega), fun m hm => q m ps _ (e2.trans (Ex.new hm)) upd_same (paired_imp (fun a b z => ⟨z.1, Ex.new hm _ _ z.2⟩) hr)⟩
theorem ens_if {b : Bool} (h : EvT t s H b) (h1 : EvNs B te s H xss) (h2 : EvNs B tu s H yss) : EvNs B (tIf t te tu) s H (if b = true then xss else yss) := fun H1 e Q q =>
  h H1 e _ fun H2 e2 => by
    cases b with
    | true => exact h1 H2 (e.trans e2) _ fun p ps H3 e3 hx hr => q p ps H3 (e2.trans e3) hx hr
    | false => exact h2 H2 (e.trans e2) _ fun p ps H3 e3 hx hr => q p ps H3 (e2.trans e3) hx hr
theorem bl_setN {i : Nat} (h : EvN B te s H xs) (k : ∀ p H1, B p = none → Ex H H1 → H1 p = some (.tup xs) → Bl tz D (s.set i (some (.ref p))) H1) : Bl (tSeq (tAsg te (gName i)) tz) D s H := fun H1 e =>
  h H1 e _ fun p H2 hp e2 hx => k p H2 hp (e.trans e2) hx H2 (Ex.refl H2)
theorem bl_setNE {i : Nat} (h : EvN B te s H xs) (k : ∀ p H1, B p = none → Ex H H1 → H1 p = some (.tup xs) → D.nx (s.set i (some (.ref p))) H1) : Bl (tAsg te (gName i)) D s H := fun H1 e =>
  h H1 e _ fun p H2 hp e2 hx => k p H2 hp (e.trans e2) hx
/-! ### a dict written with tuples -/
def EvPN (B : Hp) (tr : TE × TE) (s : L2.St) (H : Hp) (kx : Str × List V) : Prop := Ev tr.1 s H (.str kx.1) ∧ EvN B tr.2 s H kx.2
theorem pairsN : ∀ {trs : List (TE × TE)} {kxs : List (Str × List V)}, Paired (fun a b => EvPN B a s H b) trs kxs → ∀ H1, Ex H H1 → ∀ Q : List (V × V) → Hp → Prop,
    (∀ (kvs : List (Key × V)) H2, Ex H1 H2 → Paired (fun kv kx => kv.1 = Sum.inr kx.1 ∧ ∃ p, kv.2 = .ref p ∧ B p = none ∧ H2 p = some (.tup kx.2)) kvs kxs → Q (kvs.map fun kv => (kV kv.1, kv.2)) H2) → tPairs trs s H1 Q
  | _, _, .nil, H1, _, _, q => q [] H1 (Ex.refl H1) .nil
  | _, _, .cons (b := kx) a r, H1, e, Q, q => a.1 H1 e _ fun H2 e2 => a.2 H2 (e.trans e2) _ fun p H3 hp e3 hx => pairsN r H3 ((e.trans e2).trans e3) _ fun kvs H4 e4 hr =>
      q ((Sum.inr kx.1, .ref p) :: kvs) H4 ((e2.trans e3).trans e4) (.cons ⟨rfl, p, rfl, hp, e4 _ _ hx⟩ hr)
/-- what stands in a dict so far -/
structure FilT (B : Hp) (d : Addr) (kxs : List (Str × List V)) (H : Hp) : Prop where
  ex : Ex B H
  at_ : ∃ kvs : List (Key × V), H d = some (.dK kvs) ∧ kvs.length ≤ kxs.length ∧ ∀ kx ∈ kxs, ∃ p, valV kvs (Sum.inr kx.1) = some (.ref p) ∧ B p = none ∧ H p = some (.tup kx.2)
theorem FilT.mono {d : Addr} {kxs : List (Str × List V)} (F : FilT B d kxs H1) (e : Ex H1 H2) : FilT B d kxs H2 := by
  obtain ⟨kvs, h1, h2, h3⟩ := F.at_
  exact ⟨F.ex.trans e, kvs, e _ _ h1, h2, fun kx hk => by
    obtain ⟨p, h4, h5, h6⟩ := h3 kx hk
    exact ⟨p, h4, h5, e _ _ h6⟩⟩
theorem FilT.named {d : Addr} {kxs : List (Str × List V)} (F : FilT B d kxs H1) : ∃ k, k = kxs ∧ FilT B d k H1 := ⟨kxs, rfl, F⟩
theorem FilT.put {d p : Addr} {kxs : List (Str × List V)} (F : FilT B d kxs H) (hd : B d = none) (hp : B p = none) (hx : H p = some (.tup xs)) (hz : kxs.length < 1000) (z : Str) (hn : (kxs.map (·.1)).contains z = false) :
    ∃ H3, DPut H d (.str z) (.ref p) H3 ∧ FilT B d ((z, xs) :: kxs) H3 ∧ ∀ b o, b ≠ d → H b = some o → H3 b = some o := by
  obtain ⟨kvs, h1, h2, h3⟩ := F.at_
  have ne : ∀ {q : Addr} {ys : List V}, H q = some (.tup ys) → q ≠ d := fun h => ne_of h h1 (by intro z; cases z)
  refine ⟨_, DPut.k (k := Sum.inr z) h1 (sz_lt (by omega)), ⟨Ex.mut F.ex hd, putK kvs (Sum.inr z) (.ref p), upd_same, ?_, ?_⟩, fun b o hb h => by rw [upd_ne hb]; exact h⟩
  · have := putK_le kvs (Sum.inr z) (.ref p)
    rw [List.length_cons]; omega
  · intro kx hk
    rw [valV_put]
    rcases List.mem_cons.mp hk with rfl | hk
    · refine ⟨p, if_pos rfl, hp, ?_⟩
      rw [upd_ne (ne hx)]; exact hx
    · have : kx.1 ≠ z := fun q => by
        have : z ∈ kxs.map (·.1) := by rw [← q]; exact List.mem_map_of_mem hk
        rw [List.contains_iff_mem.mpr this] at hn
        cases hn
      obtain ⟨p2, h4, h5, h6⟩ := h3 kx hk
      refine ⟨p2, ?_, h5, ?_⟩
      · rw [if_neg (fun q => this (Sum.inr.inj q))]; exact h4
      · rw [upd_ne (ne h6)]; exact h6
theorem merge_at : ∀ {kvs : List (Key × V)} {kxs : List (Str × List V)} {acc : List (Key × V)} {k : Key} {P : Str × List V → V → Prop}, Paired (fun kv kx => kv.1 = Sum.inr kx.1 ∧ P kx kv.2) kvs kxs → (kxs.map fun kx => (Sum.inr kx.1 : Key)).Nodup →
    ((∀ kx ∈ kxs, ∃ v, valV (mergeK acc kvs) (Sum.inr kx.1) = some v ∧ P kx v) ∧ ((∀ kx ∈ kxs, k ≠ Sum.inr kx.1) → valV (mergeK acc kvs) k = valV acc k))
  | _, _, acc, k, P, .nil, _ => ⟨fun _ h => absurd h List.not_mem_nil, fun _ => rfl⟩
  | _, _, acc, k, P, .cons (a := kv) (b := kx) (l₁ := kvs) (l₂ := kxs) a r, nd => by
    have nd' := List.nodup_cons.mp nd
    have ih := fun k2 => merge_at (acc := putK acc kv.1 kv.2) (k := k2) r nd'.2
    have e : mergeK acc (kv :: kvs) = mergeK (putK acc kv.1 kv.2) kvs := rfl
    rw [e]
    refine ⟨fun y hy => ?_, fun h => ?_⟩
    · rcases List.mem_cons.mp hy with rfl | hy
      · refine ⟨kv.2, ?_, a.2⟩
        rw [(ih (Sum.inr y.1)).2 (fun z hz q => nd'.1 (List.mem_map.mpr ⟨z, hz, q.symm⟩)), valV_put, if_pos a.1.symm]
      · exact (ih k).1 y hy
    · rw [(ih k).2 (fun z hz => h z (List.mem_cons_of_mem _ hz)), valV_put, if_neg (fun q => h kx (List.mem_cons_self ..) (q.trans a.1))]
theorem bl_setDN {i : Nat} {trs : List (TE × TE)} {kxs : List (Str × List V)} (hB : Ex B H) (h : Paired (fun a b => EvPN B a s H b) trs kxs) (hl : kxs.length ≤ 15) (nd : (kxs.map fun kx => (Sum.inr kx.1 : Key)).Nodup)
    (k : ∀ d H1, B d = none → FilT B d kxs H1 → Bl tz D (s.set i (some (.ref d))) H1) : Bl (tSeq (tAsg (tDisp trs) (gName i)) tz) D s H := fun H1 e p hp => by
  refine pairsN h (upd H1 p (.dK [])) (e.trans (Ex.new hp)) _ fun kvs H2 e2 hr => ?_
  have hB1 := hB.trans e
  refine ⟨e2 p _ upd_same, kvs, rfl, by rw [paired_len hr]; exact hl, ?_⟩
  have e3 : Ex H1 (upd H2 p (.dK (mergeK [] kvs))) := fun a o ha => by
    rw [upd_ne (ne_of_none ha hp)]
    exact e2 a o (by rw [upd_ne (ne_of_none ha hp)]; exact ha)
  refine bl_go (k p _ (fresh_back hB1 hp) ⟨hB1.trans e3, _, upd_same, ?_, fun kx hk => ?_⟩)
  · have := length_mergeK kvs []
    rw [List.length_nil, paired_len hr] at this
    omega
  · obtain ⟨v, h1, q, rfl, h2, h3⟩ := (merge_at (acc := []) (k := Sum.inr kx.1) (P := fun kx v => ∃ p, v = .ref p ∧ B p = none ∧ H2 p = some (.tup kx.2)) hr nd).1 kx hk
    refine ⟨q, h1, h2, ?_⟩
    rw [upd_ne (ne_of h3 (e2 p _ upd_same) (by intro z; cases z))]
    exact h3
/-! ### d[k] = a tuple; several at once -/
theorem bl_tput1 {d : Addr} {kxs : List (Str × List V)} {z : Str} (F : FilT B d kxs H) (h0 : B d = none) (hv : EvN B te s H xs) (hd : Ev td s H (.ref d)) (hk : Ev tb s H (.str z)) (hn : (kxs.map (·.1)).contains z = false) (hz : kxs.length < 1000)
    (kk : ∀ H2, FilT B d ((z, xs) :: kxs) H2 → Bl tz D s H2) : Bl (tSeq (sDPut td tb te) tz) D s H := fun G e =>
  hv G e _ fun p H2 hp e2 hx => hd H2 (e.trans e2) _ fun H3 e3 => hk H3 ((e.trans e2).trans e3) _ fun H4 e4 => by
    obtain ⟨H5, dp, F5, _⟩ := (F.mono (((e.trans e2).trans e3).trans e4)).put h0 hp ((e3.trans e4) _ _ hx) hz z hn
    exact ⟨d, H5, rfl, dp, bl_go (kk H5 F5)⟩
theorem bl_tput2 {i : Nat} {d : Addr} {kxs : List (Str × List V)} {z1 z2 : Str} {x1 x2 : List V} (F : FilT B d kxs H) (h0 : B d = none) (hs : s[i]? = some (some (.ref d))) (hv : EvNs B te s H [x1, x2])
    (n1 : (kxs.map (·.1)).contains z1 = false) (n2 : (((z1, x1) :: kxs).map (·.1)).contains z2 = false) (hz : kxs.length < 900)
    (kk : ∀ H2, FilT B d ((z2, x2) :: (z1, x1) :: kxs) H2 → Bl tz D s H2) :
    Bl (tSeq (tAsg te (gTup K 2 (gCons (gSub (tVar i) (tC (.str z1)) rSetD) (gCons (gSub (tVar i) (tC (.str z2)) rSetD) gNil)))) tz) D s H := fun G e =>
  hv G e _ fun q ps H2 e2 hq hr => by
    have F2 := F.mono (e.trans e2)
    obtain ⟨kvs, hd, _⟩ := F2.at_
    match ps, hr, hq with
    | [p1, p2], .cons a1 (.cons a2 .nil), hq =>
      have nd : ∀ {q : Addr} {ys : List V}, H2 q = some (.tup ys) → q ≠ d := fun h => ne_of h hd (by intro z; cases z)
      obtain ⟨H3, dp3, F3, k3⟩ := F2.put h0 a1.1 a1.2 (by omega) z1 n1
      obtain ⟨H4, dp4, F4, k4⟩ := F3.put h0 a2.1 (k3 _ _ (nd a2.2) a2.2) (by rw [List.length_cons]; omega) z2 n2
      exact ⟨q, _, rfl, st_of hq, rfl, _, _, rfl, _, hs, d, H3, rfl, dp3, _, _, rfl, _, hs, d, H4, rfl, dp4, rfl, bl_go (kk H4 F4)⟩
theorem bl_tput3 {i : Nat} {d : Addr} {kxs : List (Str × List V)} {z1 z2 z3 : Str} {x1 x2 x3 : List V} (F : FilT B d kxs H) (h0 : B d = none) (hs : s[i]? = some (some (.ref d))) (hv : EvNs B te s H [x1, x2, x3])
    (n1 : (kxs.map (·.1)).contains z1 = false) (n2 : (((z1, x1) :: kxs).map (·.1)).contains z2 = false) (n3 : (((z2, x2) :: (z1, x1) :: kxs).map (·.1)).contains z3 = false) (hz : kxs.length < 900)
    (kk : ∀ H2, FilT B d ((z3, x3) :: (z2, x2) :: (z1, x1) :: kxs) H2 → Bl tz D s H2) :
    Bl (tSeq (tAsg te (gTup K 3 (gCons (gSub (tVar i) (tC (.str z1)) rSetD) (gCons (gSub (tVar i) (tC (.str z2)) rSetD) (gCons (gSub (tVar i) (tC (.str z3)) rSetD) gNil))))) tz) D s H := fun G e =>
  hv G e _ fun q ps H2 e2 hq hr => by
    have F2 := F.mono (e.trans e2)
    obtain ⟨kvs, hd, _⟩ := F2.at_
    match ps, hr, hq with
    | [p1, p2, p3], .cons a1 (.cons a2 (.cons a3 .nil)), hq =>
      have nd : ∀ {q : Addr} {ys : List V}, H2 q = some (.tup ys) → q ≠ d := fun h => ne_of h hd (by intro z; cases z)
      obtain ⟨H3, dp3, F3, k3⟩ := F2.put h0 a1.1 a1.2 (by omega) z1 n1
      obtain ⟨H4, dp4, F4, k4⟩ := F3.put h0 a2.1 (k3 _ _ (nd a2.2) a2.2) (by rw [List.length_cons]; omega) z2 n2
      obtain ⟨H5, dp5, F5, k5⟩ := F4.put h0 a3.1 (k4 _ _ (nd a3.2) (k3 _ _ (nd a3.2) a3.2)) (by rw [List.length_cons, List.length_cons]; omega) z3 n3
      exact ⟨q, _, rfl, st_of hq, rfl, _, _, rfl, _, hs, d, H3, rfl, dp3, _, _, rfl, _, hs, d, H4, rfl, dp4, _, _, rfl, _, hs, d, H5, rfl, dp5, rfl, bl_go (kk H5 F5)⟩
/-- {..: tuples}.get(k, a tuple) -/
theorem en_get2 {trs : List (TE × TE)} {kxs : List (Str × List V)} {z : Str} (hB : Ex B H) (h : Paired (fun a b => EvPN B a s H b) trs kxs) (hl : kxs.length ≤ 15) (nd : (kxs.map fun kx => (Sum.inr kx.1 : Key)).Nodup) (hk : Ev ty s H (.str z)) (hx : EvU tx s H ys)
    (hv : (∃ kx ∈ kxs, kx.1 = z ∧ xs = kx.2) ∨ ((∀ kx ∈ kxs, kx.1 ≠ z) ∧ xs = ys)) : EvN B (tDGet2 (tDisp trs) ty tx) s H xs := fun H1 e Q q p hp => by
  refine pairsN h (upd H1 p (.dK [])) (e.trans (Ex.new hp)) _ fun kvs H2 e2 hr => ?_
  refine ⟨e2 p _ upd_same, kvs, rfl, by rw [paired_len hr]; exact hl, ?_⟩
  have hB1 := hB.trans e
  have e3 : Ex H1 (upd H2 p (.dK (mergeK [] kvs))) := fun a o ha => by
    rw [upd_ne (ne_of_none ha hp)]
    exact e2 a o (by rw [upd_ne (ne_of_none ha hp)]; exact ha)
  refine ⟨p, rfl, .inl ⟨_, .inl upd_same⟩, hk _ (e.trans e3) _ fun H3 e4 => hx H3 ((e.trans e3).trans e4) _ fun m H4 hm e5 h4 => ?_⟩
  have hpp : H4 p = some (.dK (mergeK [] kvs)) := e5 _ _ (e4 _ _ upd_same)
  refine ⟨_, DGet.k (k := Sum.inr z) hpp, ?_⟩
  have mm := fun k => merge_at (acc := []) (k := k) (P := fun kx v => ∃ p, v = .ref p ∧ B p = none ∧ H2 p = some (.tup kx.2)) hr nd
  rcases hv with ⟨kx, hkx, rfl, rfl⟩ | ⟨hno, rfl⟩
  · obtain ⟨v, h1, a, rfl, h2, h3⟩ := (mm (Sum.inr kx.1)).1 kx hkx
    rw [h1]
    refine q a H4 h2 ((e3.trans e4).trans e5) (e5 _ _ (e4 _ _ ?_))
    rw [upd_ne (ne_of h3 (e2 p _ upd_same) (by intro z; cases z))]
    exact h3
  · rw [(mm (Sum.inr z)).2 (fun kx hkx q => hno kx hkx (Sum.inr.inj q).symm)]
    exact q m H4 (fresh_back (((hB1.trans e3).trans e4)) hm) ((e3.trans e4).trans e5) h4
/-- return d[k] -/
theorem bl_retN {d : Addr} {kxs : List (Str × List V)} {z : Str} (F : FilT B d kxs H) (hd : Ev td s H (.ref d)) (hk : Ev tb s H (.str z)) (hv : (z, xs) ∈ kxs) (k : RetU xs B D.rt) : Bl (tRet (tDGet td tb)) D s H := fun G e =>
  hd G e _ fun H2 e2 => hk H2 (e.trans e2) _ fun H3 e3 => by
    obtain ⟨kvs, h1, _, h3⟩ := (F.mono ((e.trans e2).trans e3)).at_
    obtain ⟨p, h4, h5, h6⟩ := h3 _ hv
    exact ⟨d, .ref p, rfl, by rw [← h4]; exact DGet.k (k := Sum.inr z) h1, k p H3 h5 (((F.ex.trans e).trans e2).trans e3) h6⟩
theorem ens_if2 {b : Bool} {x1 x2 y1 y2 : List V} (h : EvT t s H b) (h1 : EvNs B te s H [x1, x2]) (h2 : EvNs B tu s H [y1, y2]) : EvNs B (tIf t te tu) s H [if b = true then x1 else y1, if b = true then x2 else y2] := fun H1 e Q q =>
  h H1 e _ fun H2 e2 => by
    cases b with
    | true => exact h1 H2 (e.trans e2) _ fun p ps H3 e3 hx hr => q p ps H3 (e2.trans e3) hx hr
    | false => exact h2 H2 (e.trans e2) _ fun p ps H3 e3 hx hr => q p ps H3 (e2.trans e3) hx hr
theorem dpn_cons {t1 t2 : TE} {z : Str} {trs : List (TE × TE)} {kxs : List (Str × List V)} (h1 : Ev t1 s H (.str z)) (h2 : EvN B t2 s H xs) (r : Paired (fun a b => EvPN B a s H b) trs kxs) : Paired (fun a b => EvPN B a s H b) ((t1, t2) :: trs) ((z, xs) :: kxs) := .cons ⟨h1, h2⟩ r
theorem bl_retNE {d : Addr} {kxs : List (Str × List V)} {z : Str} (F : FilT B d kxs H) (hd : Ev td s H (.ref d)) (hk : Ev tb s H (.str z)) (hv : (z, xs) ∈ kxs) (e : xs = ys) (k : RetU ys B D.rt) : Bl (tRet (tDGet td tb)) D s H :=
  bl_retN F hd hk hv (by rw [e]; exact k)
end
end WB

set_option maxHeartbeats 4000000
/-! Numbers that break a rule: small facts of the told ones. -/
namespace WM
theorem lfac_bd {w : Nat} (h2 : 2 ≤ w) (h64 : w ≤ 64) : 1 ≤ lfac w ∧ (lfac w : Int) ≤ 18446744073709551615 := by
  cases hm : WP.mers w with
  | true =>
    rw [lfac_mers hm]
    have h1 : (2 : Nat) ^ 2 ≤ 2 ^ w := Nat.pow_le_pow_right (by decide) h2
    have h3 : (2 : Nat) ^ w ≤ 2 ^ 64 := Nat.pow_le_pow_right (by decide) h64
    have e4 : (2 : Nat) ^ 2 = 4 := rfl
    have e64 : (2 : Nat) ^ 64 = 18446744073709551616 := rfl
    omega
  | false =>
    obtain ⟨a, b, c, _⟩ := lfac_comp h2 h64 hm
    omega
theorem canc_zero {f : Fmt} (h : f.ov = .wrap) : ∃ x y, cexN f .zeroP = [x, y] ∧ cexN f .canc = [x, 0, y] := by
  obtain ⟨w, sg, ov, dv, h4, h64⟩ := f
  cases h
  cases sg
  · exact ⟨_, _, rfl, rfl⟩
  · exact ⟨_, _, rfl, rfl⟩
  · exact ⟨_, _, rfl, rfl⟩
theorem fdiv2 (w : Nat) : (w : Int).fdiv 2 = ((w / 2 : Nat) : Int) := by
  rw [Int.fdiv_eq_ediv_of_nonneg _ (by decide)]; rfl
theorem fdiv2s (w : Nat) : ((w : Int) + 1).fdiv 2 = (((w + 1) / 2 : Nat) : Int) := by
  rw [Int.fdiv_eq_ediv_of_nonneg _ (by decide)]; rfl
theorem shl_n {n : Nat} : (1 : Int) * 2 ^ ((n : Int)).toNat = p2 n := by
  rw [Int.one_mul, Int.toNat_natCast]; rfl
theorem par_w (w : Nat) : ((w : Int).fmod 2 = 0) ↔ w % 2 = 0 := by
  rw [Int.fmod_eq_emod_of_nonneg _ (by decide)]
  omega
end WM

set_option maxHeartbeats 4000000
/-! Values that are no format, no number, no rule, no numbers of a rule; what a def raises. -/
namespace WV
open PySem PySem.Spec PyProof.Rows L2 Evl WM WL WLam WX WT WU StX
/-- a value, and whether it counts as an integer (lists too) -/
inductive Wi (K : PySem.W.Frag) (H : Hp) : V → Bool → Prop
  | int (i : Int) : Wi K H (.int i) true
  | bl (b : Bool) : Wi K H (.bl b) false
  | non : Wi K H .non false
  | str (z : Str) : Wi K H (.str z) false
  | tup {p : Addr} {xs : List V} (h : SqT K H p xs) : Wi K H (.ref p) false
  | lst {p : Addr} {xs : List V} (h : SqL K H p xs) : Wi K H (.ref p) false
theorem Wi.ex {K : PySem.W.Frag} {H H' : Hp} {v : V} {b : Bool} (h : Wi K H v b) (e : Ex H H') : Wi K H' v b := by
  cases h with
  | int i => exact .int i
  | bl b => exact .bl b
  | non => exact .non
  | str z => exact .str z
  | tup h => exact .tup (ex_t e h)
  | lst h => exact .lst (ex_l e h)
/-- no format -/
inductive NoF (K : PySem.W.Frag) (H : Hp) : V → Prop
  | non : NoF K H .non
  | str (z : Str) : NoF K H (.str z)
  | int (i : Int) : NoF K H (.int i)
  | lst {p : Addr} {xs : List V} (h : SqL K H p xs) : NoF K H (.ref p)
  | len {p : Addr} {xs : List V} (h : SqT K H p xs) (n : xs.length ≠ 4) : NoF K H (.ref p)
  | four {p : Addr} {a b c d : V} {w : Bool} (h : SqT K H p [a, b, c, d]) (hw : Wi K H a w) (fb : flatV b = true) (fc : flatV c = true) (fd : flatV d = true)
      (no : ∀ i : Int, a = .int i → 4 ≤ i → i ≤ 64 → (inV b [.str "symmetric", .str "twos", .str "unsigned"] && (inV c [.str "saturate", .str "trap", .str "wrap"] && inV d [.str "ceiling", .str "euclid", .str "even", .str "floor", .str "zero"])) = false) : NoF K H (.ref p)
theorem NoF.ex {K : PySem.W.Frag} {H H' : Hp} {v : V} (h : NoF K H v) (e : Ex H H') : NoF K H' v := by
  cases h with
  | non => exact .non
  | str z => exact .str z
  | int i => exact .int i
  | lst h => exact .lst (ex_l e h)
  | len h n => exact .len (ex_t e h) n
  | four h hw fb fc fd no => exact .four (ex_t e h) (hw.ex e) fb fc fd no
/-- no number of f -/
def NoN (K : PySem.W.Frag) (H : Hp) (f : Fmt) (v : V) : Prop := ∃ w, Wi K H v w ∧ ∀ i : Int, v = .int i → ¬ fits f i
theorem NoN.ex {K : PySem.W.Frag} {H H' : Hp} {f : Fmt} {v : V} (h : NoN K H f v) (e : Ex H H') : NoN K H' f v := by
  obtain ⟨w, h1, h2⟩ := h
  exact ⟨w, h1.ex e, h2⟩
/-- a def that raises -/
def SpX (K : PySem.W.Frag) (R : List V → Hp → Prop) (x : Str) : Sp := fun vs H _ E => R vs H ∧ ∀ H', Ex H H' → E (.ref (He.ga K x)) none H'
theorem sxp_mono {K : PySem.W.Frag} {R S : List V → Hp → Prop} {x : Str} (h : ∀ vs H, R vs H → S vs H) {vs : List V} {H : Hp} {Q : VK} {E : XK} (z : SpX K R x vs H Q E) : SpX K S x vs H Q E := ⟨h _ _ z.1, z.2⟩
/-- the first of n arguments is no format -/
def F1 (K : PySem.W.Frag) (n : Nat) : List V → Hp → Prop := fun vs H => vs.length = n ∧ ∃ v rest, vs = v :: rest ∧ NoF K H v
end WV
namespace WV
open PySem PySem.Spec PyProof.Rows L2 Evl WM WL WLam WX WT WU StX
/-- a format, then no number of it -/
def N1 (K : PySem.W.Frag) (n : Nat) : List V → Hp → Prop := fun vs H => vs.length = n ∧ ∃ (p : Addr) (f : Fmt) (v : V) (rest : List V), vs = .ref p :: v :: rest ∧ SqT K H p (fV f) ∧ NoN K H f v
/-- a format, a number of it, no number of it -/
def N2 (K : PySem.W.Frag) : List V → Hp → Prop := fun vs H => ∃ (p : Addr) (f : Fmt) (a : Int) (v : V), vs = [.ref p, .int a, v] ∧ SqT K H p (fV f) ∧ fits f a ∧ NoN K H f v
/-- a format, no integer from -10**60 to 10**60 -/
def I1 (K : PySem.W.Frag) : List V → Hp → Prop := fun vs H => ∃ (p : Addr) (f : Fmt) (v : V) (w : Bool), vs = [.ref p, v] ∧ SqT K H p (fV f) ∧ Wi K H v w ∧ ∀ i : Int, v = .int i → (10 : Int) ^ 60 < (i.natAbs : Int)
/-- no rule: not a text, or a text that is no key of the table -/
def NoR (K : PySem.W.Frag) (H : Hp) (d : Addr) (v : V) : Prop := ∃ w, Wi K H v w ∧ ∀ z : Str, v = .str z → PySem.W.nsIn K d z = some none
theorem NoR.ex {K : PySem.W.Frag} {H H' : Hp} {d : Addr} {v : V} (h : NoR K H d v) (e : Ex H H') : NoR K H' d v := by
  obtain ⟨w, h1, h2⟩ := h
  exact ⟨w, h1.ex e, h2⟩
def R1 (K : PySem.W.Frag) (d : Addr) : List V → Hp → Prop := fun vs H => ∃ v, vs = [v] ∧ NoR K H d v
def R2 (K : PySem.W.Frag) (d : Addr) (n : Nat) : List V → Hp → Prop := fun vs H => vs.length = n ∧ ∃ (p : Addr) (f : Fmt) (v : V) (rest : List V), vs = .ref p :: v :: rest ∧ SqT K H p (fV f) ∧ NoR K H d v
end WV
namespace WV
open PySem PySem.Spec PyProof.Rows L2 Evl WM WL WLam WX WT WU StX
/-- no tuple of n numbers of f -/
inductive NoS (K : PySem.W.Frag) (H : Hp) (f : Fmt) (n : Nat) : V → Prop
  | non : NoS K H f n .non
  | int (i : Int) : NoS K H f n (.int i)
  | lst {p : Addr} {xs : List V} (h : SqL K H p xs) : NoS K H f n (.ref p)
  | len {p : Addr} {xs : List V} (h : SqT K H p xs) (ne : xs.length ≠ n) : NoS K H f n (.ref p)
  | item {p : Addr} {xs : List V} (h : SqT K H p xs) (hl : xs.length = n) (all : ∀ y ∈ xs, ∃ w, Wi K H y w) (bad : ∃ y ∈ xs, NoN K H f y) : NoS K H f n (.ref p)
theorem NoS.ex {K : PySem.W.Frag} {H H' : Hp} {f : Fmt} {n : Nat} {v : V} (h : NoS K H f n v) (e : Ex H H') : NoS K H' f n v := by
  cases h with
  | non => exact .non
  | int i => exact .int i
  | lst h => exact .lst (ex_l e h)
  | len h ne => exact .len (ex_t e h) ne
  | item h hl all bad => exact .item (ex_t e h) hl (fun y hy => let ⟨w, hw⟩ := all y hy; ⟨w, hw.ex e⟩) (let ⟨y, hy, hb⟩ := bad; ⟨y, hy, hb.ex e⟩)
def S1 (K : PySem.W.Frag) : List V → Hp → Prop := fun vs H => ∃ (q : Addr) (f : Fmt) (n : Nat) (v : V), vs = [.ref q, .int (n : Int), v] ∧ SqT K H q (tV f) ∧ n ≤ 3 ∧ NoS K H f n v
def S2 (K : PySem.W.Frag) : List V → Hp → Prop := fun vs H => ∃ (p : Addr) (f : Fmt) (r : Rl) (v : V), vs = [.ref p, .str (rlS r), v] ∧ SqT K H p (fV f) ∧ NoS K H f r.ar v
end WV
namespace WV
open PySem PySem.Spec PyProof.Rows L2 Evl WM WL WLam WX WT WU StX
section
variable {K : PySem.W.Frag} {s : L2.St} {H : Hp} {tl : TE} {tu : TS} {D : Ends}
theorem s_items {a : Addr} {xs : List V} {j : Nat} (h : Ev tl s H (.ref a)) (hx : SqT K H a xs) (W : Nat → L2.St → Hp → Prop) (h0 : ∀ H1, Ex H H1 → W 0 s H1) (hk : ∀ i s' H', W i s' H' → SqT K H' a xs)
    (hs : ∀ i x s' H', xs[i]? = some x → W i s' H' → tu { D with nx := W (i + 1), ct := W (i + 1), bk := D.nx } (s'.set j (some x)) H') (hd : ∀ s' H', W xs.length s' H' → D.nx s' H') : tFor (iTup K tl) (gName j) tu D s H :=
  s_forT h hx W h0 (fun i s' H' _ q => hk i s' H' q) (fun i x s' H' hi q => hs i x s' H' hi q) hd
end
end WV
namespace WV
open PySem PySem.Spec PyProof.Rows L2 Evl WM WL WLam WX WT WU StX
/-- two rules, the first is none -/
def Ra (K : PySem.W.Frag) (d : Addr) : List V → Hp → Prop := fun vs H => ∃ v x : V, vs = [v, x] ∧ NoR K H d v
/-- two rules, the second is none -/
def Rb (K : PySem.W.Frag) (d : Addr) : List V → Hp → Prop := fun vs H => ∃ (r : Rl) (v : V), vs = [.str (rlS r), v] ∧ NoR K H d v
end WV
namespace WV
open PySem PySem.Spec PyProof.Rows L2 Evl WM WL WLam WX WT WU StX
/-- no integer that fit takes -/
def NoI (K : PySem.W.Frag) (H : Hp) (v : V) : Prop := ∃ w, Wi K H v w ∧ ∀ i : Int, v = .int i → (10 : Int) ^ 60 < (i.natAbs : Int)
theorem NoI.ex {K : PySem.W.Frag} {H H' : Hp} {v : V} (h : NoI K H v) (e : Ex H H') : NoI K H' v := by
  obtain ⟨w, h1, h2⟩ := h
  exact ⟨w, h1.ex e, h2⟩
end WV
namespace WV
open PySem PySem.Spec PyProof.Rows L2 Evl WM WL WLam WX WT WU StX
theorem noI_1 {K : PySem.W.Frag} {H : Hp} : NoI K H (.int (10 ^ Int.toNat 60 + 1)) := ⟨_, .int _, fun i e => by
  have e1 : (10 ^ Int.toNat 60 + 1 : Int) = i := by injection e
  rw [← e1]
  decide +kernel⟩
theorem noI_2 {K : PySem.W.Frag} {H : Hp} : NoI K H (.int (0 - 10 ^ Int.toNat 60 - 1)) := ⟨_, .int _, fun i e => by
  have e1 : (0 - 10 ^ Int.toNat 60 - 1 : Int) = i := by injection e
  rw [← e1]
  decide +kernel⟩
end WV

set_option maxHeartbeats 4000000
/-! list.count of flat items; a tuple's part from 1 on, up to 3. -/
namespace WN
open PySem PySem.Spec PyProof.Rows L2 Evl WM WL WLam WX WT WU StX
section
variable {X : Cx}
/-- how often a flat value stands in a list of flat values -/
def rCountF (K : PySem.W.Frag) : V → List V → Hp → VK → Prop := fun x xs H Q => ∃ (p : Addr) (ys : List V) (y : V), x = .ref p ∧ xs = [y] ∧ SqL K H p ys ∧ flatV y = true ∧ ys.all flatV = true ∧ Q (.int ((ys.countP fun z => eqV z y : Nat) : Int)) H
theorem count_eqU {x : V} : ∀ {xs : List V} {us : List Value}, Vals xs us → xs.all flatV = true → us.countP (eqU x) = xs.countP fun y => eqV y x
  | _, _, .nil, _ => rfl
  | _, _, .cons r h, f => by
    have f' := f
    rw [List.all_cons, Bool.and_eq_true] at f'
    rw [List.countP_cons, List.countP_cons, count_eqU h f'.2, eqU_of r f'.1]
theorem mt_countF : MtR X "list.count" (rCountF X.K) := by
  intro pins s σ H x xs v us Q I rx rxs h
  obtain ⟨p, ys, y, rfl, rfl, hs, fy, fys, q⟩ := h
  cases rx
  obtain ⟨u, rfl, ry⟩ := rxs.one
  obtain ⟨its, rv, ⟨⟨cls, dd, data, sl⟩, n, ho, hc, hdn, hd⟩, hlen⟩ := I.list hs
  simp only at hc hd
  subst hc hd
  refine call_meets PySem.F.slot_list_count ⟨_, ho, rfl⟩ PySem.F.entry_list_count (PySem.F.args_list_count_2 _ _)
    (SeqAt.list_countAt p its.toArray n dd sl u (eqU y)) ⟨ho, fun u' hu' => mem_eqAt ry fy rv fys u' (by simpa using hu'), ?_⟩
  have ec : its.toArray.toList.countP (eqU y) = ys.countP fun z => eqV z y := count_eqU rv fys
  refine ⟨.int ((ys.countP fun z => eqV z y : Nat) : Int), H, I.tok _, ⟨s.toks, ?_⟩, q⟩
  show Value.int ((its.toArray.toList.countP (eqU y) : Nat) : Int) s.toks = Value.int ((ys.countP fun z => eqV z y : Nat) : Int) s.toks
  rw [ec]
end
end WN
namespace WN
open PySem PySem.Spec PyProof.Rows L2 Evl WM WL WLam WX WT WU StX
section
variable {K : PySem.W.Frag} {s : L2.St} {H : Hp} {ta tb te : TE} {v y : V} {l : Addr} {ys xs : List V}
theorem ev_count (h : Ev te s H (.ref l)) (hl : SqL K H l ys) (fy : flatV y = true) (fys : ys.all flatV = true) : Ev (tBM K "list" (rCountF K) te (tCons (tC y) tNil)) s H (.int ((ys.countP fun z => eqV z y : Nat) : Int)) := fun H1 e Q q =>
  h H1 e _ fun H2 e2 => ⟨Or.inl ⟨rfl, ys, ex_l (e.trans e2) hl⟩, ⟨l, ys, y, rfl, rfl, ex_l (e.trans e2) hl, fy, fys, q H2 e2⟩⟩
theorem ev_index {j : Nat} {z : V} (h : Ev te s H (.ref l)) (hl : SqL K H l ys) (fy : flatV y = true) (fys : ys.all flatV = true) (hj : ys[j]? = some z) (hz : eqV z y = true) (no : ∀ (m : Nat) (z' : V), m < j → ys[m]? = some z' → eqV z' y = false) :
    Ev (tBM K "list" (rIndex K) te (tCons (tC y) tNil)) s H (.int (j : Nat)) := fun H1 e Q q =>
  h H1 e _ fun H2 e2 => ⟨Or.inl ⟨rfl, ys, ex_l (e.trans e2) hl⟩, ⟨l, ys, y, j, z, rfl, rfl, ex_l (e.trans e2) hl, fy, fys, hj, hz, no, q H2 e2⟩⟩
theorem ev_ixNL {i : Int} (h1 : EvL ta s H xs) (h2 : Ev tb s H (.int i)) (ha : atI xs i = some v) : Ev (tOp (rIxL K) ta tb) s H v := fun H1 e Q q =>
  h1 H1 e _ fun p H2 _ e2 hx => h2 H2 (e.trans e2) _ fun H3 e3 => ⟨p, xs, i, v, rfl, rfl, sq_of (e3 _ _ hx), ha, q H3 (e2.trans e3)⟩
end
end WN

set_option maxHeartbeats 4000000
/-! A tuple times 1: the tuple itself. -/
namespace WO
open PySem PySem.Spec PyProof.Rows L2 Evl WM WL WLam WX WT WU StX
theorem mul1 (l : Addr) (items : Array Value) (n : Nat) (dd : Option Addr) (sl : Array (Option Value)) (u : Tok) :
    Meets (Builtin.«tuple.__mul__» ⟨[.ref l, .int 1 u], []⟩) (fun _ R s => s.heap.get? l = some { cls := .type "tuple", dict := dd, data := .seq items n, slots := sl } ∧ R (.ok (.ret (Value.ref l))) s) :=
  .of_wp fun prog w A R s h => by
    obtain ⟨hp, g, d, tk, os⟩ := s
    obtain ⟨hl, h⟩ := h
    have f1 := AutoSeq1.idx_int
    have c0 : (decide ((1 : Int) < -(2 ^ 63)) || decide ((1 : Int) ≥ 2 ^ 63)) = false := by decide
    have c1 : (items.isEmpty || (1 : Int) == 1) = true := by
      rw [beq_self_eq_true, Bool.or_true]
    wp_walk using wpAny_loadPart' hl
    repeat (first
      | (refine wpAny_ite_false (decide_eq_false (by rw [c0]; exact Bool.false_ne_true)) ?_; wp_walk using wpAny_loadPart' hl)
      | (refine wpAny_ite_true (decide_eq_true c1) ?_; wp_walk using wpAny_loadPart' hl))
    exact ⟨_, rfl, h⟩
/-- a tuple times 1, 2 or 3 -/
def rRepA (K : PySem.W.Frag) : R2 := fun x y H Q => ∃ (l : Addr) (k : Int) (xs : List V), x = .ref l ∧ y = .int k ∧ SqT K H l xs ∧ xs ≠ [] ∧ 1 ≤ k ∧ k ≤ 1000 ∧ xs.length ≤ 1000 ∧ (k = 1 → Q (.ref l) H) ∧ (2 ≤ k → ∀ p, H p = none → Q (.ref p) (upd H p (.tup (List.replicate k.toNat xs).flatten)))
theorem op_repA {X : Cx} : OpR X (binaryOp .Mult) (rRepA X.K) := by
  intro pins s σ H x y v u Q I rx ry h
  obtain ⟨l, k, xs, rfl, rfl, hT, hne, h1, h2, hz, q1, q2⟩ := h
  by_cases hk : 2 ≤ k
  · exact op_repT pins s σ H _ _ v u Q I rx ry ⟨l, k, xs, rfl, rfl, hT, hne, hk, h2, hz, q2 hk⟩
  · obtain rfl : k = 1 := by omega
    cases rx
    obtain ⟨t, rfl⟩ := ry
    obtain ⟨its, r, ⟨⟨cls, dd, data, sl⟩, ho, hc, n, hd⟩, hs⟩ := I.tuple hT
    simp only at hc hd
    subst hc hd
    exact wpAny_binaryOp_repeat_ref (T := "tuple") (U := "int") (by decide) ⟨_, ho, rfl⟩ (fun s' => typeIs_int s' 1 t) noFill_tuple_mul F.fills_int_mul F.slot_int_rmul repeat_tuple F.slot_int_index.lookup
      (call_meets F.slot_int_rmul (typeIs_int s 1 t) F.entry_int_rmul (F.args_int_rmul_2 _ _) (int_rmul_tuple 1 t l its.toArray n dd sl)
        ⟨ho, rfl, ⟨_, ho, rfl⟩, call_meets F.slot_tuple_mul ⟨_, ho, rfl⟩ F.entry_tuple_mul (F.args_tuple_mul_2 _ _) (mul1 l its.toArray n dd sl t) ⟨ho, .ref l, H, I, rfl, q1 rfl⟩⟩)
end WO

set_option maxHeartbeats 4000000
/-! Values known by a word that stays when the heap grows; tuples put together, cut and repeated. -/
namespace WQ
open PySem PySem.Spec PyProof.Rows L2 Evl WM WL WLam WX WT WU StX
/-- a tuple with these items, new or not -/
def EvQ (K : PySem.W.Frag) (te : TE) (s : L2.St) (H : Hp) (xs : List V) : Prop := ∀ H1, Ex H H1 → ∀ Q : VK, (∀ p H2, Ex H1 H2 → SqT K H2 p xs → Q (.ref p) H2) → te s H1 Q
def EvG (P : Hp → V → Prop) (te : TE) (s : L2.St) (H : Hp) : Prop := ∀ H1, Ex H H1 → ∀ Q : VK, (∀ v H2, Ex H1 H2 → P H2 v → Q v H2) → te s H1 Q
def EvAG (P : Hp → V → Prop) (ta : TA) (s : L2.St) (H : Hp) (n : Nat) : Prop := ∀ H1, Ex H H1 → ∀ Q : List V → Hp → Prop, (∀ vs H2, Ex H1 H2 → vs.length = n → (∀ v ∈ vs, P H2 v) → Q vs H2) → ta s H1 Q
def EvLG (P : Hp → V → Prop) (te : TE) (s : L2.St) (H : Hp) (n : Nat) : Prop := ∀ H1, Ex H H1 → ∀ Q : VK, (∀ p vs H2, H1 p = none → Ex H1 H2 → H2 p = some (.lst vs) → vs.length = n → (∀ v ∈ vs, P H2 v) → Q (.ref p) H2) → te s H1 Q
section
variable {K : PySem.W.Frag} {s : L2.St} {H : Hp} {ta tb te : TE} {tl th : TO} {t : TA} {v : V} {xs ys : List V} {P : Hp → V → Prop} {n m : Nat} {D : Ends} {tz : TS}
theorem eq_var {p : Addr} (h : Ev te s H (.ref p)) (hx : SqT K H p xs) : EvQ K te s H xs := fun H1 e Q q => h H1 e _ fun H2 e2 => q p H2 e2 (ex_t (e.trans e2) hx)
theorem eq_new (h : EvU te s H xs) : EvQ K te s H xs := fun H1 e Q q => h H1 e _ fun p H2 _ e2 hx => q p H2 e2 (st_of hx)
theorem eq_cat (h1 : EvQ K ta s H xs) (h2 : EvQ K tb s H ys) (hl : xs.length + ys.length ≤ 100000) : EvQ K (tOp (rCatA K) ta tb) s H (xs ++ ys) := fun H1 e Q q =>
  h1 H1 e _ fun p H2 e2 hx => h2 H2 (e.trans e2) _ fun p2 H3 e3 hy => ⟨p, p2, xs, ys, rfl, rfl, ex_t e3 hx, hy, sz_of hl,
    fun h => by
      subst h
      exact q p2 H3 (e2.trans e3) hy,
    fun _ h => by
      subst h
      rw [List.append_nil] at q
      exact q p H3 (e2.trans e3) (ex_t e3 hx),
    fun _ _ a ha => q a _ ((e2.trans e3).trans (Ex.new ha)) (st_of upd_same)⟩
theorem eq_sl {lo hi : Option Int} (h : EvQ K te s H xs) (h1 : EvO tl s H lo) (h2 : EvO th s H hi) : EvQ K (tSl (rSlA K) te tl th) s H (cutV xs lo hi) := fun H1 e Q q =>
  h H1 e _ fun p H2 e2 hx => h1 H2 (e.trans e2) _ fun H3 e3 => h2 H3 ((e.trans e2).trans e3) _ fun H4 e4 => ⟨p, xs, rfl, ex_t (e3.trans e4) hx, fun h => by
      have e5 : cutV xs lo hi = xs := by
        unfold cutV
        rw [h.1, h.2, Nat.sub_zero, List.drop_zero, List.take_length]
      rw [e5] at q
      exact q p H4 ((e2.trans e3).trans e4) (ex_t (e3.trans e4) hx),
    fun _ a ha => q a _ (((e2.trans e3).trans e4).trans (Ex.new ha)) (st_of upd_same)⟩
theorem eq_rep {k : Nat} (h : EvQ K ta s H xs) (hk : Ev tb s H (.int (k : Int))) (h1 : 1 ≤ k) (h2 : k ≤ 3) (hx : xs ≠ []) (hz : xs.length ≤ 1000) : EvQ K (tOp (WO.rRepA K) ta tb) s H (List.replicate k xs).flatten := fun H1 e Q q =>
  h H1 e _ fun p H2 e2 hp => hk H2 (e.trans e2) _ fun H3 e3 => ⟨p, (k : Int), xs, rfl, rfl, ex_t e3 hp, hx, by omega, by omega, hz, fun h => by
    obtain rfl : k = 1 := by omega
    have e1 : (List.replicate 1 xs).flatten = xs := by simp [List.replicate]
    rw [e1] at q
    exact q p H3 (e2.trans e3) (ex_t e3 hp), fun _ a ha => q a _ ((e2.trans e3).trans (Ex.new ha)) (st_of upd_same)⟩
theorem eg_ev (h : Ev te s H v) (k : ∀ H1, Ex H H1 → P H1 v) : EvG P te s H := fun H1 e Q q => h H1 e _ fun H2 e2 => q v H2 e2 (k H2 (e.trans e2))
theorem eg_q (h : EvQ K te s H xs) (k : ∀ p H1, Ex H H1 → SqT K H1 p xs → P H1 (.ref p)) : EvG P te s H := fun H1 e Q q => h H1 e _ fun p H2 e2 hx => q _ H2 e2 (k p H2 (e.trans e2) hx)
theorem eg_l (h : EvL te s H xs) (k : ∀ p H1, Ex H H1 → SqL K H1 p xs → P H1 (.ref p)) : EvG P te s H := fun H1 e Q q => h H1 e _ fun p H2 _ e2 hx => q _ H2 e2 (k p H2 (e.trans e2) (sq_of hx))
theorem eag_nil : EvAG P tNil s H 0 := fun H1 _ Q q => q [] H1 (Ex.refl H1) rfl (fun _ h => absurd h List.not_mem_nil)
theorem eag_cons (mono : ∀ (H H' : Hp) (v : V), P H v → Ex H H' → P H' v) (h : EvG P te s H) (r : EvAG P t s H n) : EvAG P (tCons te t) s H (n + 1) := fun H1 e Q q =>
  h H1 e _ fun v H2 e2 hv => r H2 (e.trans e2) _ fun vs H3 e3 hl hr => q (v :: vs) H3 (e2.trans e3) (by rw [List.length_cons, hl]) fun u hu => by
    rcases List.mem_cons.mp hu with rfl | hu
    · exact mono _ _ _ hv e3
    · exact hr u hu
theorem elg_lst (mono : ∀ (H H' : Hp) (v : V), P H v → Ex H H' → P H' v) (h : EvAG P t s H n) (hn : n ≤ 1000) : EvLG P (tLst t) s H n := fun H1 e Q q =>
  h H1 e _ fun vs H2 e2 hl hv => ⟨sz_of (by omega), fun p hp => q p vs _ (fresh_back e2 hp) (e2.trans (Ex.new hp)) upd_same hl (fun v hm => mono _ _ _ (hv v hm) (Ex.new hp))⟩
theorem elg_cat {i : Nat} {l : Addr} {ws : List V} (mono : ∀ (H H' : Hp) (v : V), P H v → Ex H H' → P H' v) (hs : s[i]? = some (some (.ref l))) (hl : H l = some (.lst ws)) (hw : ∀ v ∈ ws, P H v) (h : EvAG P t s H n) (hn : ws.length + n ≤ 1000) :
    EvLG P (tOp rCat (tVar i) (tLst t)) s H (ws.length + n) := fun H1 e Q q =>
  ⟨_, hs, elg_lst mono h (by omega) H1 e _ fun p vs H2 hp e2 hx hlen hv => ⟨l, p, ws, vs, rfl, rfl, e2 _ _ (e _ _ hl), hx, sz_of (by omega), fun m hm => q m _ _ (fresh_back e2 hm) (e2.trans (Ex.new hm)) upd_same (by rw [List.length_append, hlen]) (fun u hu => by
    rcases List.mem_append.mp hu with hu | hu
    · exact mono _ _ _ (hw u hu) ((e.trans e2).trans (Ex.new hm))
    · exact mono _ _ _ (hv u hu) (Ex.new hm))⟩⟩
theorem bl_setLG {i : Nat} (h : EvLG P te s H n) (k : ∀ p vs H1, H p = none → Ex H H1 → H1 p = some (.lst vs) → vs.length = n → (∀ v ∈ vs, P H1 v) → Bl tz D (s.set i (some (.ref p))) H1) : Bl (tSeq (tAsg te (gName i)) tz) D s H := fun H1 e =>
  h H1 e _ fun p vs H2 hp e2 hx hl hv => k p vs H2 (fresh_back e hp) (e.trans e2) hx hl hv H2 (Ex.refl H2)
end
end WQ
namespace WQ
open PySem PySem.Spec PyProof.Rows L2 Evl WM WL WLam WX WT WU StX
section
variable {K : PySem.W.Frag} {s : L2.St} {H : Hp} {te : TE} {xs : List V} {P : Hp → V → Prop}
/-- list(a tuple) -/
theorem el_ofT (h : EvQ K te s H xs) : EvL (tCB (fun xs H Q => ∃ p ys, xs = [V.ref p] ∧ (SqL K H p ys ∨ SqT K H p ys) ∧ ∀ l, H l = none → Q (.ref l) (upd H l (.lst ys))) (tCons te tNil)) s H xs := fun H1 e Q q =>
  h H1 e _ fun p H2 e2 hx => ⟨p, xs, rfl, .inr hx, fun l hl => q l _ (fresh_back e2 hl) (e2.trans (Ex.new hl)) upd_same⟩
end
end WQ

set_option maxHeartbeats 4000000
/-! Lists of lambdas; an if over the word that a def makes of a raising call. -/
namespace WY
open PySem PySem.Spec PyProof.Rows L2 Evl WM WL WLam WX WT WU StX LamX
/-- the makings of some lambdas, as arguments -/
def lams (X : Cx) (T : List (Addr × Str)) : List LamD → TA
  | [] => tNil
  | d :: r => tCons (tMk X T d) (lams X T r)
/-- a value is such a lambda -/
def IsLam (X : Cx) (H : Hp) (v : V) (d : LamD) : Prop := ∃ f, v = .ref f ∧ LamAt X d f H
theorem lams_at {X : Cx} {T : List (Addr × Str)} {s : L2.St} : ∀ {ds : List LamD} {H : Hp} {Q : List V → Hp → Prop}, Tabs T H →
    (∀ fs H2, ExtN H H2 → Tabs T H2 → Paired (IsLam X H2) fs ds → Q fs H2) → lams X T ds s H Q
  | [], H, Q, t, q => q [] H (fun _ _ h _ => h) t .nil
  | d :: r, H, Q, t, q => ⟨t, fun f H1 x1 t1 _ A => lams_at t1 fun fs H2 x2 t2 hp => q (.ref f :: fs) H2 (x1.trans x2) t2 (.cons ⟨f, rfl, A.ext x2⟩ hp)⟩
theorem lam_extN {X : Cx} {H H' : Hp} (e : ExtN H H') : ∀ {fs : List V} {ds : List LamD}, Paired (IsLam X H) fs ds → Paired (IsLam X H') fs ds
  | _, _, .nil => .nil
  | _, _, .cons ⟨f, h, A⟩ r => .cons ⟨f, h, A.ext e⟩ (lam_extN e r)
theorem lam_exb {X : Cx} {H H' : Hp} {r a : Addr} {ns : List Int} (R : RowOK X.K H r a ns) (e : ExB r H H') : ∀ {fs : List V} {ds : List LamD}, Paired (IsLam X H) fs ds → Paired (IsLam X H') fs ds
  | _, _, .nil => .nil
  | _, _, .cons ⟨f, h, A⟩ q => .cons ⟨f, h, lamAt_exb R A e⟩ (lam_exb R e q)
theorem paired_app {α β : Type} {F : α → β → Prop} : ∀ {as : List α} {bs : List β} {cs : List α} {ds : List β}, Paired F as bs → Paired F cs ds → Paired F (as ++ cs) (bs ++ ds)
  | _, _, _, _, .nil, h => h
  | _, _, _, _, .cons a r, h => .cons a (paired_app r h)
theorem paired_at {α β : Type} {F : α → β → Prop} : ∀ {as : List α} {bs : List β} {j : Nat} {b : β}, Paired F as bs → bs[j]? = some b → ∃ a, as[j]? = some a ∧ F a b
  | _, _, _, _, .nil, h => by cases h
  | _, _, 0, _, .cons a r, h => by
    cases h
    exact ⟨_, rfl, a⟩
  | _, _, j + 1, _, .cons a r, h => by
    obtain ⟨x, h1, h2⟩ := paired_at r (j := j) h
    exact ⟨x, h1, h2⟩
theorem paired_len {α β : Type} {F : α → β → Prop} : ∀ {as : List α} {bs : List β}, Paired F as bs → as.length = bs.length
  | _, _, .nil => rfl
  | _, _, .cons _ r => congrArg (· + 1) (paired_len r)
section
variable {s : L2.St} {H : Hp} {g : TE} {u : TT} {ta tb tz : TS} {D : Ends} {w : Str} {F : Hp → Prop}
/-- what a call gives: the word w, and F behind it -/
def Says (g : TE) (s : L2.St) (H : Hp) (w : Str) (F : Hp → Prop) : Prop := ∀ Q : VK, (∀ H2, F H2 → Q (.str w) H2) → g s H Q
theorem q_word (hg : Says g s H w F) (k : ∀ H2, F H2 → tz D s H2) : tSeq (tIfS (tTest (tOp rNe g (tC (.str w)))) ta tNext) tz D s H :=
  hg _ fun H2 f2 => ⟨rfl, (!decide (V.str w = V.str w)), rfl, by
    rw [decide_eq_true rfl]
    exact k H2 f2⟩
theorem q_wordOr (hg : Says g s H w F) (hu : ∀ H2, F H2 → EvT u s H2 false) (k : ∀ H2, F H2 → ∀ H3, Ex H2 H3 → tz D s H3) : tSeq (tIfS (tOr (tTest (tOp rNe g (tC (.str w)))) u) ta tNext) tz D s H :=
  hg _ fun H2 f2 => ⟨rfl, (!decide (V.str w = V.str w)), rfl, by
    rw [decide_eq_true rfl]
    exact hu H2 f2 H2 (Ex.refl H2) _ fun H4 e4 => k H2 f2 H4 e4⟩
theorem ret_word (hg : Says g s H w F) (k : ∀ H2, F H2 → D.rt (.bl true) H2) : tRet (tOp rEq g (tC (.str w))) D s H :=
  hg _ fun H2 f2 => ⟨rfl, by
    rw [decide_eq_true rfl]
    exact k H2 f2⟩
end
end WY

set_option maxHeartbeats 4000000
/-! What is no format, number, rule .. stays so: over draws (the row changes), over makings of lambdas (the table changes). -/
namespace WV
open PySem PySem.Spec PyProof.Rows L2 Evl WM WL WLam WX WT WU StX LamX
section
variable {K : PySem.W.Frag} {r a : Addr} {ns : List Int} {H H' : Hp} {v : V} {b : Bool}
/-- a list stays a list -/
theorem lst_exb (R : RowOK K H r a ns) (R' : RowOK K H' r a ns) (e : ExB r H H') {p : Addr} {xs : List V} (h : SqL K H p xs) : ∃ ys, SqL K H' p ys := by
  by_cases hp : p = r
  · subst hp
    obtain ⟨ys, hy⟩ := R'.is
    exact ⟨ys, sq_of hy⟩
  · exact ⟨xs, exb_l e hp h⟩
theorem Wi.exb (h : Wi K H v b) (R : RowOK K H r a ns) (R' : RowOK K H' r a ns) (e : ExB r H H') : Wi K H' v b := by
  cases h with
  | int i => exact .int i
  | bl b => exact .bl b
  | non => exact .non
  | str z => exact .str z
  | tup h => exact .tup (exb_t R e h)
  | lst h =>
    obtain ⟨ys, h2⟩ := lst_exb R R' e h
    exact .lst h2
theorem NoF.exb (h : NoF K H v) (R : RowOK K H r a ns) (R' : RowOK K H' r a ns) (e : ExB r H H') : NoF K H' v := by
  cases h with
  | non => exact .non
  | str z => exact .str z
  | int i => exact .int i
  | lst h =>
    obtain ⟨ys, h2⟩ := lst_exb R R' e h
    exact .lst h2
  | len h n => exact .len (exb_t R e h) n
  | four h hw fb fc fd no => exact .four (exb_t R e h) (hw.exb R R' e) fb fc fd no
theorem NoN.exb {f : Fmt} (h : NoN K H f v) (R : RowOK K H r a ns) (R' : RowOK K H' r a ns) (e : ExB r H H') : NoN K H' f v := by
  obtain ⟨w, h1, h2⟩ := h
  exact ⟨w, h1.exb R R' e, h2⟩
theorem NoR.exb {d : Addr} (h : NoR K H d v) (R : RowOK K H r a ns) (R' : RowOK K H' r a ns) (e : ExB r H H') : NoR K H' d v := by
  obtain ⟨w, h1, h2⟩ := h
  exact ⟨w, h1.exb R R' e, h2⟩
theorem NoS.exb {f : Fmt} {n : Nat} (h : NoS K H f n v) (R : RowOK K H r a ns) (R' : RowOK K H' r a ns) (e : ExB r H H') : NoS K H' f n v := by
  cases h with
  | non => exact .non
  | int i => exact .int i
  | lst h =>
    obtain ⟨ys, h2⟩ := lst_exb R R' e h
    exact .lst h2
  | len h ne => exact .len (exb_t R e h) ne
  | item h hl all bad => exact .item (exb_t R e h) hl (fun y hy => let ⟨w, hw⟩ := all y hy; ⟨w, hw.exb R R' e⟩) (let ⟨y, hy, hb⟩ := bad; ⟨y, hy, hb.exb R R' e⟩)
theorem Wi.extN (h : Wi K H v b) (e : ExtN H H') : Wi K H' v b := by
  cases h with
  | int i => exact .int i
  | bl b => exact .bl b
  | non => exact .non
  | str z => exact .str z
  | tup h => exact .tup (extN_t e h)
  | lst h => exact .lst (extN_l e h)
theorem NoF.extN (h : NoF K H v) (e : ExtN H H') : NoF K H' v := by
  cases h with
  | non => exact .non
  | str z => exact .str z
  | int i => exact .int i
  | lst h => exact .lst (extN_l e h)
  | len h n => exact .len (extN_t e h) n
  | four h hw fb fc fd no => exact .four (extN_t e h) (hw.extN e) fb fc fd no
theorem NoN.extN {f : Fmt} (h : NoN K H f v) (e : ExtN H H') : NoN K H' f v := by
  obtain ⟨w, h1, h2⟩ := h
  exact ⟨w, h1.extN e, h2⟩
theorem NoR.extN {d : Addr} (h : NoR K H d v) (e : ExtN H H') : NoR K H' d v := by
  obtain ⟨w, h1, h2⟩ := h
  exact ⟨w, h1.extN e, h2⟩
theorem NoS.extN {f : Fmt} {n : Nat} (h : NoS K H f n v) (e : ExtN H H') : NoS K H' f n v := by
  cases h with
  | non => exact .non
  | int i => exact .int i
  | lst h => exact .lst (extN_l e h)
  | len h ne => exact .len (extN_t e h) ne
  | item h hl all bad => exact .item (extN_t e h) hl (fun y hy => let ⟨w, hw⟩ := all y hy; ⟨w, hw.extN e⟩) (let ⟨y, hy, hb⟩ := bad; ⟨y, hy, hb.extN e⟩)
/-- the fifteen values that are no format, of a format f at p -/
theorem noF_width {f : Fmt} {p : Addr} {u : V} {w : Bool} (h : SqT K H p [u, .str (sgS f.sg), .str (ovS f.ov), .str (dvS f.dv)]) (hw : Wi K H u w) (no : ∀ i : Int, u = .int i → i < 4 ∨ 64 < i) : NoF K H (.ref p) :=
  .four h hw rfl rfl rfl fun i e h4 h64 => by
    rcases no i e with z | z <;> omega
theorem noF_words {p : Addr} {u b c d : V} {w : Bool} (h : SqT K H p [u, b, c, d]) (hw : Wi K H u w) (fb : flatV b = true) (fc : flatV c = true) (fd : flatV d = true)
    (no : (inV b [.str "symmetric", .str "twos", .str "unsigned"] && (inV c [.str "saturate", .str "trap", .str "wrap"] && inV d [.str "ceiling", .str "euclid", .str "even", .str "floor", .str "zero"])) = false) : NoF K H (.ref p) :=
  .four h hw fb fc fd fun _ _ _ _ => no
end
end WV
namespace WV
open PySem PySem.Spec PyProof.Rows L2 Evl WM WL WLam WX WT WU StX LamX
theorem NoI.exb {K : PySem.W.Frag} {r a : Addr} {ns : List Int} {H H' : Hp} {v : V} (h : NoI K H v) (R : RowOK K H r a ns) (R' : RowOK K H' r a ns) (e : ExB r H H') : NoI K H' v := by
  obtain ⟨w, h1, h2⟩ := h
  exact ⟨w, h1.exb R R' e, h2⟩
end WV
namespace WV
open PySem PySem.Spec PyProof.Rows L2 Evl WM WL WLam WX WT WU StX LamX
section
variable {K : PySem.W.Frag} {H : Hp} {f : Fmt} {p : Addr} {x : V}
theorem rep_flat (rr : Rl) (x : V) : (List.replicate rr.ar [x]).flatten = List.replicate rr.ar x := by cases rr <;> rfl
theorem ar_pos (rr : Rl) : 1 ≤ rr.ar := by cases rr <;> decide
theorem cut_ar (rr : Rl) (x : V) : cutV (List.replicate rr.ar x) none (some (-1)) = List.replicate (rr.ar - 1) x := by cases rr <;> rfl
theorem repS {rr : Rl} (h : SqT K H p (List.replicate rr.ar [x]).flatten) (hb : NoN K H f x) : NoS K H f rr.ar (.ref p) := by
  rw [rep_flat] at h
  refine .item h (List.length_replicate ..) (fun y hy => ?_) ⟨x, List.mem_replicate.mpr ⟨?_, rfl⟩, hb⟩
  · rw [(List.mem_replicate.mp hy).2]
    exact ⟨_, hb.choose_spec.1⟩
  · have := ar_pos rr
    omega
theorem lastS {rr : Rl} {i : Int} (h : SqT K H p (cutV (List.replicate rr.ar (V.int i)) none (some (-1)) ++ [V.non])) : NoS K H f rr.ar (.ref p) := by
  rw [cut_ar] at h
  refine .item h ?_ (fun y hy => ?_) ⟨.non, List.mem_append.mpr (.inr (List.mem_singleton.mpr rfl)), _, .non, fun i e => by cases e⟩
  · rw [List.length_append, List.length_replicate]
    have := ar_pos rr
    show rr.ar - 1 + 1 = rr.ar
    omega
  · rcases List.mem_append.mp hy with h | h
    · rw [(List.mem_replicate.mp h).2]
      exact ⟨_, .int _⟩
    · rw [List.mem_singleton.mp h]
      exact ⟨_, .non⟩
end
end WV

set_option maxHeartbeats 4000000
/-! A word of the heap that stays: over new objects, makings of lambdas, draws. Steps of a law told by such a word. -/
namespace WK
open PySem PySem.Spec PyProof.Rows L2 Evl WM WL WLam WX WT WU StX LamX
structure Kept (K : PySem.W.Frag) (r a : Addr) (ns : List Int) (T : List (Addr × Str)) (G : Hp → Prop) : Prop where
  row : ∀ {H}, G H → RowOK K H r a ns
  tab : ∀ {H}, G H → Tabs T H
  ex : ∀ {H H'}, G H → Ex H H' → G H'
  xn : ∀ {H H'}, G H → ExtN H H' → Tabs T H' → G H'
  eb : ∀ {H H'}, G H → RowOK K H' r a ns → ExB r H H' → G H'
section
variable {K : PySem.W.Frag} {r a : Addr} {ns : List Int} {T : List (Addr × Str)} {G G' : Hp → Prop}
theorem Kept.base : Kept K r a ns T (fun H => RowOK K H r a ns ∧ Tabs T H) where
  row h := h.1
  tab h := h.2
  ex h e := ⟨h.1.ex e, h.2.ext e⟩
  xn h e t := ⟨row_extN h.1 e, t⟩
  eb h R e := ⟨R, tabs_exb h.1 h.2 e⟩
/-- one word more -/
theorem Kept.and {P : Hp → Prop} (k : Kept K r a ns T G) (ex : ∀ H H', P H → Ex H H' → P H') (xn : ∀ H H', P H → ExtN H H' → P H') (eb : ∀ H H', P H → RowOK K H r a ns → RowOK K H' r a ns → ExB r H H' → P H') : Kept K r a ns T (fun H => G H ∧ P H) where
  row h := k.row h.1
  tab h := k.tab h.1
  ex h e := ⟨k.ex h.1 e, ex _ _ h.2 e⟩
  xn h e t := ⟨k.xn h.1 e t, xn _ _ h.2 e⟩
  eb h R e := ⟨k.eb h.1 R e, eb _ _ h.2 (k.row h.1) R e⟩
theorem Kept.tup (k : Kept K r a ns T G) (p : Addr) (xs : List V) : Kept K r a ns T (fun H => G H ∧ SqT K H p xs) := k.and (fun _ _ h e => ex_t e h) (fun _ _ h e => extN_t e h) (fun _ _ h R _ e => exb_t R e h)
theorem Kept.noF (k : Kept K r a ns T G) (v : V) : Kept K r a ns T (fun H => G H ∧ WV.NoF K H v) := k.and (fun _ _ h e => h.ex e) (fun _ _ h e => h.extN e) (fun _ _ h R R' e => h.exb R R' e)
theorem Kept.noN (k : Kept K r a ns T G) (f : Fmt) (v : V) : Kept K r a ns T (fun H => G H ∧ WV.NoN K H f v) := k.and (fun _ _ h e => h.ex e) (fun _ _ h e => h.extN e) (fun _ _ h R R' e => h.exb R R' e)
theorem Kept.noR (k : Kept K r a ns T G) (d : Addr) (v : V) : Kept K r a ns T (fun H => G H ∧ WV.NoR K H d v) := k.and (fun _ _ h e => h.ex e) (fun _ _ h e => h.extN e) (fun _ _ h R R' e => h.exb R R' e)
theorem Kept.noS (k : Kept K r a ns T G) (f : Fmt) (n : Nat) (v : V) : Kept K r a ns T (fun H => G H ∧ WV.NoS K H f n v) := k.and (fun _ _ h e => h.ex e) (fun _ _ h e => h.extN e) (fun _ _ h R R' e => h.exb R R' e)
/-- a list of lambdas -/
structure LamL (X : Cx) (r l : Addr) (ds : List LamD) (H : Hp) : Prop where
  ne : l ≠ r
  is : ∃ fs, H l = some (.lst fs) ∧ Paired (WY.IsLam X H) fs ds
theorem Kept.lam {X : Cx} (hK : X.K = K) (k : Kept K r a ns T G) (l : Addr) (ds : List LamD) : Kept K r a ns T (fun H => G H ∧ LamL X r l ds H) := k.and
  (fun _ _ h e => ⟨h.ne, let ⟨fs, h1, h2⟩ := h.is; ⟨fs, e _ _ h1, WY.lam_extN (ExtN.of e) h2⟩⟩)
  (fun _ _ h e => ⟨h.ne, let ⟨fs, h1, h2⟩ := h.is; ⟨fs, e _ _ h1 fun ps z => (by cases z), WY.lam_extN e h2⟩⟩)
  (fun _ _ h R _ e => ⟨h.ne, let ⟨fs, h1, h2⟩ := h.is; ⟨fs, e _ _ h.ne h1, WY.lam_exb (hK ▸ R) e h2⟩⟩)
end
section
variable {X : Cx} {K : PySem.W.Frag} {r a : Addr} {ns : List Int} {T : List (Addr × Str)} {G : Hp → Prop} {s : L2.St} {H : Hp} {D : Ends} {tz : TS} {i : Nat} {ds ds2 : List LamD}
/-- works = [lambda: .., ..] -/
theorem q_works (k : Kept K r a ns T G) (h : G H) (hn : ds.length ≤ 1000) (kk : ∀ l H1, G H1 → LamL X r l ds H1 → tz D (s.set i (some (.ref l))) H1) : tSeq (tAsg (tLst (WY.lams X T ds)) (gName i)) tz D s H :=
  WY.lams_at (k.tab h) fun fs H1 x1 t1 hp => ⟨sz_of (by rw [WY.paired_len hp]; omega), fun l hl => by
    have g1 := k.xn h x1 t1
    exact kk l _ (k.ex g1 (Ex.new hl)) ⟨(k.row g1).fresh hl, fs, upd_same, WY.lam_extN (ExtN.of (Ex.new hl)) hp⟩⟩
/-- works = works + [lambda: .., ..] -/
theorem q_worksMore {l : Addr} (k : Kept K r a ns T G) (hK : X.K = K) (h : G H) (hl : LamL X r l ds H) (hs : s[i]? = some (some (.ref l))) (hn : ds.length + ds2.length ≤ 1000)
    (kk : ∀ l2 H1, G H1 → LamL X r l2 (ds ++ ds2) H1 → tz D (s.set i (some (.ref l2))) H1) : tSeq (tAsg (tOp rCat (tVar i) (tLst (WY.lams X T ds2))) (gName i)) tz D s H := by
  refine ⟨_, hs, WY.lams_at (k.tab h) fun fs2 H1 x1 t1 hp2 => ⟨sz_of (by rw [WY.paired_len hp2]; omega), fun l1 hl1 => ?_⟩⟩
  have kl := k.lam hK l ds
  have g1 := kl.xn ⟨h, hl⟩ x1 t1
  have g2 := kl.ex g1 (Ex.new (o := .lst fs2) hl1)
  obtain ⟨fs, e1, p1⟩ := g2.2.is
  have p2 := WY.lam_extN (ExtN.of (Ex.new (o := .lst fs2) hl1)) hp2
  refine ⟨l, l1, fs, fs2, rfl, rfl, e1, upd_same, sz_of (by rw [WY.paired_len p1, WY.paired_len p2]; omega), fun m hm => ?_⟩
  exact kk m _ (k.ex g2.1 (Ex.new hm)) ⟨(k.row g2.1).fresh hm, _, upd_same, WY.lam_extN (ExtN.of (Ex.new hm)) (WY.paired_app p1 p2)⟩
/-- g(works[draw]) -/
theorem says_give {l : Addr} {n : Nat} {fam : Nat → LamD} {TT : (XK → Hp → VK → Prop) → Hp → VK → Prop} {tb : Nat → XK → TE} {E : XK} {w : Str} (k : Kept K r a ns T G) (hK : X.K = K) (h : G H) (hl : LamL X r l ds H) (hs : s[i]? = some (some (.ref l)))
    (h1 : s[1]? = some (some (.ref r))) (hn : ds.length = n) (hf : ∀ j, j < n → ds[j]? = some (fam j)) (n0 : 0 < n) (n1 : n ≤ 1000)
    (hb : ∀ j, j < n → ∀ H8, G H8 → ∀ Q : VK, (∀ H', Ex H8 H' → Q (.str w) H') → TT (fun E H' Q' => tb j E s H' Q') H8 Q) :
    WY.Says (tGive X (tOp (rIxL K) (tVar i) (tCall (SpTaken K) [] E (tCons (tVar 1) (tCons (tC (.int (n : Int))) tNil)))) n fam TT tb) s H w G := fun Q q => by
  refine ⟨_, hs, _, h1, r, a, ns, (n : Int), rfl, k.row h, by omega, sm_nat n1, fun v H8 v0 v1 R8 e8 => ?_⟩
  have g8 := (k.lam hK l ds).eb ⟨h, hl⟩ R8 e8
  obtain ⟨j, rfl⟩ : ∃ j : Nat, v = j := ⟨v.toNat, by omega⟩
  have hj : j < n := by omega
  obtain ⟨fs, e1, p1⟩ := g8.2.is
  obtain ⟨fv, hv, f0, rfl, A0⟩ := WY.paired_at p1 (hf j hj)
  exact ⟨l, fs, (j : Int), .ref f0, rfl, rfl, sq_of e1, atI_nat hv, j, f0, hj, rfl, A0, hb j hj H8 g8.1 Q fun H' e' => q H' (k.ex g8.1 e')⟩
/-- xs[draw] of a list whose items a word tells -/
theorem q_item {P : Hp → V → Prop} {l : Addr} {vs : List V} {j : Nat} {n : Nat} {E : XK} (k : Kept K r a ns T G) (h : G H) (hl : H l = some (.lst vs)) (hr : l ≠ r) (hs : s[j]? = some (some (.ref l))) (h1 : s[1]? = some (some (.ref r))) (hn : vs.length = n) (n0 : 0 < n) (n1 : n ≤ 1000)
    (hv : ∀ v ∈ vs, P H v) (eb : ∀ H' v, P H v → RowOK K H r a ns → RowOK K H' r a ns → ExB r H H' → P H' v) (kk : ∀ v H1, G H1 → P H1 v → tz D (s.set i (some v)) H1) :
    tSeq (tAsg (tOp (rIxL K) (tVar j) (tCall (SpTaken K) [] E (tCons (tVar 1) (tCons (tC (.int (n : Int))) tNil)))) (gName i)) tz D s H := by
  refine ⟨_, hs, _, h1, r, a, ns, (n : Int), rfl, k.row h, by omega, sm_nat n1, fun v H8 v0 v1 R8 e8 => ?_⟩
  obtain ⟨w, hw, hm⟩ := at_mem (xs := vs) v0 (by omega)
  exact ⟨l, vs, v, w, rfl, rfl, sq_of (e8 _ _ hr hl), hw, kk w H8 (k.eb h R8 e8) (eb H8 w (hv w hm) (k.row h) R8 e8)⟩
end
end WK

set_option maxHeartbeats 4000000
/-! Texts: what reads an integer, what a format's text is, items of a text. -/
namespace WI
open PySem PySem.Spec PyProof.Rows L2 Evl WM WL WLam WX WT WU StX
/-! ### rules -/
theorem op_mulS {X : Cx} : OpR X (binaryOp .Mult) (fun x y H Q => ∃ a i, x = .str a ∧ y = .int i ∧ MulOk a i ∧ Q (.str (Txt.mul a i)) H) := by
  intro pins s σ H x y v u Q I rx ry h
  obtain ⟨a, i, rfl, rfl, ok, q⟩ := h
  obtain ⟨t, rfl⟩ := rx
  obtain ⟨t', rfl⟩ := ry
  exact PySem.SB.mul ok fun t' k => ⟨.str (Txt.mul a i), H, I.tok _, ⟨_, rfl⟩, q⟩
section
variable {K : PySem.W.Frag} {s : L2.St} {H : Hp} {ta tb te tf : TE} {t : TA} {v y : V} {D : Ends} {tz : TS} {xs ys : List V} {a b : Str}
/-- a text's method with an argument -/
theorem ev_bmS {r : V → List V → Hp → VK → Prop} {vs : List V} (h : Ev te s H (.str a)) (ha : EvA t s H vs) (k : ∀ H1, Ex H H1 → ∀ Q : VK, Q v H1 → r (.str a) vs H1 Q) : Ev (tBM K "str" r te t) s H v := fun H1 e Q q =>
  h H1 e _ fun H2 e2 => ⟨rfl, ha H2 (e.trans e2) _ fun H3 e3 => k H3 ((e.trans e2).trans e3) Q (q H3 (e2.trans e3))⟩
theorem ev_bm0S {r : V → List V → Hp → VK → Prop} (h : Ev te s H (.str a)) (k : ∀ H1, Ex H H1 → ∀ Q : VK, Q v H1 → r (.str a) [] H1 Q) : Ev (tBM0 K "str" r te) s H v := fun H1 e Q q =>
  h H1 e _ fun H2 e2 => ⟨rfl, k H2 (e.trans e2) Q (q H2 e2)⟩
theorem ev_removeprefix (h : Ev te s H (.str a)) (hb : Ev tb s H (.str b)) (hz : a.length ≤ 100000) : Ev (tBM K "str" (fun x xs H Q => ∃ a b, x = V.str a ∧ xs = [V.str b] ∧ a.length ≤ sizeLine ∧ Q (.str (Txt.removeprefix a b)) H) te (tCons tb tNil)) s H (.str (Txt.removeprefix a b)) :=
  ev_bmS h (ea_cons hb ea_nil) fun H1 _ Q q => ⟨a, b, rfl, rfl, sz_of hz, q⟩
theorem ev_isascii (h : Ev te s H (.str a)) : Ev (tBM0 K "str" (fun x xs H Q => ∃ a, x = V.str a ∧ xs = [] ∧ True ∧ Q (.bl (Txt.isascii a)) H) te) s H (.bl (Txt.isascii a)) :=
  ev_bm0S h fun H1 _ Q q => ⟨a, rfl, rfl, trivial, q⟩
theorem ev_isdigit (h : Ev te s H (.str a)) : Ev (tBM0 K "str" (fun x xs H Q => ∃ a, x = V.str a ∧ xs = [] ∧ True ∧ Q (.bl (Txt.isdigit a)) H) te) s H (.bl (Txt.isdigit a)) :=
  ev_bm0S h fun H1 _ Q q => ⟨a, rfl, rfl, trivial, q⟩
theorem ev_lenS (h : Ev te s H (.str a)) (hz : a.length ≤ 100000) : Ev (tCB (fun xs H Q => ∃ z, xs = [V.str z] ∧ z.length ≤ sizeLine ∧ Q (.int z.length) H) (tCons te tNil)) s H (.int (a.length : Int)) := fun H1 e Q q =>
  h H1 e _ fun H2 e2 => ⟨a, rfl, sz_of hz, q H2 e2⟩
theorem ev_intS {n : Int} (h : Ev te s H (.str a)) (hn : PySem.intText? a = some n) (hz : a.length ≤ 640) : Ev (tCB (fun xs H Q => ∃ a n, xs = [V.str a] ∧ PySem.intText? a = some n ∧ a.length ≤ 640 ∧ Q (.int n) H) (tCons te tNil)) s H (.int n) := fun H1 e Q q =>
  h H1 e _ fun H2 e2 => ⟨a, n, rfl, hn, hz, q H2 e2⟩
theorem ev_strI {n : Int} (h : Ev te s H (.int n)) (hz : n.natAbs.log2 < 1920) : Ev (tCB (fun xs H Q => ∃ i, xs = [V.int i] ∧ i.natAbs.log2 < 1920 ∧ Q (.str (toString i)) H) (tCons te tNil)) s H (.str (toString n)) := fun H1 e Q q =>
  h H1 e _ fun H2 e2 => ⟨n, rfl, hz, q H2 e2⟩
theorem ev_addS (h1 : Ev ta s H (.str a)) (h2 : Ev tb s H (.str b)) (hz : a.length + b.length ≤ 100000) : Ev (tOp (fun x y H Q => ∃ i j, x = V.str i ∧ y = V.str j ∧ i.length + j.length ≤ sizeLine ∧ Q (.str (i ++ j)) H) ta tb) s H (.str (a ++ b)) :=
  ev_op h1 h2 fun H1 _ Q q => ⟨a, b, rfl, rfl, sz_of hz, q H1 (Ex.refl H1)⟩
theorem ev_mulS {i : Int} (h1 : Ev ta s H (.str a)) (h2 : Ev tb s H (.int i)) (ok : MulOk a i) : Ev (tOp (fun x y H Q => ∃ a i, x = V.str a ∧ y = V.int i ∧ MulOk a i ∧ Q (.str (Txt.mul a i)) H) ta tb) s H (.str (Txt.mul a i)) :=
  ev_op h1 h2 fun H1 _ Q q => ⟨a, i, rfl, rfl, ok, q H1 (Ex.refl H1)⟩
theorem el_split (h : Ev te s H (.str a)) (hb : Ev tb s H (.str b)) (h0 : (b.length == 0) = false) (hz : a.length + 2 ≤ 100000) : EvL (tBM K "str" (fun x xs H Q => ∃ a b, x = V.str a ∧ xs = [V.str b] ∧ (b.length == 0) = false ∧ a.length + 2 ≤ sizeLine ∧ rNewStrs (Txt.split a b) H Q) te (tCons tb tNil)) s H ((Txt.split a b).map V.str) := fun H1 e Q q =>
  h H1 e _ fun H2 e2 => ⟨rfl, hb H2 (e.trans e2) _ fun H3 e3 => ⟨a, b, rfl, rfl, h0, sz_of hz, fun p hp => q p _ (fresh_back (e2.trans e3) hp) ((e2.trans e3).trans (Ex.new hp)) upd_same⟩⟩
theorem eu_partition (h : Ev te s H (.str a)) (hb : Ev tb s H (.str b)) (h0 : (b.length == 0) = false) (hz : a.length ≤ 100000) : EvU (tBM K "str" (fun x xs H Q => ∃ a b, x = V.str a ∧ xs = [V.str b] ∧ (b.length == 0) = false ∧ a.length ≤ sizeLine ∧
    ∀ p, H p = none → Q (.ref p) (upd H p (.tup [.str (Txt.partition a b).1, .str (Txt.partition a b).2.1, .str (Txt.partition a b).2.2]))) te (tCons tb tNil)) s H [.str (Txt.partition a b).1, .str (Txt.partition a b).2.1, .str (Txt.partition a b).2.2] := fun H1 e Q q =>
  h H1 e _ fun H2 e2 => ⟨rfl, hb H2 (e.trans e2) _ fun H3 e3 => ⟨a, b, rfl, rfl, h0, sz_of hz, fun p hp => q p _ (fresh_back (e2.trans e3) hp) ((e2.trans e3).trans (Ex.new hp)) upd_same⟩⟩
/-- *(a new list) among arguments -/
theorem ea_starL (h : EvL te s H xs) (hr : EvA t s H ys) : EvA (tStar K te t) s H (xs ++ ys) := fun H1 e Q q =>
  h H1 e _ fun p H2 _ e2 hx => ⟨p, xs, rfl, .inr (sq_of hx), hr H2 (e.trans e2) _ fun H3 e3 => q H3 (e2.trans e3)⟩
end
/-! ### an integer's text -/
def cut (a : Str) : Str := Txt.removeprefix a "-"
def okB (a : Str) : Bool := Txt.isascii (cut a) && (Txt.isdigit (cut a) && decide ((cut a).length ≤ 30))
/-- what a text is read as: an integer or None -/
inductive Rw (a : Str) : V → Prop
  | no (h : okB a = false) : Rw a .non
  | yes {n : Int} (h : okB a = true) (hi : PySem.intText? a = some n) (hb : n.natAbs < 10 ^ 40) (e : (toString n : Str) = a) : Rw a (.int n)
  | odd {n : Int} (h : okB a = true) (hi : PySem.intText? a = some n) (hb : n.natAbs < 10 ^ 40) (e : (toString n : Str) ≠ a) : Rw a .non
def rwO (a : Str) : Option Int := if okB a then (match PySem.intText? a with | some n => if (toString n : Str) = a then some n else none | none => none) else none
def rwV (a : Str) : V := match rwO a with | some n => .int n | none => .non
def rwOk (a : Str) : Bool := !okB a || (match PySem.intText? a with | some n => decide (n.natAbs < 10 ^ 40) | none => false)
theorem rw_of {a : Str} (h : rwOk a = true) : Rw a (rwV a) := by
  unfold rwOk at h
  unfold rwV rwO
  cases ho : okB a with
  | false => exact .no ho
  | true =>
    rw [ho] at h
    cases hi : PySem.intText? a with
    | none => rw [hi] at h; cases h
    | some n =>
      rw [hi] at h
      have hb : n.natAbs < 10 ^ 40 := of_decide_eq_true h
      rw [if_pos rfl]
      show Rw a (match (if (toString n : Str) = a then some n else none) with | some n => V.int n | none => V.non)
      by_cases he : (toString n : Str) = a
      · rw [if_pos he]; exact .yes ho hi hb he
      · rw [if_neg he]; exact .odd ho hi hb he
theorem not_ok {a : Str} : (!Txt.isascii (cut a) || (!Txt.isdigit (cut a) || decide ((30 : Int) < ((cut a).length : Int)))) = !okB a := by
  unfold okB
  have e : decide ((30 : Int) < ((cut a).length : Int)) = !decide ((cut a).length ≤ 30) := by
    by_cases h : (cut a).length ≤ 30
    · rw [decide_eq_true h, decide_eq_false (by omega)]; rfl
    · rw [decide_eq_false h, decide_eq_true (by omega)]; rfl
  rw [e, Bool.not_and, Bool.not_and]
theorem log_40 {n : Int} (h : n.natAbs < 10 ^ 40) : n.natAbs.log2 < 1920 := by
  refine log2_of (Nat.lt_of_lt_of_le h ?_) (by decide)
  exact Nat.le_of_ble_eq_true (by decide +kernel)
end WI
namespace WI
open PySem PySem.Spec PyProof.Rows L2 WM WL TL
/-! ### the text of an integer is read back -/
theorem tl_neg (n : Nat) : tl (Str.ofString (toString (Int.negSucc n))) = 45 :: numL (n + 1) := by
  rw [tl_ofString]
  show (("-" ++ Nat.repr (n + 1) : String)).toList.map Char.toNat = _
  rw [String.toList_append, List.map_append]
  show 45 :: (Nat.repr (n + 1)).toList.map Char.toNat = _
  rw [Nat.toList_repr]
  rfl
theorem tl_neg' {n : Int} (h : n < 0) : tl (Str.ofString (toString n)) = 45 :: numL n.natAbs := by
  obtain ⟨m, rfl⟩ : ∃ m : Nat, n = Int.negSucc m := ⟨(-n - 1).toNat, by omega⟩
  exact tl_neg m
theorem tl_pos {n : Int} (h : 0 ≤ n) : tl (Str.ofString (toString n)) = numL n.natAbs := by
  obtain ⟨m, rfl⟩ := Int.eq_ofNat_of_zero_le h
  exact tl_num m
theorem dig_ok : ∀ d : Nat, d < 10 → Unicode.isDigit (48 + d) = true := by decide +kernel
theorem isdigit_of {x : Str} (h : NumText.AllDigits (tl x)) (h1 : tl x ≠ []) : Txt.isdigit x = true := by
  unfold Txt.isdigit
  rw [Bool.and_eq_true]
  constructor
  · have := len_tl x
    have : 0 < (tl x).length := List.length_pos_iff.mpr h1
    exact decide_eq_true (by omega)
  · rw [← Array.all_toList]
    refine List.all_eq_true.mpr fun c hc => ?_
    have := h c hc
    have := dig_ok (c - 48) (by omega)
    rw [show 48 + (c - 48) = c by omega] at this
    exact this
theorem isascii_of {x : Str} (h : NumText.AllDigits (tl x)) : Txt.isascii x = true := by
  unfold Txt.isascii
  rw [← Array.all_toList]
  refine List.all_eq_true.mpr fun c hc => ?_
  have := h c hc
  exact decide_eq_true (by omega)
theorem subAt0 (x y : Str) : Builtin.Str.subAt x y 0 = ((tl x).take y.length == tl y) := by
  unfold Builtin.Str.subAt
  rw [Bool.eq_iff_iff, beq_iff_eq, beq_iff_eq]
  constructor
  · intro h
    have e := congrArg Array.toList h
    rw [Array.toList_extract, Nat.zero_add, List.extract_eq_drop_take, List.drop_zero, Nat.sub_zero] at e
    exact e
  · intro h
    apply Array.toList_inj.mp
    rw [Array.toList_extract, Nat.zero_add, List.extract_eq_drop_take, List.drop_zero, Nat.sub_zero]
    exact h
theorem cut_pos {x : Str} (h : NumText.AllDigits (tl x)) : cut x = x := by
  unfold cut Txt.removeprefix
  have e : Builtin.Str.subAt x "-" 0 = false := by
    rw [subAt0]
    refine beq_eq_false_iff_ne.mpr fun z => ?_
    cases ht : tl x with
    | nil => rw [ht] at z; cases z
    | cons c r =>
      rw [ht] at z h
      have hc := h c (List.mem_cons_self ..)
      have : (c :: r).take 1 = [45] := z
      rw [List.take_succ_cons] at this
      injection this with a _
      omega
  rw [e]
  rfl
theorem cut_neg {x : Str} {cs : List Nat} (h : tl x = 45 :: cs) : tl (cut x) = cs := by
  unfold cut Txt.removeprefix
  have e : Builtin.Str.subAt x "-" 0 = true := by
    rw [subAt0, h]
    rfl
  rw [e]
  show tl (Txt.affix x (some (1, x.length))) = cs
  unfold Txt.affix
  have hl := len_tl x
  rw [h, List.length_cons] at hl
  have n1 : (x.length - 1 == x.length) = false := beq_eq_false_iff_ne.mpr (by omega)
  simp only [n1]
  show tl (Builtin.Str.strSub x 1 x.length) = cs
  rw [tl_strSub_end, h]
  rfl
theorem affix_le (x : Str) (i j : Nat) : (Txt.affix x (some (i, j))).length ≤ x.length := by
  unfold Txt.affix
  show (if (j - i == x.length) = true then x else Builtin.Str.strSub x i j).length ≤ x.length
  split
  · exact Nat.le_refl _
  · rw [len_tl, tl_strSub, len_tl x, List.length_take, List.length_drop]
    omega
theorem cut_le (x : Str) : (cut x).length ≤ x.length := by
  unfold cut Txt.removeprefix
  split
  · exact affix_le _ _ _
  · exact Nat.le_refl _
theorem rw_num {n : Int} (h : n.natAbs < 10 ^ 30) : Rw (Str.ofString (toString n)) (.int n) := by
  have hl : (numL n.natAbs).length ≤ 30 := numL_len (by decide) h
  by_cases h0 : 0 ≤ n
  · have e := tl_pos h0
    have d : NumText.AllDigits (tl (Str.ofString (toString n))) := by rw [e]; exact numL_digits _
    have ne : tl (Str.ofString (toString n)) ≠ [] := by rw [e]; exact numL_ne _
    have lt := len_tl (Str.ofString (toString n))
    rw [e] at lt
    refine .yes (n := n) ?_ ?_ (Nat.lt_trans h (by decide)) rfl
    · unfold okB
      rw [cut_pos d, isascii_of d, isdigit_of d ne, decide_eq_true (by omega)]
      rfl
    · have z := PySem.intText_digits d ne (by omega)
      have v : NumText.digitsVal (tl (Str.ofString (toString n))) = n.natAbs := by rw [e]; exact numL_val _
      have z2 : PySem.intText? (Str.ofString (toString n)) = some ((NumText.digitsVal (tl (Str.ofString (toString n))) : Nat) : Int) := z
      rw [z2, v]
      exact congrArg some (by omega)
  · have e := tl_neg' (n := n) (by omega)
    have d : NumText.AllDigits (tl (cut (Str.ofString (toString n)))) := by rw [cut_neg e]; exact numL_digits _
    have ne : tl (cut (Str.ofString (toString n))) ≠ [] := by rw [cut_neg e]; exact numL_ne _
    have lt := len_tl (cut (Str.ofString (toString n)))
    rw [cut_neg e] at lt
    have lt2 := len_tl (Str.ofString (toString n))
    rw [e, List.length_cons] at lt2
    refine .yes (n := n) ?_ ?_ (Nat.lt_trans h (by decide)) rfl
    · unfold okB
      rw [isascii_of d, isdigit_of d ne, decide_eq_true (by omega)]
      rfl
    · have z : PySem.intText? (Str.ofString (toString n)) = some (-((NumText.digitsVal (numL n.natAbs) : Nat) : Int)) := PySem.intText_neg e (numL_digits _) (numL_ne _) (by omega)
      rw [z, numL_val]
      exact congrArg some (by omega)
theorem len_num {n : Int} (h : n.natAbs < 10 ^ 30) : (Str.ofString (toString n)).length ≤ 31 := by
  have hl : (numL n.natAbs).length ≤ 30 := numL_len (by decide) h
  rw [len_tl]
  by_cases h0 : 0 ≤ n
  · rw [tl_pos h0]; omega
  · rw [tl_neg' (by omega), List.length_cons]; omega
/-! ### a format's text -/
def wfS (f : Fmt) : Str := Str.ofString (toString (f.w : Int)) ++ " " ++ sgS f.sg ++ " " ++ ovS f.ov ++ " " ++ dvS f.dv
theorem free_sg (sg : Sg) : 32 ∉ tl (sgS sg) := by cases sg <;> decide +kernel
theorem free_ov (ov : Ov) : 32 ∉ tl (ovS ov) := by cases ov <;> decide +kernel
theorem free_dv (dv : Dv) : 32 ∉ tl (dvS dv) := by cases dv <;> decide +kernel
theorem tl_sp : tl (Str.ofString " ") = [32] := by decide +kernel
theorem split_wf (f : Fmt) : Txt.split (wfS f) " " = [Str.ofString (toString (f.w : Int)), sgS f.sg, ovS f.ov, dvS f.dv] := by
  apply map_tl_inj
  rw [split_spl _ _ (by rw [tl_sp]; exact List.cons_ne_nil _ _) (kind_ok (by decide +kernel)), tl_sp]
  unfold wfS
  simp only [tl_append, tl_sp, tl_num, List.append_assoc]
  rw [spl_part1 (S := []) (numL_free (by omega)), spl_part1 (S := []) (free_sg _), spl_part1 (S := []) (free_ov _), spl_last1 (S := []) (free_dv _)]
  simp only [List.map_cons, List.map_nil, tl_num, List.nil_append]
theorem len_sg (sg : Sg) : (sgS sg).length ≤ 9 := by cases sg <;> decide +kernel
theorem len_ov (ov : Ov) : (ovS ov).length ≤ 8 := by cases ov <;> decide +kernel
theorem len_dv (dv : Dv) : (dvS dv).length ≤ 7 := by cases dv <;> decide +kernel
theorem len_app (x y : Str) : (x ++ y).length = x.length + y.length := by
  rw [len_tl, len_tl x, len_tl y, tl_append, List.length_append]
theorem len_sp : (Str.ofString " ").length = 1 := by decide +kernel
theorem w_abs (f : Fmt) : ((f.w : Int)).natAbs < 10 ^ 30 := by
  have := f.hi64
  have : 64 < 10 ^ 30 := by decide
  omega
theorem len_wf (f : Fmt) : (wfS f).length ≤ 100 := by
  unfold wfS
  simp only [len_app, len_sp]
  have := len_num (w_abs f)
  have := len_sg f.sg
  have := len_ov f.ov
  have := len_dv f.dv
  omega
end WI
namespace WI
open PySem PySem.Spec PyProof.Rows L2 Evl WM WL WLam WX WT WU StX
/-! ### f-strings -/
def EvJ (ts : List TE) (acc : Str) (s : L2.St) (H : Hp) (out : Str) : Prop := ∀ H1, Ex H H1 → ∀ Q : Str → Hp → Prop, (∀ H2, Ex H1 H2 → Q out H2) → tJs ts acc s H1 Q
section
variable {K : PySem.W.Frag} {s : L2.St} {H : Hp} {te : TE} {ts : List TE} {acc y out : Str} {i : Int}
theorem ej_nil : EvJ [] acc s H acc := fun H1 _ Q q => q H1 (Ex.refl H1)
theorem ej_cons (h : Ev te s H (.str y)) (hz : (acc ++ y).length ≤ 100000) (r : EvJ ts (acc ++ y) s H out) : EvJ (te :: ts) acc s H out := fun H1 e Q q =>
  h H1 e _ fun H2 e2 => ⟨y, rfl, sz_of hz, r H2 (e.trans e2) Q fun H3 e3 => q H3 (e2.trans e3)⟩
theorem ev_joined (h : EvJ ts Str.empty s H out) : Ev (fun σ H Q => tJs ts Str.empty σ H fun out H1 => Q (.str out) H1) s H (.str out) := fun H1 e Q q => h H1 e _ fun H2 e2 => q H2 e2
theorem ev_fmtI (h : Ev te s H (.int i)) (hz : i.natAbs.log2 < 1920) : Ev (tFmt te) s H (.str (toString i)) := fun H1 e Q q => h H1 e _ fun H2 e2 => .inr ⟨i, rfl, hz, q H2 e2⟩
theorem ev_fmtS (h : Ev te s H (.str y)) (hz : y.length ≤ 100000) : Ev (tFmt te) s H (.str y) := fun H1 e Q q => h H1 e _ fun H2 e2 => .inl ⟨y, rfl, sz_of hz, q H2 e2⟩
end
theorem empty_app (x : Str) : Str.empty ++ x = x := TL.ext_tl (by rw [TL.tl_append]; rfl)
/-! ### texts that are no format's -/
def fmtB (b c d : Str) : Bool := inV (.str b) [.str "symmetric", .str "twos", .str "unsigned"] && (inV (.str c) [.str "saturate", .str "trap", .str "wrap"] && inV (.str d) [.str "ceiling", .str "euclid", .str "even", .str "floor", .str "zero"])
def BadT (a : Str) : Prop := a.length ≤ 600 ∧ ∃ (a0 : Str) (rest : List Str) (u : V), Txt.split a " " = a0 :: rest ∧ a0.length ≤ 600 ∧ rest.length ≤ 600 ∧ Rw a0 u ∧
  (rest.length ≠ 3 ∨ ∃ b c d, rest = [b, c, d] ∧ ∀ i : Int, u = .int i → 4 ≤ i → i ≤ 64 → fmtB b c d = false)
def badR (u : Option Int) : List Str → Bool
  | [b, c, d] => (match u with | some i => !(decide (4 ≤ i) && decide (i ≤ 64)) || !fmtB b c d | none => true)
  | _ => true
def badL : List Str → Bool
  | a0 :: rest => decide (a0.length ≤ 600) && (decide (rest.length ≤ 600) && (rwOk a0 && badR (rwO a0) rest))
  | [] => false
def badB (a : Str) : Bool := decide (a.length ≤ 600) && badL (Txt.split a " ")
theorem bad_of {a : Str} (h : badB a = true) : BadT a := by
  unfold badB at h
  rw [Bool.and_eq_true, decide_eq_true_eq] at h
  obtain ⟨h0, h⟩ := h
  refine ⟨h0, ?_⟩
  cases hs : Txt.split a " " with
  | nil => rw [hs] at h; cases h
  | cons a0 rest =>
    rw [hs] at h
    unfold badL at h
    rw [Bool.and_eq_true, Bool.and_eq_true, Bool.and_eq_true, decide_eq_true_eq, decide_eq_true_eq] at h
    obtain ⟨h1, h2, h3, h4⟩ := h
    refine ⟨a0, rest, rwV a0, rfl, h1, h2, rw_of h3, ?_⟩
    match rest, h4 with
    | [], _ => exact .inl (by decide)
    | [_], _ => exact .inl (by simp)
    | [_, _], _ => exact .inl (by simp)
    | _ :: _ :: _ :: _ :: r, _ => exact .inl (by simp)
    | [b, c, d], h4 =>
      refine .inr ⟨b, c, d, rfl, fun i hi l1 l2 => ?_⟩
      unfold rwV at hi
      unfold badR at h4
      cases hr : rwO a0 with
      | none => rw [hr] at hi; cases hi
      | some j =>
        rw [hr] at hi h4
        injection hi with hi
        subst hi
        have : (!(decide (4 ≤ j) && decide (j ≤ 64)) || !fmtB b c d) = true := h4
        rw [decide_eq_true l1, decide_eq_true l2] at this
        cases hf : fmtB b c d with
        | false => rfl
        | true => rw [hf] at this; cases this
theorem noF_bad {K : PySem.W.Frag} {H : Hp} {p : Addr} {a0 : Str} {rest : List Str} {u : V} (h : SqT K H p (u :: rest.map V.str)) (hw : Rw a0 u) (b : rest.length ≠ 3 ∨ ∃ b c d, rest = [b, c, d] ∧ ∀ i : Int, u = .int i → 4 ≤ i → i ≤ 64 → fmtB b c d = false) : WV.NoF K H (.ref p) := by
  rcases b with b | ⟨b, c, d, rfl, no⟩
  · refine .len h ?_
    rw [List.length_cons, List.length_map]
    omega
  · have h' : SqT K H p [u, .str b, .str c, .str d] := h
    obtain ⟨w0, hw0⟩ : ∃ w0, WV.Wi K H u w0 := by
      cases hw with
      | no _ => exact ⟨_, .non⟩
      | yes _ _ _ _ => exact ⟨_, .int _⟩
      | odd _ _ _ _ => exact ⟨_, .non⟩
    exact .four h' hw0 rfl rfl rfl no
/-- no text -/
def NoT (K : PySem.W.Frag) (H : Hp) (v : V) : Prop := ∃ w, WV.Wi K H v w ∧ ∀ z : Str, v ≠ .str z
theorem NoT.ex {K : PySem.W.Frag} {H H' : Hp} {v : V} (h : NoT K H v) (e : Ex H H') : NoT K H' v := by
  obtain ⟨w, h1, h2⟩ := h
  exact ⟨w, h1.ex e, h2⟩
theorem NoT.exb {K : PySem.W.Frag} {r a : Addr} {ns : List Int} {H H' : Hp} {v : V} (h : NoT K H v) (R : RowOK K H r a ns) (R' : RowOK K H' r a ns) (e : ExB r H H') : NoT K H' v := by
  obtain ⟨w, h1, h2⟩ := h
  exact ⟨w, h1.exb R R' e, h2⟩
def T1 (K : PySem.W.Frag) : List V → Hp → Prop := fun vs H => ∃ v, vs = [v] ∧ NoT K H v
def T2 : List V → Hp → Prop := fun vs H => ∃ a, vs = [.str a] ∧ BadT a
end WI
namespace WI
open PySem PySem.Spec PyProof.Rows L2 Evl WM WL
theorem cut1 (x : V) (xs : List V) : cutV (x :: xs) (some 1) none = xs := by
  have e : HT.sIx (x :: xs).length 0 (some 1) = 1 := by
    rw [show (1 : Int) = ((1 : Nat) : Int) from rfl, HT.sIx_nat, List.length_cons]
    omega
  unfold cutV
  rw [e, HT.sIx_none]
  show List.take (xs.length + 1 - 1) xs = xs
  exact List.take_of_length_le (by omega)
end WI
namespace WI
open PySem PySem.Spec PyProof.Rows L2 Evl WM WL WLam WX WT WU StX LamX
section
variable {K : PySem.W.Frag} {r a : Addr} {ns : List Int} {T : List (Addr × Str)} {G : Hp → Prop}
/-- a list of known items that no one changes -/
theorem kept_lst (k : WK.Kept K r a ns T G) (l : Addr) (xs : List V) : WK.Kept K r a ns T (fun H => G H ∧ (l ≠ r ∧ H l = some (.lst xs))) := k.and
  (fun _ _ h e => ⟨h.1, e _ _ h.2⟩) (fun _ _ h e => ⟨h.1, e _ _ h.2 fun ps z => (by cases z)⟩) (fun _ _ h _ _ e => ⟨h.1, e _ _ h.1 h.2⟩)
end
section
variable {s : L2.St} {H : Hp} {ta tb : TE} {x y : Str} {n m : Nat}
theorem le_app (hx : x.length ≤ n) (hy : y.length ≤ m) : (x ++ y).length ≤ n + m := by
  rw [len_app]; omega
theorem ev_addL (h1 : Ev ta s H (.str x)) (h2 : Ev tb s H (.str y)) (hx : x.length ≤ 1000) (hy : y.length ≤ 1000) : Ev (tOp (fun x y H Q => ∃ i j, x = V.str i ∧ y = V.str j ∧ i.length + j.length ≤ sizeLine ∧ Q (.str (i ++ j)) H) ta tb) s H (.str (x ++ y)) :=
  ev_addS h1 h2 (by omega)
end
/-! ### the law's texts -/
def restS (sg : Sg) (ov : Ov) (dv : Dv) : Str := Str.ofString " " ++ sgS sg ++ " " ++ ovS ov ++ " " ++ dvS dv
end WI

set_option maxHeartbeats 4000000
/-! Comprehensions over tuples; objects of an own class. -/
namespace WJ
open PySem PySem.Spec PyProof.Rows L2 Evl WM WL WLam WX WT WU StX
section
variable {K : PySem.W.Frag} {s : L2.St} {H : Hp} {ta te tl : TE} {t : TT}
/-- a comprehension over a tuple -/
theorem el_lcT {a : Addr} {xs : List V} {j : Nat} {vs : List Nat} (f : Nat → Bool) (v : Nat → V) (h : Ev tl s H (.ref a)) (hx : SqT K H a xs) (hz : xs.length ≤ 40000) (hw : ∀ x, wipe ((wipe s vs).set j (some x)) vs = wipe s vs)
    (ht : ∀ (i : Nat) (x : V) H1, Ex H H1 → xs[i]? = some x → EvT t ((wipe s vs).set j (some x)) H1 (f i)) (he : ∀ (i : Nat) (x : V) H1, Ex H H1 → xs[i]? = some x → f i = true → Ev te ((wipe s vs).set j (some x)) H1 (v i)) :
    EvL (tLc (iTup K tl) (gName j) t te vs) s H (given xs.length f v) := fun H0 e Q q => h H0 e _ fun H1 e1 => ⟨a, rfl, ⟨xs, ex_t (e.trans e1) hx⟩, fun Dl hD =>
  lc_tup (xs := xs) (Cw H1 f v Dl) ⟨hD, Ex.new hD, upd_same⟩ (fun i H' _ p => ex_t ((e.trans e1).trans p.2.1) hx) (fun i x H' hi p => ⟨hw x, cw_turn p (by have := (List.getElem?_eq_some_iff.mp hi).1; omega) (ht i x H1 (e.trans e1) hi) (fun hf => he i x H1 (e.trans e1) hi hf)⟩)
    (fun H' p => q Dl H' (fresh_back e1 p.1) (e1.trans p.2.1) p.2.2)⟩
/-- over a new tuple -/
theorem el_lcNT {xs : List V} {j : Nat} {vs : List Nat} (f : Nat → Bool) (v : Nat → V) (h : EvU tl s H xs) (hz : xs.length ≤ 40000) (hw : ∀ x, wipe ((wipe s vs).set j (some x)) vs = wipe s vs)
    (ht : ∀ (i : Nat) (x : V) H1, Ex H H1 → xs[i]? = some x → EvT t ((wipe s vs).set j (some x)) H1 (f i)) (he : ∀ (i : Nat) (x : V) H1, Ex H H1 → xs[i]? = some x → f i = true → Ev te ((wipe s vs).set j (some x)) H1 (v i)) :
    EvL (tLc (iTup K tl) (gName j) t te vs) s H (given xs.length f v) := fun H0 e Q q => h H0 e _ fun a H1 ha e1 hx => ⟨a, rfl, ⟨xs, st_of hx⟩, fun Dl hD =>
  lc_tup (xs := xs) (Cw H1 f v Dl) ⟨hD, Ex.new hD, upd_same⟩ (fun i H' _ p => st_of (p.2.1 a _ hx)) (fun i x H' hi p => ⟨hw x, cw_turn p (by have := (List.getElem?_eq_some_iff.mp hi).1; omega) (ht i x H1 (e.trans e1) hi) (fun hf => he i x H1 (e.trans e1) hi hf)⟩)
    (fun H' p => q Dl H' (fresh_back e1 p.1) (e1.trans p.2.1) p.2.2)⟩
end
/-- the items that a test keeps -/
theorem given_filter {xs : List V} (p : V → Bool) : ∀ {n : Nat}, n ≤ xs.length → given n (fun i => p (xs.getD i .non)) (fun i => xs.getD i .non) = (xs.take n).filter p
  | 0, _ => by simp [given]
  | n + 1, h => by
    have ih := given_filter (xs := xs) p (n := n) (by omega)
    have hn : n < xs.length := by omega
    have e : xs.getD n .non = xs[n] := by simp [List.getD, List.getElem?_eq_getElem hn]
    have et : xs.take (n + 1) = xs.take n ++ [xs[n]] := by rw [List.take_append_getElem]
    cases hp : p (xs.getD n .non) with
    | true =>
      rw [given_yes hp, ih, et, List.filter_append, e]
      rw [e] at hp
      simp [hp]
    | false =>
      rw [given_no hp, ih, et, List.filter_append]
      rw [e] at hp
      simp [hp]
theorem given_all {xs : List V} (p : V → Bool) : given xs.length (fun i => p (xs.getD i .non)) (fun i => xs.getD i .non) = xs.filter p := by
  rw [given_filter p (Nat.le_refl _), List.take_length]
end WJ

set_option maxHeartbeats 4000000
/-! A desk: what a line does to the accumulator; the object that keeps it. -/
namespace WJ
open PySem PySem.Spec PyProof.Rows L2 Evl WM WL WLam WX WT WU StX LamX
/-! ### operations by name -/
inductive Op where | add | sub | mul | div | rem
  deriving DecidableEq
def opS : Op → Str | .add => "add" | .sub => "subtract" | .mul => "multiply" | .div => "divide" | .rem => "remainder"
def opI (f : Fmt) : Op → Int → Int → Int
  | .add, a, b => a + b | .sub, a, b => a - b | .mul, a, b => a * b | .div, a, b => quo f.dv a b | .rem, a, b => a - b * quo f.dv a b
def opR (f : Fmt) (o : Op) (a b : Int) : Option Int := fitR f (opI f o a b)
def Op.dv : Op → Bool | .div => true | .rem => true | _ => false
/-! ### lines -/
def lone (t : Str) : Bool := inV (.str t) [.str "negate", .str "show", .str "rules"]
def wordB (t : Str) : Bool := inV (.str t) [.str "add", .str "subtract", .str "multiply", .str "divide", .str "remainder", .str "load"]
def fst (t : Str) : Str := (Txt.partition t " ").1
def lst (t : Str) : Str := (Txt.partition t " ").2.2
/-- a line's word and its integer or None -/
inductive Ln (t : Str) : Str → V → Prop
  | lone (hz : t.length ≤ 600) (h : lone t = true) : Ln t t .non
  | num {n : Int} (hz : t.length ≤ 600) (h : WJ.lone t = false) (hl : (lst t).length ≤ 600) (hw : wordB (fst t) = true) (hn : WI.Rw (lst t) (.int n)) : Ln t (fst t) (.int n)
inductive LnBad (t : Str) : Prop
  | word {u : V} (hz : t.length ≤ 600) (h : lone t = false) (hl : (lst t).length ≤ 600) (hn : WI.Rw (lst t) u) (hw : wordB (fst t) = false) : LnBad t
  | num (hz : t.length ≤ 600) (h : lone t = false) (hl : (lst t).length ≤ 600) (hn : WI.Rw (lst t) .non) (hw : wordB (fst t) = true) : LnBad t
def lnBadB (t : Str) : Bool := decide (t.length ≤ 600) && (!lone t && (decide ((lst t).length ≤ 600) && (WI.rwOk (lst t) && (!wordB (fst t) || (WI.rwO (lst t)).isNone))))
theorem lnBad_of {t : Str} (h : lnBadB t = true) : LnBad t := by
  unfold lnBadB at h
  simp only [Bool.and_eq_true, decide_eq_true_eq, Bool.not_eq_true', Bool.or_eq_true] at h
  obtain ⟨h0, h1, h2, h3, h4⟩ := h
  have hr := WI.rw_of h3
  cases hw : wordB (fst t) with
  | false => exact .word h0 h1 h2 hr hw
  | true =>
    rw [hw] at h4
    rcases h4 with h4 | h4
    · cases h4
    · unfold WI.rwV at hr
      cases ho : WI.rwO (lst t) with
      | none => rw [ho] at hr; exact .num h0 h1 h2 hr hw
      | some n => rw [ho] at h4; cases h4
/-- what the accumulator becomes -/
inductive Res (f : Fmt) : Option Int → Str → V → Option Int → Prop
  | load {acc : Option Int} {n : Int} (hn : fits f n) : Res f acc "load" (.int n) (some n)
  | neg {a : Int} : Res f (some a) "negate" .non (fitR f (-a))
  | op (o : Op) {a n : Int} (hn : fits f n) (h0 : o.dv = true → n ≠ 0) : Res f (some a) (opS o) (.int n) (opR f o a n)
/-- what cannot be done now -/
inductive Now (f : Fmt) : Option Int → Str → V → Prop
  | num {acc : Option Int} {w : Str} {n : Int} (hn : ¬ fits f n) : Now f acc w (.int n)
  | neg : Now f none "negate" .non
  | trap (o : Op) {n : Int} (hn : fits f n) : Now f none (opS o) (.int n)
  | zero (o : Op) {a : Int} (h0 : o.dv = true) (hn : fits f 0) : Now f (some a) (opS o) (.int 0)
def accOk (f : Fmt) (acc : Option Int) : Prop := ∀ a, acc = some a → fits f a
theorem res_ok {f : Fmt} {acc v : Option Int} {w : Str} {u : V} (h : Res f acc w u v) : accOk f v := fun a e => by
  cases h with
  | load hn => cases e; exact hn
  | neg => exact fitR_fits e
  | op o hn h0 => exact fitR_fits e
/-- the text of the accumulator -/
def accS : Option Int → Str | some i => Str.ofString (toString i) | none => "trap"
/-! ### the object -/
def dfs (p : Addr) (acc : Option Int) (l : Addr) : List (Str × V) := [("_form", .ref p), ("_accumulator", rv acc), ("_earlier", .ref l)]
theorem dfs_form {p l : Addr} {acc : Option Int} : (dfs p acc l).lookup ("_form" : Str) = some (.ref p) := rfl
theorem dfs_acc {p l : Addr} {acc : Option Int} : (dfs p acc l).lookup ("_accumulator" : Str) = some (rv acc) := rfl
theorem dfs_ear {p l : Addr} {acc : Option Int} : (dfs p acc l).lookup ("_earlier" : Str) = some (.ref l) := rfl
theorem dfs_run {p l : Addr} {acc : Option Int} : (dfs p acc l).lookup ("run" : Str) = none := rfl
theorem dfs_undo {p l : Addr} {acc : Option Int} : (dfs p acc l).lookup ("undo" : Str) = none := rfl
theorem dfs_put {p l : Addr} {acc v : Option Int} : putF "_accumulator" (rv v) (dfs p acc l) = dfs p v l := rfl
structure DeskAt (K : PySem.W.Frag) (C : Addr) (f : Fmt) (x p l : Addr) (acc : Option Int) (past : List (Option Int)) (H : Hp) : Prop where
  frm : SqT K H p (fV f)
  ins : ∃ dx, H x = some (.ins C dx (dfs p acc l))
  ear : H l = some (.lst (past.map rv))
  ok : accOk f acc
  pok : ∀ z ∈ past, accOk f z
  len : past.length ≤ 100
theorem DeskAt.ex {K : PySem.W.Frag} {C x p l : Addr} {f : Fmt} {acc : Option Int} {past : List (Option Int)} {H H' : Hp} (h : DeskAt K C f x p l acc past H) (e : Ex H H') : DeskAt K C f x p l acc past H' :=
  ⟨ex_t e h.frm, let ⟨dx, hx⟩ := h.ins; ⟨dx, e _ _ hx⟩, e _ _ h.ear, h.ok, h.pok, h.len⟩
/-- all but the desk and its list stay -/
def ExD (x l : Addr) (H H' : Hp) : Prop := ∀ b o, b ≠ x → b ≠ l → H b = some o → H' b = some o
section
variable {K : PySem.W.Frag} {C x p l : Addr} {f : Fmt} {acc v : Option Int} {past : List (Option Int)} {H H1 H2 : Hp}
theorem ExD.of (e : Ex H H1) : ExD x l H H1 := fun b o _ _ h => e b o h
theorem ExD.trans (a : ExD x l H H1) (b : ExD x l H1 H2) : ExD x l H H2 := fun c o n1 n2 h => b c o n1 n2 (a c o n1 n2 h)
theorem ExD.updl (e : Ex H H1) {o : HO} : ExD x l H (upd H1 l o) := fun b q _ n2 h => by rw [upd_ne n2]; exact e b q h
theorem ExD.updx (e : Ex H H1) {o : HO} : ExD x l H (upd H1 x o) := fun b q n1 _ h => by rw [upd_ne n1]; exact e b q h
theorem exd_t {xs : List V} {q dx : Addr} (hx : H x = some (.ins C dx (dfs p acc l))) (hl : H l = some (.lst (past.map rv))) (e : ExD x l H H1) (h : SqT K H q xs) : SqT K H1 q xs := by
  rcases h with (h | ⟨o, h⟩) | h
  · exact .inl (.inl (e q _ (ne_of h hx (by intro z; cases z)) (ne_of h hl (by intro z; cases z)) h))
  · exact .inl (.inr ⟨o, e q _ (ne_of h hx (by intro z; cases z)) (ne_of h hl (by intro z; cases z)) h⟩)
  · exact .inr h
theorem DeskAt.ne (h : DeskAt K C f x p l acc past H) : x ≠ l := by
  obtain ⟨dx, hx⟩ := h.ins
  exact fun e => by
    rw [e, h.ear] at hx
    cases hx
end
end WJ
namespace WJ
open PySem PySem.Spec PyProof.Rows L2 Evl WM WL WLam WX WT WU StX LamX
/-! ### lists kept by a test -/
theorem given_map {α : Type} (as : List α) (p : α → Bool) (g : α → V) : ∀ {n : Nat}, n ≤ as.length → given n (fun i => (as[i]?.map p).getD false) (fun i => (as[i]?.map g).getD .non) = ((as.take n).filter p).map g
  | 0, _ => by simp [given]
  | n + 1, h => by
    have ih := given_map as p g (n := n) (by omega)
    have hn : n < as.length := by omega
    have e : as[n]? = some as[n] := List.getElem?_eq_getElem hn
    have et : as.take (n + 1) = as.take n ++ [as[n]] := by rw [List.take_append_getElem]
    cases hp : p as[n] with
    | true =>
      rw [given_yes (by rw [e]; exact hp), ih, et, List.filter_append, List.map_append, e]
      simp [hp]
    | false =>
      rw [given_no (by rw [e]; exact hp), ih, et, List.filter_append, List.map_append]
      simp [hp]
theorem given_filt {α : Type} (as : List α) (p : α → Bool) (g : α → V) : given as.length (fun i => (as[i]?.map p).getD false) (fun i => (as[i]?.map g).getD .non) = (as.filter p).map g := by
  rw [given_map as p g (Nat.le_refl _), List.take_length]
theorem at_map {α : Type} {as : List α} {g : α → V} {i : Nat} {x : V} (h : (as.map g)[i]? = some x) : ∃ a, as[i]? = some a ∧ x = g a := by
  rw [List.getElem?_map] at h
  cases q : as[i]? with
  | none => rw [q] at h; cases h
  | some a => rw [q] at h; cases h; exact ⟨a, rfl, rfl⟩
/-- the rules that hold for a format -/
def profV (f : Fmt) : List V := (allRl.filter fun r => holdsB f r).map fun r => V.str (rlS r)
section
variable {K : PySem.W.Frag} {s : L2.St} {H : Hp} {ta tb te : TE} {t : TA} {v : V} {D : Ends} {tz : TS} {xs ys : List V}
theorem bl_unp3U {i j k n : Nat} {a b c : V} (h : EvU te s H [a, b, c]) (hn : 3 = n) (kk : ∀ H1, Ex H H1 → Bl tz D (((s.set i (some a)).set j (some b)).set k (some c)) H1) :
    Bl (tSeq (tAsg te (gTup K n (gCons (gName i) (gCons (gName j) (gCons (gName k) gNil))))) tz) D s H := fun H1 e =>
  h H1 e _ fun p H2 hp e2 hx => ⟨p, [a, b, c], rfl, st_of hx, hn, _, _, rfl, _, _, rfl, _, _, rfl, rfl, kk H2 (e.trans e2) H2 (Ex.refl H2)⟩
theorem ev_lenU (h : EvU te s H xs) : Ev (tCB (fun zs H Q => ∃ p ys, zs = [V.ref p] ∧ (SqL K H p ys ∨ SqT K H p ys) ∧ Q (.int ys.length) H) (tCons te tNil)) s H (.int (xs.length : Int)) := fun H1 e Q q =>
  h H1 e _ fun p H2 _ e2 hx => ⟨p, xs, rfl, .inr (st_of hx), q H2 e2⟩
theorem ev_lenL (h : EvL te s H xs) : Ev (tCB (fun zs H Q => ∃ p ys, zs = [V.ref p] ∧ (SqL K H p ys ∨ SqT K H p ys) ∧ Q (.int ys.length) H) (tCons te tNil)) s H (.int (xs.length : Int)) := fun H1 e Q q =>
  h H1 e _ fun p H2 _ e2 hx => ⟨p, xs, rfl, .inl (sq_of hx), q H2 e2⟩
/-- o.f -/
theorem ev_fld {x C dx : Addr} {fs : List (Str × V)} {g : Str} (h : Ev te s H (.ref x)) (hx : H x = some (.ins C dx fs)) (c : Cls K C) (n : NoAttr K C g) (l : fs.lookup g = some v) : Ev (tFld K te g) s H v := fun H1 e Q q =>
  h H1 e _ fun H2 e2 => ⟨x, C, dx, fs, v, rfl, e2 _ _ (e _ _ hx), c, n, l, q H2 e2⟩
end
/-- a method as it stands -/
theorem m_cal {P : Program} {w : World} {K : PySem.W.Frag} {mg : Str → Option Value} {base : Heap} {CX : CXT} {k : Nat} {sp : Sp} {ps N : List Str} {x q : Str} {st : Stmt} {f : Addr} {fd : FuncData} (F : FunD K x q (defArgs st) (defBody st) (defScope st) [] [] f fd) (S : FnScope N ps (defScope st)) (len : ∀ vs H Q E, sp vs H Q E → vs.length = ps.length)
    (hb : ∀ (kV doc pm : Value) (an : Option Addr) (cdv ct : Value) (us : List Value), us.length = ps.length → bindArgs (PySem.W.fnOf x q (defArgs st) (defBody st) (defScope st) .none kV doc pm an cdv ct) ⟨us, []⟩ = pure (ps.zip us))
    (hbody : ∀ (cdv : Value) (A : Around) (outer : List Env) (s : Shared) (H : Hp) (vs : List V) (Q : VK) (E : XK), Room k (A.deeper (envOfC q (defScope st) s.heap.objs.size f cdv)) → sp vs H Q E →
      ∃ t, PSs (cxOf CX P w K mg base N q (defScope st) f cdv A outer s H E) (defBody st) t ∧ t { nx := fun _ H' => Q .non H', rt := Q } (start N vs) H) : FnOk P w K mg base CX (k + 1) f fd ps sp ∧ Binds K fd ps [] :=
  ⟨F.ok S len hbody, F.bindsN hb⟩
/-- a method's promise: where it stands, how it binds -/
def MCal (P : Program) (w : World) (K : PySem.W.Frag) (mg : Str → Option Value) (base : Heap) (CX : CXT) (k : Nat) (f : Addr) (ps : List Str) (sp : Sp) : Prop := ∃ fd, FnOk P w K mg base CX k f fd ps sp ∧ Binds K fd ps []
/-! ### promises of the desk's methods -/
def SpInit (K : PySem.W.Frag) (C : Addr) : Sp := fun vs H Q _ => ∃ (x p dx : Addr) (f : Fmt), vs = [.ref x, .ref p] ∧ H x = some (.ins C dx []) ∧ SqT K H p (fV f) ∧
  ∀ l H', H l = none → (∀ b o, b ≠ x → H b = some o → H' b = some o) → DeskAt K C f x p l (some 0) [] H' → Q .non H'
def R_value (K : PySem.W.Frag) (C : Addr) : List V → Hp → V → Prop := fun vs H v => ∃ (f : Fmt) (x p l : Addr) (acc : Option Int) (past : List (Option Int)), vs = [.ref x] ∧ DeskAt K C f x p l acc past H ∧ v = rv acc
def R_show (K : PySem.W.Frag) (C : Addr) : List V → Hp → V → Prop := fun vs H v => ∃ (f : Fmt) (x p l : Addr) (acc : Option Int) (past : List (Option Int)), vs = [.ref x, .str "show"] ∧ DeskAt K C f x p l acc past H ∧ v = .str (accS acc)
def R_count (K : PySem.W.Frag) (C : Addr) : List V → Hp → V → Prop := fun vs H v => ∃ (f : Fmt) (x p l : Addr) (acc : Option Int) (past : List (Option Int)), vs = [.ref x, .str "rules"] ∧ DeskAt K C f x p l acc past H ∧ v = .str (toString ((profV f).length : Int))
def SpDo (K : PySem.W.Frag) (C : Addr) : Sp := fun vs H Q _ => ∃ (f : Fmt) (x p l : Addr) (acc : Option Int) (past : List (Option Int)) (t w : Str) (u : V) (v : Option Int), vs = [.ref x, .str t] ∧ DeskAt K C f x p l acc past H ∧ past.length < 100 ∧ Ln t w u ∧ Res f acc w u v ∧
  ∀ H', ExD x l H H' → DeskAt K C f x p l v (past ++ [acc]) H' → Q .non H'
def XNow (K : PySem.W.Frag) (C : Addr) : List V → Hp → Prop := fun vs H => ∃ (f : Fmt) (x p l : Addr) (acc : Option Int) (past : List (Option Int)) (t w : Str) (u : V), vs = [.ref x, .str t] ∧ DeskAt K C f x p l acc past H ∧ Ln t w u ∧ Now f acc w u
def XLine : List V → Hp → Prop := fun vs _ => ∃ (x : Addr) (t : Str), vs = [.ref x, .str t] ∧ LnBad t
def XText (K : PySem.W.Frag) : List V → Hp → Prop := fun vs H => ∃ (x : Addr) (v : V), vs = [.ref x, v] ∧ WI.NoT K H v
def SpUndo (K : PySem.W.Frag) (C : Addr) : Sp := fun vs H Q _ => ∃ (f : Fmt) (x p l : Addr) (acc z : Option Int) (past : List (Option Int)), vs = [.ref x] ∧ DeskAt K C f x p l acc (past ++ [z]) H ∧
  ∀ H', ExD x l H H' → DeskAt K C f x p l z past H' → Q .non H'
def XUndo (K : PySem.W.Frag) (C : Addr) : List V → Hp → Prop := fun vs H => ∃ (f : Fmt) (x p l : Addr) (acc : Option Int), vs = [.ref x] ∧ DeskAt K C f x p l acc [] H
def XInit (K : PySem.W.Frag) : List V → Hp → Prop := fun vs H => ∃ (x : Addr) (v : V), vs = [.ref x, v] ∧ WV.NoF K H v
/-- of _result_of -/
def XRes (K : PySem.W.Frag) : List V → Hp → Prop := fun vs H => ∃ (p : Addr) (f : Fmt) (acc : Option Int) (w : Str) (u : V), vs = [.ref p, rv acc, .str w, u] ∧ SqT K H p (fV f) ∧ accOk f acc ∧ Now f acc w u
def XLn : List V → Hp → Prop := fun vs _ => ∃ t, vs = [.str t] ∧ LnBad t
end WJ
namespace WJ
open PySem PySem.Spec PyProof.Rows L2 Evl WM WL WLam WX WT WU StX LamX
/-- str(an int or a text) -/
theorem call_str_rv {X : Cx} : CallR X (.type "str") (fun xs H Q => (∃ i, xs = [.int i] ∧ i.natAbs.log2 < 1920 ∧ Q (.str (toString i)) H) ∨ ∃ a, xs = [.str a] ∧ Q (.str a) H) := by
  intro pins s σ H xs us Q I r h
  rcases h with h | h
  · exact call_str_int pins s σ H xs us Q I r h
  · exact SkE.call_str_str pins s σ H xs us Q I r h
section
variable {K : PySem.W.Frag} {s : L2.St} {H : Hp} {ta tb te : TE} {t : TA} {v : V} {D : Ends} {tz : TS} {acc : Option Int} {f : Fmt}
theorem fits_abs {a : Int} (h : fits f a) : a.natAbs < 10 ^ 30 := by
  have := nat64 h
  have : 2 ^ 66 < 10 ^ 30 := by decide
  omega
theorem ev_strA (h : Ev te s H (rv acc)) (ok : accOk f acc) : Ev (tCB (fun xs H Q => (∃ i, xs = [V.int i] ∧ i.natAbs.log2 < 1920 ∧ Q (.str (toString i)) H) ∨ ∃ a, xs = [V.str a] ∧ Q (.str a) H) (tCons te tNil)) s H (.str (accS acc)) := fun H1 e Q q =>
  h H1 e _ fun H2 e2 => by
    cases acc with
    | none => exact .inr ⟨"trap", rfl, q H2 e2⟩
    | some i => exact .inl ⟨i, rfl, WI.log_40 (Nat.lt_trans (fits_abs (ok i rfl)) (by decide)), q H2 e2⟩
theorem ev_strN {n : Int} (h : Ev te s H (.int n)) (hz : n.natAbs < 10 ^ 40) : Ev (tCB (fun xs H Q => (∃ i, xs = [V.int i] ∧ i.natAbs.log2 < 1920 ∧ Q (.str (toString i)) H) ∨ ∃ a, xs = [V.str a] ∧ Q (.str a) H) (tCons te tNil)) s H (.str (toString n)) := fun H1 e Q q =>
  h H1 e _ fun H2 e2 => .inl ⟨n, rfl, WI.log_40 hz, q H2 e2⟩
theorem bl_app {l : Addr} {xs : List V} (hl : H l = some (.lst xs)) (ha : Ev ta s H (.ref l)) (h : Ev te s H v) (hz : xs.length < 100000) (k : ∀ H1, Ex H H1 → tz D s (upd H1 l (.lst (xs ++ [v])))) : Bl (tSeq (tDrop (tBM K "list" rAppend ta (tCons te tNil))) tz) D s H :=
  fun H1 e => s_app (D := { D with nx := fun s' H' => tz D s' H' }) (e _ _ hl) (ha.mono e) (h.mono e) hz fun H2 e2 => k H2 (e.trans e2)
/-- not xs, of a list -/
theorem et_emptyL {l : Addr} {xs : List V} (h : Ev te s H (.ref l)) (hl : SqL K H l xs) : EvT (tNot (fun σ H Q => te σ H fun x H' => ∃ k, TruV K x H' k ∧ Q k H')) s H xs.isEmpty := fun H1 e Q q =>
  h H1 e _ fun H2 e2 => ⟨!xs.isEmpty, .inl ⟨xs, ex_l (e.trans e2) hl, rfl⟩, by
    show Q (!!xs.isEmpty) H2
    rw [Bool.not_not]
    exact q H2 e2⟩
end
theorem fits_b {f : Fmt} {n : Int} (h : fits f n) : (decide (lo f ≤ n) && decide (n ≤ hi f)) = true := (WL.fits_iff rfl).mp h
theorem nfits_b {f : Fmt} {n : Int} (h : ¬ fits f n) : (decide (lo f ≤ n) && decide (n ≤ hi f)) = false := by
  cases hb : (decide (lo f ≤ n) && decide (n ≤ hi f)) with
  | false => rfl
  | true => exact absurd ((WL.fits_iff hb).mpr rfl) h
theorem res_show {f : Fmt} {acc v : Option Int} {w : Str} {u : V} (h : Res f acc w u v) : decide (V.str w = V.str "show") = false ∧ decide (V.str w = V.str "rules") = false := by
  cases h with
  | load hn => exact ⟨by decide +kernel, by decide +kernel⟩
  | neg => exact ⟨by decide +kernel, by decide +kernel⟩
  | op o hn h0 => cases o <;> exact ⟨by decide +kernel, by decide +kernel⟩
theorem ln_show {t w : Str} {u : V} (h : Ln t w u) (hu : u ≠ .non) : decide (V.str w = V.str "show") = false ∧ decide (V.str w = V.str "rules") = false := by
  cases h with
  | lone _ _ => exact absurd rfl hu
  | num hz h hl hw hn =>
    generalize fst t = z at hw
    constructor
    · refine decide_eq_false fun e => ?_
      injection e with e
      subst e
      revert hw
      decide +kernel
    · refine decide_eq_false fun e => ?_
      injection e with e
      subst e
      revert hw
      decide +kernel
theorem now_show {f : Fmt} {acc : Option Int} {t w : Str} {u : V} (hl : Ln t w u) (h : Now f acc w u) : decide (V.str w = V.str "show") = false ∧ decide (V.str w = V.str "rules") = false := by
  cases h with
  | num hn => exact ln_show hl (fun e => by cases e)
  | neg => exact ⟨by decide +kernel, by decide +kernel⟩
  | trap o hn => cases o <;> exact ⟨by decide +kernel, by decide +kernel⟩
  | zero o h0 hn => cases o <;> exact ⟨by decide +kernel, by decide +kernel⟩
theorem ln_s : Ln "show" "show" .non := .lone (by decide +kernel) (by decide +kernel)
theorem ln_r : Ln "rules" "rules" .non := .lone (by decide +kernel) (by decide +kernel)
end WJ
namespace WJ
open PySem PySem.Spec PyProof.Rows L2 Evl WM WL WLam WX WT WU StX LamX
/-! ### the law's deeds -/
def wdS : Option Op → Str | some o => opS o | none => "load"
def doneO (f : Fmt) : Option Int → Option Op → Int → Option (Option Int)
  | _, none, b => some (some b)
  | none, some _, _ => none
  | some a, some o, b => if (o.dv && decide (b = 0)) = true then none else some (opR f o a b)
def dueV : Option (Option Int) → V | some z => rv z | none => .non
theorem rv_ne (z : Option Int) : rv z ≠ .non := by cases z <;> intro h <;> cases h
theorem due_some {z : Option Int} : decide (dueV (some z) = .non) = false := decide_eq_false (rv_ne z)
/-- what a line asks now: its word, number, and what comes of it -/
structure Turn (f : Fmt) (acc : Option Int) (t : Str) (z : Option (Option Int)) : Prop where
  ex : ∃ (w : Str) (u : V), Ln t w u ∧ (∀ y, z = some y → Res f acc w u y) ∧ (z = none → Now f acc w u)
theorem turn_neg {f : Fmt} {acc : Option Int} : Turn f acc "negate" (acc.map fun a => fitR f (-a)) := ⟨_, _, .lone (by decide +kernel) (by decide +kernel), fun y h => by
  cases acc with
  | none => cases h
  | some a => cases h; exact .neg, fun h => by
  cases acc with
  | none => exact .neg
  | some a => cases h⟩
def lineS (d : Option Op) (b : Int) : Str := wdS d ++ " " ++ Str.ofString (toString b)
theorem wd_free (d : Option Op) : 32 ∉ TL.tl (wdS d) := by
  cases d with
  | none => decide +kernel
  | some o => cases o <;> decide +kernel
theorem wd_word (d : Option Op) : wordB (wdS d) = true := by
  cases d with
  | none => decide +kernel
  | some o => cases o <;> decide +kernel
theorem part_line (w : Str) (n : Str) (h : 32 ∉ TL.tl w) : Txt.partition (w ++ " " ++ n) " " = (w, (" " : Str), n) := TL.partition_app (y := " ") (s := 32) (S := []) (by decide +kernel) h
theorem not_lone (w n : Str) : lone (w ++ " " ++ n) = false := by
  have h : 32 ∈ TL.tl (w ++ " " ++ n) := by
    rw [TL.tl_append, TL.tl_append]
    exact List.mem_append.mpr (.inl (List.mem_append.mpr (.inr (by decide +kernel))))
  generalize w ++ " " ++ n = t at h
  unfold lone inV
  have e : ∀ y : Str, 32 ∉ TL.tl y → eqV (.str y) (.str t) = false := fun y hy => by
    show (y == t) = false
    refine beq_eq_false_iff_ne.mpr fun z => ?_
    rw [z] at hy
    exact hy h
  show (eqV (.str "negate") (.str t) || (eqV (.str "show") (.str t) || (eqV (.str "rules") (.str t) || false))) = false
  rw [e _ (by decide +kernel), e _ (by decide +kernel), e _ (by decide +kernel)]
  rfl
theorem wd_len (d : Option Op) : (wdS d).length ≤ 9 := by
  cases d with
  | none => decide +kernel
  | some o => cases o <;> decide +kernel
theorem ln_num {w : Str} {b : Int} (hw : wordB w = true) (hf : 32 ∉ TL.tl w) (hl : w.length ≤ 500) (hb : b.natAbs < 10 ^ 30) : Ln (w ++ " " ++ Str.ofString (toString b)) w (.int b) := by
  have hp := part_line w (Str.ofString (toString b)) hf
  have e1 : fst (w ++ " " ++ Str.ofString (toString b)) = w := by unfold fst; rw [hp]
  have e2 : lst (w ++ " " ++ Str.ofString (toString b)) = Str.ofString (toString b) := by unfold lst; rw [hp]
  have l1 := WI.len_num hb
  have l0 := WI.len_sp
  have z : Ln (w ++ " " ++ Str.ofString (toString b)) (fst (w ++ " " ++ Str.ofString (toString b))) (.int b) := .num (by simp only [WI.len_app]; omega) (not_lone _ _) (by rw [e2]; omega) (by rw [e1]; exact hw) (by rw [e2]; exact WI.rw_num hb)
  rw [e1] at z
  exact z
theorem done_op {f : Fmt} {a b : Int} {o : Op} : doneO f (some a) (some o) b = if (o.dv && decide (b = 0)) = true then none else some (opR f o a b) := rfl
theorem turn_word {f : Fmt} {acc : Option Int} (d : Option Op) {b : Int} (hb : fits f b) : Turn f acc (lineS d b) (doneO f acc d b) := by
  have hl := wd_len d
  refine ⟨wdS d, .int b, ln_num (wd_word d) (wd_free d) (by omega) (fits_abs hb), fun y h => ?_, fun h => ?_⟩
  · cases d with
    | none => cases acc <;> (cases h; exact .load hb)
    | some o =>
      cases acc with
      | none => cases h
      | some a =>
        rw [done_op] at h
        by_cases hc : (o.dv && decide (b = 0)) = true
        · rw [if_pos hc] at h; cases h
        · rw [if_neg hc] at h
          cases h
          refine .op o hb fun hd z => hc ?_
          rw [hd, decide_eq_true z]
          rfl
  · cases d with
    | none => cases acc <;> cases h
    | some o =>
      cases acc with
      | none => exact .trap o hb
      | some a =>
        rw [done_op] at h
        by_cases hc : (o.dv && decide (b = 0)) = true
        · rw [Bool.and_eq_true, decide_eq_true_eq] at hc
          obtain ⟨h1, h2⟩ := hc
          subst h2
          exact .zero o h1 hb
        · rw [if_neg hc] at h; cases h
theorem turn_far {f : Fmt} {acc : Option Int} (d : Option Op) {b : Int} (hb : ¬ fits f b) (hz : b.natAbs < 10 ^ 30) : Turn f acc (lineS d b) none := by
  have hl := wd_len d
  exact ⟨⟨wdS d, .int b, ln_num (wd_word d) (wd_free d) (by omega) hz, (fun y h => by cases h), fun _ => .num hb⟩⟩
theorem line_len (d : Option Op) {b : Int} (hb : b.natAbs < 10 ^ 30) : (lineS d b).length ≤ 50 := by
  have := wd_len d
  have := WI.len_num hb
  have := WI.len_sp
  unfold lineS
  simp only [WI.len_app]
  omega
theorem mem_deed {v : V} (h : v ∈ [V.str "add", V.str "subtract", V.str "multiply", V.str "divide", V.str "remainder", V.str "load", V.str "load", V.str "negate"]) : v = .str "negate" ∨ ∃ d, v = .str (wdS d) := by
  simp only [List.mem_cons, List.not_mem_nil, or_false] at h
  rcases h with rfl | rfl | rfl | rfl | rfl | rfl | rfl | rfl
  · exact .inr ⟨some .add, rfl⟩
  · exact .inr ⟨some .sub, rfl⟩
  · exact .inr ⟨some .mul, rfl⟩
  · exact .inr ⟨some .div, rfl⟩
  · exact .inr ⟨some .rem, rfl⟩
  · exact .inr ⟨none, rfl⟩
  · exact .inr ⟨none, rfl⟩
  · exact .inl rfl
theorem wd_neg (d : Option Op) : decide (V.str (wdS d) = V.str "negate") = false := by
  cases d with
  | none => decide +kernel
  | some o => cases o <;> decide +kernel
/-! ### what stands behind the law's rows -/
structure DG (K : PySem.W.Frag) (C : Addr) (f : Fmt) (r a : Addr) (ns : List Int) (T : List (Addr × Str)) (x p l q : Addr) (acc : Option Int) (past pq : List (Option Int)) (H : Hp) : Prop where
  row : RowOK K H r a ns
  tab : Tabs T H
  dk : DeskAt K C f x p l acc past H
  own : H q = some (.lst (pq.map rv))
  xr : x ≠ r
  lr : l ≠ r
  qr : q ≠ r
  lq : l ≠ q
  sa : (a ≠ l ∧ a ≠ q) ∨ ∀ H, SqL K H a (ns.map V.int)
section
variable {K : PySem.W.Frag} {C : Addr} {f : Fmt} {r a : Addr} {ns : List Int} {T : List (Addr × Str)} {x p l q : Addr} {acc acc' : Option Int} {past past' pq pq' : List (Option Int)} {H H1 H' : Hp}
theorem kept_dg : WK.Kept K r a ns T (DG K C f r a ns T x p l q acc past pq) where
  row h := h.row
  tab h := h.tab
  ex h e := ⟨h.row.ex e, h.tab.ext e, h.dk.ex e, e _ _ h.own, h.xr, h.lr, h.qr, h.lq, h.sa⟩
  xn h e t := ⟨row_extN h.row e, t, ⟨extN_t e h.dk.frm, let ⟨dx, hx⟩ := h.dk.ins; ⟨dx, e _ _ hx fun ps z => by cases z⟩, e _ _ h.dk.ear fun ps z => (by cases z), h.dk.ok, h.dk.pok, h.dk.len⟩, e _ _ h.own fun ps z => (by cases z), h.xr, h.lr, h.qr, h.lq, h.sa⟩
  eb h R e := ⟨R, tabs_exb h.row h.tab e, ⟨exb_t h.row e h.dk.frm, let ⟨dx, hx⟩ := h.dk.ins; ⟨dx, e _ _ h.xr hx⟩, e _ _ h.lr h.dk.ear, h.dk.ok, h.dk.pok, h.dk.len⟩, e _ _ h.qr h.own, h.xr, h.lr, h.qr, h.lq, h.sa⟩
theorem tabs_exd {dx : Addr} (hx : H x = some (.ins C dx (dfs p acc l))) (hl : H l = some (.lst (past.map rv))) (t : Tabs T H) (e : ExD x l H H') : Tabs T H' := fun z hz => by
  obtain ⟨ps, h1, h2, h3⟩ := t z hz
  refine ⟨ps, e _ _ (ne_of h1 hx (by intro z; cases z)) (ne_of h1 hl (by intro z; cases z)) h1, h2, fun pos cv hc => ?_⟩
  obtain ⟨c, e1, e2⟩ := h3 pos cv hc
  exact ⟨c, e1, e _ _ (ne_of e2 hx (by unfold CodeO; intro z; cases z)) (ne_of e2 hl (by unfold CodeO; intro z; cases z)) e2⟩
theorem DG.exd (h : DG K C f r a ns T x p l q acc past pq H) (e : ExD x l H H') (d : DeskAt K C f x p l acc' past' H') : DG K C f r a ns T x p l q acc' past' pq H' := by
  obtain ⟨dx, hx⟩ := h.dk.ins
  obtain ⟨c, s, t, h1, h2, h3, hr⟩ := h.row.row
  have qx : q ≠ x := ne_of h.own hx (by intro z; cases z)
  refine ⟨⟨⟨c, s, t, h1, h2, h3, e _ _ h.xr.symm h.lr.symm hr⟩, ?_, h.row.len⟩, tabs_exd hx h.dk.ear h.tab e, d, e _ _ qx h.lq.symm h.own, h.xr, h.lr, h.qr, h.lq, h.sa⟩
  rcases h.sa with ⟨al, _⟩ | w
  · rcases h.row.scr with (h | ⟨o, h⟩) | h
    · exact .inl (.inl (e a _ (ne_of h hx (by intro z; cases z)) al h))
    · exact .inl (.inr ⟨o, e a _ (ne_of h hx (by intro z; cases z)) al h⟩)
    · exact .inr h
  · exact w _
theorem DG.setq (h : DG K C f r a ns T x p l q acc past pq H) (e : Ex H H1) : DG K C f r a ns T x p l q acc past pq' (upd H1 q (.lst (pq'.map rv))) := by
  have g := (kept_dg (K := K) (C := C) (f := f) (r := r) (a := a) (ns := ns) (T := T) (x := x) (p := p) (l := l) (q := q) (acc := acc) (past := past) (pq := pq)).ex h e
  obtain ⟨dx, hx⟩ := g.dk.ins
  obtain ⟨c, s, t, h1, h2, h3, hr⟩ := g.row.row
  have qx : x ≠ q := (ne_of g.own hx (by intro z; cases z)).symm
  refine ⟨⟨⟨c, s, t, h1, h2, h3, by rw [upd_ne h.qr.symm]; exact hr⟩, ?_, h.row.len⟩, fun z hz => ?_, ⟨?_, ⟨dx, by rw [upd_ne qx]; exact hx⟩, by rw [upd_ne h.lq]; exact g.dk.ear, g.dk.ok, g.dk.pok, g.dk.len⟩, upd_same, h.xr, h.lr, h.qr, h.lq, h.sa⟩
  · rcases h.sa with ⟨_, aq⟩ | w
    · rcases g.row.scr with (h | ⟨o, h⟩) | h
      · exact .inl (.inl (by rw [upd_ne aq]; exact h))
      · exact .inl (.inr ⟨o, by rw [upd_ne aq]; exact h⟩)
      · exact .inr h
    · exact w _
  · obtain ⟨ps, h1, h2, h3⟩ := g.tab z hz
    refine ⟨ps, by rw [upd_ne (ne_of h1 g.own (by intro z; cases z))]; exact h1, h2, fun pos cv hc => ?_⟩
    obtain ⟨c, e1, e2⟩ := h3 pos cv hc
    exact ⟨c, e1, by rw [upd_ne (ne_of e2 g.own (by unfold CodeO; intro z; cases z))]; exact e2⟩
  · rcases g.dk.frm with (h | ⟨o, h⟩) | h
    · exact .inl (.inl (by rw [upd_ne (ne_of h g.own (by intro z; cases z))]; exact h))
    · exact .inl (.inr ⟨o, by rw [upd_ne (ne_of h g.own (by intro z; cases z))]; exact h⟩)
    · exact .inr h
end
section
variable {K : PySem.W.Frag} {s : L2.St} {H : Hp} {ta te g : TE} {t : TA} {v : V} {D : Ends} {tz tb : TS} {w : Str} {F : Hp → Prop}
theorem s_word (hg : WY.Says g s H w F) (k : ∀ H2, F H2 → D.nx s H2) : tIfS (tTest (tOp rNe g (tC (.str w)))) tb tNext D s H :=
  hg _ fun H2 f2 => ⟨rfl, (!decide (V.str w = V.str w)), rfl, by
    rw [decide_eq_true rfl]
    exact k H2 f2⟩
theorem ev_meth {C x dx : Addr} {fs : List (Str × V)} {m : Str} {R : List V → Hp → V → Prop} {vs : List V} {E : XK} (h : Ev te s H (.ref x)) (hx : H x = some (.ins C dx fs)) (hl : fs.lookup m = none) (ha : EvA t s H vs) (k : ∀ H1, Ex H H1 → R (.ref x :: vs) H1 v) : Ev (tMeth C m (Pu R) [] E te t) s H v := fun H1 e Q q =>
  h H1 e _ fun H2 e2 => ⟨x, dx, fs, rfl, (e.trans e2) _ _ hx, hl, ha H2 (e.trans e2) _ fun H3 e3 => by
    show Pu R (V.ref x :: (vs ++ [])) H3 Q E
    rw [List.append_nil]
    exact ⟨v, k H3 ((e.trans e2).trans e3), fun H4 e4 => q H4 ((e2.trans e3).trans e4)⟩⟩
theorem ev_prop {C x dx : Addr} {fs : List (Str × V)} {R : List V → Hp → V → Prop} {E : XK} (h : Ev te s H (.ref x)) (hx : H x = some (.ins C dx fs)) (k : ∀ H1, Ex H H1 → R [.ref x] H1 v) : Ev (tProp C (Pu R) [] E te) s H v := fun H1 e Q q =>
  h H1 e _ fun H2 e2 => ⟨x, dx, fs, rfl, (e.trans e2) _ _ hx, v, k H2 (e.trans e2), fun H3 e3 => q H3 (e2.trans e3)⟩
end
/-! ### a list of results against the empty one -/
def dpV : Option Int → PyData | some i => .int i | none => .str "trap"
theorem dp_acc {K : PySem.W.Frag} {H : Hp} : ∀ zs : List (Option Int), DpAll K H (zs.map rv) (zs.map dpV)
  | [] => .nil
  | some n :: r => .cons (.int n) (dp_acc r)
  | none :: r => .cons (.str "trap") (dp_acc r)
end WJ

set_option maxHeartbeats 2000000
/-! Generator expressions whose element calls defs of the text: the generators only grow in number, so the one that runs is found again. -/
namespace WGn
open PySem PySem.Spec PyProof.Rows L2 GenW

section
variable {M : Model}
theorem runs_size {Γ : PySem.Ctx} {p : Pos} {t : Sem PySem.Fin} {fs : List Frame} {s : Shared} {e : End} {s' : Shared} (h : Runs M Γ p t fs s e s') : s.gens.size ≤ s'.gens.size := by
  induction h with
  | done => exact Nat.le_refl _
  | raise => exact Nat.le_refl _
  | yield => exact Nat.le_refl _
  | newGen _ ih => rw [Array.size_push] at ih; omega
  | call _ _ i1 i2 => exact Nat.le_trans i1 i2
  | callSusp _ ih => exact ih
  | resumeFresh _ _ _ _ i1 i2 => rw [setGen_size] at i1 i2; exact Nat.le_trans i1 i2
  | resumeSuspended _ _ _ _ i1 i2 => rw [setGen_size] at i1 i2; exact Nat.le_trans i1 i2
  | resumeThrowFresh _ _ ih => rw [setGen_size] at ih; exact ih
  | segRet _ _ i1 i2 => exact Nat.le_trans i1 i2
  | segGen _ _ i1 i2 => rw [setGen_size] at i2; exact Nat.le_trans i1 i2
  | segSuspGen _ _ _ _ i1 i2 => rw [setGen_size] at i2; exact Nat.le_trans i1 i2
  | _ => assumption

theorem wakes_size {Γ : PySem.Ctx} {p : Pos} {g : Nat} {r : Resume} {s s' : Shared} {res : GenResult} (h : Wakes M Γ p g r s res s') : s.gens.size ≤ s'.gens.size := by
  unfold Wakes at h
  split at h
  · exact h.elim
  · split at h
    · obtain ⟨e₁, s₁, hr, _, _, rfl⟩ := h
      have a := runs_size hr
      rw [setGen_size] at a ⊢
      exact a
    · obtain ⟨_, rfl⟩ := h; exact Nat.le_refl _
    · obtain ⟨_, rfl⟩ := h
      rw [setGen_size]
      exact Nat.le_refl _
  · obtain ⟨e₁, s₁, hr, _, _, rfl⟩ := h
    have a := runs_size hr
    rw [setGen_size] at a ⊢
    exact a
  · obtain ⟨_, rfl⟩ := h; exact Nat.le_refl _
  · obtain ⟨_, rfl⟩ := h; exact Nat.le_refl _

theorem wp_size {Γ : PySem.Ctx} {α : Type} (t : Sem α) (n0 : Nat) : ∀ {Q : α → Pos → Shared → Prop} {E : Value → Pos → Shared → Prop} {p : Pos} {s : Shared}, n0 ≤ s.gens.size → Sem.wp M Γ t Q E p s → Sem.wp M Γ t (fun a p' s' => Q a p' s' ∧ n0 ≤ s'.gens.size) E p s := by
  induction t with
  | pure a => intro Q E p s hn h; exact ⟨h, hn⟩
  | raise x => intro Q E p s hn h; exact h
  | unsupported what => intro Q E p s hn h; exact h.elim
  | finish x => intro Q E p s hn h; exact h.elim
  | register a k => intro Q E p s hn h; exact h.elim
  | yield v g l k => intro Q E p s hn h; exact h.elim
  | fork c k => intro Q E p s hn h; exact h.elim
  | await a f d l k => intro Q E p s hn h; exact h.elim
  | rule tag k ih => intro Q E p s hn h; exact ih () hn h
  | «at» p' k ih => intro Q E p s hn h; exact ih () hn h
  | load a part k ih => intro Q E p s hn h; obtain ⟨o, ho, h⟩ := h; exact ⟨o, ho, ih o hn h⟩
  | update a part f k ih => intro Q E p s hn h; obtain ⟨ha, h⟩ := h; exact ⟨ha, ih () (s := { s with heap := s.heap.update a f }) hn h⟩
  | alloc o k ih => intro Q E p s hn h; exact ih _ (s := { s with heap := s.heap.push o }) hn h
  | loadIfAlive a k ih => intro Q E p s hn h; exact ih _ hn h
  | point l k ih => intro Q E p s hn h; exact ih () hn h
  | fresh k ih => intro Q E p s hn h; exact ih _ (s := { s with toks := s.toks + 1 }) hn h
  | ask k ih => intro Q E p s hn h; exact ih _ hn h
  | choose src n k ih => intro Q E p s hn h; obtain ⟨h1, h⟩ := h; exact ⟨h1, ih _ (s := { s with drawn := s.drawn.bump src }) hn h⟩
  | os q l k ih => intro Q E p s hn h; exact ih _ (s := { s with os := (Os.step s.os q).1 }) hn h
  | call c h g l k ih =>
    intro Q E p s hn hw
    obtain ⟨r, s₁, hret, hw⟩ := hw
    exact ⟨r, s₁, hret, ih r (Nat.le_trans hn (runs_size hret)) hw⟩
  | handled own k ih => intro Q E p s hn h; exact ih _ hn h
  | newGen c k ih => intro Q E p s hn h; exact ih _ (s := { s with gens := s.gens.push (.fresh c) }) (by rw [Array.size_push]; omega) h
  | genState g k ih => intro Q E p s hn h; obtain ⟨st, hg, h⟩ := h; exact ⟨st, hg, ih _ hn h⟩
  | resume g r l k ih =>
    intro Q E p s hn h
    obtain ⟨res, s₁, hwk, h⟩ := h
    exact ⟨res, s₁, hwk, ih res (Nat.le_trans hn (wakes_size hwk)) h⟩
  | stack k ih => intro Q E p s hn h; exact ih _ hn h
  | thread k ih => intro Q E p s hn h; exact ih _ hn h

theorem wpAny_size {A : Around} {α : Type} {t : Sem α} {Q : α → Shared → Prop} {E : Value → Shared → Prop} {s : Shared} (h : wpAny M A t Q E s) : wpAny M A t (fun a s' => Q a s' ∧ s.gens.size ≤ s'.gens.size) E s :=
  fun Γ p hΓ => wp_size t s.gens.size (Nat.le_refl _) (h Γ p hΓ)
end
end WGn

set_option maxHeartbeats 2000000
/-! A generator told by what holds between its items: Rd j s, ahead of item j. -/
namespace WGn
open PySem PySem.Spec PyProof.Rows L2 GenW
open Sem (wp)

/-- the end of a generator of n items -/
def gEnd (Rf : Shared → Prop) : GenEnd := fun m _ r s₁ => r = .ok .next ∧ (m = 0 ∧ Rf s₁)
/-- an item is handed out -/
def gYld (n : Nat) (Fv : Nat → Value → Prop) (Rd : Nat → Shared → Prop) : Protocol := fun m _ v s kap => Fv (n - 1 - m) v ∧ Rd (n - m) s ∧ ∀ s'', Rd (n - m) s'' → kap (.send .none) s''
/-- what Rd tells at least -/
structure Held (a : Addr) (g n : Nat) (Rd : Nat → Shared → Prop) (Rf : Shared → Prop) : Prop where
  gen : ∀ j s, Rd j s → s.heap.IsGen a g ∧ s.heap.NoLimit ∧ g < s.gens.size
  set : ∀ j s x, Rd j s → x.bare = true → Rd j (s.setGen g x)
  fin : ∀ j s, j ≤ n → Rd j s → Rf s
  setf : ∀ s x, Rf s → x.bare = true → Rf (s.setGen g x)
  grow : ∀ s h', Rf s → (∀ b o, s.heap.get? b = some o → h'.get? b = some o) → Rf { s with heap := h' }
section
variable {prog : Program} {w : World} {A : Around} {a : Addr} {g n : Nat} {Fv : Nat → Value → Prop} {Rd : Nat → Shared → Prop} {Rf : Shared → Prop}
/-- ahead of item j, the generator at rest -/
def GenOn (prog : Program) (w : World) (A : Around) (g n : Nat) (Fv : Nat → Value → Prop) (Rd : Nat → Shared → Prop) (Rf : Shared → Prop) (j : Nat) (s : Shared) : Prop :=
  Rd j s ∧ ∃ gs, s.gens[g]? = some gs ∧ ∀ s'', Rd j s'' → gs.Goes (model prog w) A.in1 (gEnd Rf) (gYld n Fv Rd) (n - j) (.send .none) s''

theorem next_on {Q : Option Value → Shared → Prop} {E : Value → Shared → Prop} {j : Nat} {s : Shared} (hh : A.handled = none) (hroom : A.depth < recursionLimit) (D : Held a g n Rd Rf) (hj : j < n) (h : GenOn prog w A g n Fv Rd Rf j s)
    (hQ : ∀ v s', Fv j v → GenOn prog w A g n Fv Rd Rf (j + 1) s' → Q (some v) s') : wpAny (model prog w) A (pyNext (.ref a)) Q E s := by
  obtain ⟨rd, gs, hgs, hgo⟩ := h
  obtain ⟨hg, hl, hlt⟩ := D.gen j s rd
  obtain ⟨m, hm⟩ : ∃ m, n - j = m + 1 := ⟨n - j - 1, by omega⟩
  rw [hm] at hgo
  refine wpAny_pyNext_genexpQ (P := fun m _ s₁ => m = 0 ∧ Rf s₁) hh hl hroom hg hgs (hgo _ (D.set j s _ rd rfl)) (fun v s₁ gs' hb hv => ?_) (fun s₁ hp h' hk => ?_)
  · obtain ⟨hF, rd1, hk⟩ := hv
    have e1 : n - 1 - (m + 1 - 1) = j := by omega
    have e2 : n - (m + 1 - 1) = j + 1 := by omega
    rw [e1] at hF
    rw [e2] at rd1 hk
    refine hQ v _ hF ⟨D.set _ _ _ rd1 hb, gs', setGen_at (D.gen _ _ rd1).2.2, fun s'' rd2 => ?_⟩
    have e3 : n - (j + 1) = m := by omega
    rw [e3]
    exact hk s'' rd2
  · exact absurd hp.1 (Nat.succ_ne_zero m)
theorem next_off {Q : Option Value → Shared → Prop} {E : Value → Shared → Prop} {s : Shared} (hh : A.handled = none) (hroom : A.depth < recursionLimit) (D : Held a g n Rd Rf) (h : GenOn prog w A g n Fv Rd Rf n s)
    (hQ : ∀ s', Rf s' → Q none s') : wpAny (model prog w) A (pyNext (.ref a)) Q E s := by
  obtain ⟨rd, gs, hgs, hgo⟩ := h
  obtain ⟨hg, hl, hlt⟩ := D.gen n s rd
  rw [Nat.sub_self] at hgo
  refine wpAny_pyNext_genexpQ (P := fun m _ s₁ => m = 0 ∧ Rf s₁) hh hl hroom hg hgs (hgo _ (D.set n s _ rd rfl)) (fun v s₁ gs' hb hv => ?_) (fun s₁ hp h' hk => ?_)
  · obtain ⟨_, rd1, hk⟩ := hv
    exact (hk s₁ rd1).elim
  · exact hQ _ (D.grow _ _ (D.setf _ _ hp.2 rfl) hk)

/-- all(g), g at item j -/
theorem all_loop {R : Result → Shared → Prop} (hh : A.handled = none) (hroom : A.in1.depth < recursionLimit) (D : Held a g n Rd Rf) (tr : Nat → Bool) (hF : ∀ j v, Fv j v → v = .bool (tr j)) : ∀ (k j : Nat) (s : Shared), n - j = k → j ≤ n → GenOn prog w A.in1 g n Fv Rd Rf j s →
    (∀ s', Rf s' → R (.ok (.ret (.bool (((List.range n).drop j).all tr)))) s') → codeAny (model prog w) A (.builtin "all.loop" ⟨[.ref a], []⟩) R s := by
  intro k
  induction k with
  | zero =>
    intro j s hk hj st hR
    have hin : j = n := by omega
    subst hin
    refine codeAny_builtin F.entry_all_loop ?_
    rw [Around.under_plainId F.plain_all_loop _]
    show wpAny _ A.in1 (pyNext (.ref a) >>= _) _ _ s
    refine wpAny_bind (next_off hh hroom D st fun s' hm => ?_)
    refine wpAny_bind (wpAny_rule (wpAny_pure ?_))
    have := hR s' hm
    rw [List.drop_of_length_le (by simp)] at this
    exact this
  | succ k ih =>
    intro j s hk hj st hR
    have hlt : j < n := by omega
    have hd : (List.range n).drop j = j :: (List.range n).drop (j + 1) := by
      rw [List.drop_eq_getElem_cons (by simpa using hlt)]; simp
    refine codeAny_builtin F.entry_all_loop ?_
    rw [Around.under_plainId F.plain_all_loop _]
    show wpAny _ A.in1 (pyNext (.ref a) >>= _) _ _ s
    refine wpAny_bind (next_on hh hroom D hlt st fun v s' hP hst' => ?_)
    have ev := hF j v hP
    subst ev
    refine wpAny_bind (wpAny_holding (wpAny_truthy_bool ?_))
    refine wpAny_bind (wpAny_letGo ?_)
    cases hb : tr j with
    | true =>
      simp only [if_true]
      refine wpAny_pure ⟨plainId_quiet F.plain_all_loop _, ih (j + 1) _ (by omega) hlt hst' fun s'' hm' => ?_⟩
      have := hR s'' hm'
      rw [hd, List.all_cons, hb, Bool.true_and] at this
      exact this
    | false =>
      simp only [Bool.false_eq_true, if_false]
      refine wpAny_bind (wpAny_rule (wpAny_pure ?_))
      have := hR s' (D.fin (j + 1) s' hlt hst'.1)
      rw [hd, List.all_cons, hb, Bool.false_and] at this
      exact this
theorem call_all {Q : Value → Shared → Prop} {E : Value → Shared → Prop} {s : Shared} (hh : A.handled = none) (hroom : A.depth < recursionLimit) (D : Held a g n Rd Rf) (tr : Nat → Bool) (hF : ∀ j v, Fv j v → v = .bool (tr j)) (st : GenOn prog w A.in1 g n Fv Rd Rf 0 s)
    (hQ : ∀ s', Rf s' → Q (.bool ((List.range n).all tr)) s') : wpAny (model prog w) A (call (.builtin "all") [.ref a]) Q E s := by
  refine call_function_tree F.kind_all F.plain_all F.entry_all (F.args_all1 _) ?_
  unfold Builtin.«all»
  refine wpAny_bind (m := oneArg "all" _) (wpAny_pure ?_)
  refine wpAny_bind (wpAny_pyIter_gen (D.gen 0 s st.1).1 ?_)
  exact wpAny_pure ⟨plainId_quiet F.plain_all_loop _, all_loop hh hroom D tr hF n 0 s rfl (Nat.zero_le _) st fun s' hm => by simpa using hQ s' hm⟩

/-! ### the generator's own run -/
/-- one turn: the item of what is walked, its store, the element -/
structure Turns (prog : Program) (w : World) (B : Around) (elt : Expr) (x : Str) (px : Pos) (cenv : Env) (it : Addr) (n : Nat) (Fv : Nat → Value → Prop) (Rd : Nat → Shared → Prop) (Rf : Shared → Prop) : Prop where
  item : ∀ j s, j < n → Rd j s → wpAny (model prog w) B (pyNext (.ref it)) (fun r s1 => ∃ v, r = some v ∧ wpAny (model prog w) B (letOwnedTupleGo (.Name x px) (.ref it) v) (fun _ s2 => wpAny (model prog w) B (assign (.Name x px) cenv v) (fun _ s3 =>
    wpAny (model prog w) B (eval elt cenv) (fun y s4 => Fv j y ∧ Rd (j + 1) s4) (fun _ _ => False) s3) (fun _ _ => False) s2) (fun _ _ => False) s1) (fun _ _ => False) s
  done : ∀ s, Rd n s → wpAny (model prog w) B (pyNext (.ref it)) (fun r s1 => r = none ∧ Rf s1) (fun _ _ => False) s
  self : ∀ (A' : Around) (s : Shared) (Q : Value → Shared → Prop) (E : Value → Shared → Prop), Rd 0 s → Q (.ref it) s → wpAny (model prog w) A' (pyIter (.ref it)) Q E s

variable {elt iter : Expr} {x : Str} {px : Pos} {scope : Scope} {pos : Pos} {it : Addr} {cenv : Env}
theorem over_comp : A.over (.compLoop (.GeneratorExp elt [⟨.Name x px, iter, [], 0⟩] scope pos) 0 (.ref it) .none cenv) [] = A.deeper cenv := by
  first
    | rfl
    | (obtain ⟨hd, d, fr, gs, u⟩ := A; simp [Around.over, Around.deeper, marksOver, frameCount, unitsOf, envsOf, guardsOf, pushEnvs, pushGuards, Code.envs, Code.env?, Code.isFrame, Code.guards, Code.isGuard, Code.weight, Code.frames, Code.isCreation, Code.isCaller, Code.cUnits])
theorem over_start : A.over (.compStart (.GeneratorExp elt [⟨.Name x px, iter, [], 0⟩] scope pos) 0 (.ref it) .none cenv) [] = A.deeper cenv := by
  first
    | rfl
    | (obtain ⟨hd, d, fr, gs, u⟩ := A; simp [Around.over, Around.deeper, marksOver, frameCount, unitsOf, envsOf, guardsOf, pushEnvs, pushGuards, Code.envs, Code.env?, Code.isFrame, Code.guards, Code.isGuard, Code.weight, Code.frames, Code.isCreation, Code.isCaller, Code.cUnits])

theorem run_loop (hco : cenv.scope.isCoroutine = false) (T : Turns prog w (A.deeper cenv) elt x px cenv it n Fv Rd Rf) : ∀ (k j : Nat) (s₀ s : Shared), n - j = k → j ≤ n → Rd j s →
    Seg (model prog w) A (gEnd Rf) (gYld n Fv Rd) (n - j) s₀ (.compLoop (.GeneratorExp elt [⟨.Name x px, iter, [], 0⟩] scope pos) 0 (.ref it) .none cenv)
      ((model prog w).den (.compLoop (.GeneratorExp elt [⟨.Name x px, iter, [], 0⟩] scope pos) 0 (.ref it) .none cenv)) [] s := by
  intro k
  induction k with
  | zero =>
    intro j s₀ s hk hj rd
    have hin : j = n := by omega
    subst hin
    show Seg _ A _ _ _ s₀ _ ((compTurn (.GeneratorExp elt [⟨.Name x px, iter, [], 0⟩] scope pos) 0 (.ref it) .none cenv).onRaise (leaving cenv)) [] s
    rw [compTurn_gen, Sem.onRaise_eq_wrap]
    refine seg_bind_wrap (wpAny_standAt ?_)
    refine seg_bind_wrap ?_
    rw [over_comp]
    refine wpAny_mono (T.done s rd) (fun r s1 ⟨hr, rd1⟩ => ?_) fun _ _ e => e.elim
    subst hr
    exact seg_end (.ok .next) ⟨rfl, by rw [Nat.sub_self], rd1⟩
  | succ k ih =>
    intro j s₀ s hk hj rd
    have hlt : j < n := by omega
    obtain ⟨m, hm⟩ : ∃ m, n - j = m + 1 := ⟨n - j - 1, by omega⟩
    rw [hm]
    show Seg _ A _ _ _ s₀ _ ((compTurn (.GeneratorExp elt [⟨.Name x px, iter, [], 0⟩] scope pos) 0 (.ref it) .none cenv).onRaise (leaving cenv)) [] s
    rw [compTurn_gen, Sem.onRaise_eq_wrap]
    refine seg_bind_wrap (wpAny_standAt ?_)
    refine seg_bind_wrap ?_
    rw [over_comp]
    refine wpAny_mono (T.item j s hlt rd) (fun r s1 ⟨v, hr, h1⟩ => ?_) fun _ _ e => e.elim
    subst hr
    refine seg_bind_wrap ?_
    rw [over_comp]
    refine wpAny_mono h1 (fun _ s2 h2 => ?_) fun _ _ e => e.elim
    refine seg_bind_wrap ?_
    rw [over_comp]
    refine wpAny_mono h2 (fun _ s3 h3 => ?_) fun _ _ e => e.elim
    simp only [List.forIn_nil]
    refine seg_bind_wrap (wpAny_pure ?_)
    simp only [if_true]
    have hy : ∀ v, yieldOut cenv v = yieldValue v := fun v => by simp only [yieldOut, hco, Bool.false_eq_true, if_false]
    simp only [hy]
    rw [Sem.bind_eq_wrap', Sem.bind_eq_wrap', Sem.wrap_wrap, Sem.wrap_wrap]
    refine seg_wrap ?_
    rw [over_comp]
    refine wpAny_mono h3 (fun y s4 ⟨hFy, rd4⟩ => ?_) fun _ _ e => e.elim
    have e1 : n - 1 - m = j := by omega
    have e2 : n - m = j + 1 := by omega
    have e3 : n - (j + 1) = m := by omega
    refine seg_at (seg_yield rfl rfl rfl ?_)
    refine ⟨by rw [e1]; exact hFy, by rw [e2]; exact rd4, fun s'' rd5 => ?_⟩
    rw [e2] at rd5
    refine seg_again rfl ?_
    have z := ih (j + 1) s'' s'' (by omega) hlt rd5
    rw [e3] at z
    exact z
theorem run_start (hco : cenv.scope.isCoroutine = false) (T : Turns prog w (A.deeper cenv) elt x px cenv it n Fv Rd Rf) (s₀ s : Shared) (rd : Rd 0 s) :
    Seg (model prog w) A (gEnd Rf) (gYld n Fv Rd) (n - 0) s₀ (.compStart (.GeneratorExp elt [⟨.Name x px, iter, [], 0⟩] scope pos) 0 (.ref it) .none cenv)
      ((model prog w).den (.compStart (.GeneratorExp elt [⟨.Name x px, iter, [], 0⟩] scope pos) 0 (.ref it) .none cenv)) [] s := by
  have loop := run_loop (iter := iter) (px := px) (scope := scope) (pos := pos) (A := A) hco T n 0 s₀ s (Nat.sub_zero _) (Nat.zero_le _) rd
  show Seg _ A _ _ _ s₀ _ ((compStart (.GeneratorExp elt [⟨.Name x px, iter, [], 0⟩] scope pos) 0 (.ref it) .none cenv).onRaise (leaving cenv)) [] s
  unfold compStart
  rw [Sem.onRaise_eq_wrap]
  show Seg _ A _ _ _ s₀ _ ((ask >>= _).wrap _ _ _ _) [] s
  refine seg_bind_wrap (wpAny_askSetting ?_)
  split
  · exact seg_again rfl loop
  · first
      | exact seg_bind_wrap (wpAny_rule (seg_bind_wrap (wpAny_standAt (seg_bind_wrap (T.self _ s _ _ rd (seg_again rfl loop))))))
      | (refine seg_bind_wrap (wpAny_rule ?_); show Seg _ A _ _ _ s₀ _ ((standAt iter.pos >>= _).wrap _ _ _ _) [] s; exact seg_bind_wrap (wpAny_standAt (seg_bind_wrap (T.self _ s _ _ rd (seg_again rfl loop)))))
/-- the generator as it was made -/
theorem on_fresh {s : Shared} (hco : cenv.scope.isCoroutine = false) (T : Turns prog w (A.in1.deeper cenv) elt x px cenv it n Fv Rd Rf) (rd : Rd 0 s)
    (hgs : s.gens[g]? = some (.fresh (.compStart (.GeneratorExp elt [⟨.Name x px, iter, [], 0⟩] scope pos) 0 (.ref it) .none cenv))) : GenOn prog w A g n Fv Rd Rf 0 s :=
  ⟨rd, _, hgs, fun s'' rd'' => ⟨rfl, run_start hco T s'' s'' rd''⟩⟩
end
end WGn

set_option maxHeartbeats 4000000
/-! all(f(.., x) for x in e) in a def: the element is read in the generator's own context. -/
namespace WGn
open PySem PySem.Spec PyProof.Rows L2 GenW

/-- the context of a generator expression's frame, made in the state s -/
abbrev cxg (X : Cx) (B : Around) (s : Shared) (H : Hp) (cenv : Env) (fp : List Addr) : Cx :=
  { X with A := B, s_0 := s, H_0 := H, env := cenv, outer := X.stack, stack := cenv :: X.stack, ex := fp, fn := fun _ => false, calm := true, pn := [], xe := fun _ _ => False }
abbrev ge (X : Cx) (scope : Scope) (C : Addr) (code : Value) : Env := genEnv scope (cloFrom X.env.cells scope.names []) C code builtinsNs X.env

section
variable {X : Cx} {pins : List (Addr × Obj)} {σ : L2.St} {H : Hp} {s : Shared}
theorem gen_start {scope : Scope} {own : List (Str × Nat)} {fp : List Addr} {code : Value} {B : Around} {h' : Heap} {m : Str → Option Value} {g' : Array GenState} {tk : Nat} {fo go : Obj}
    (I : Inv X pins σ H s) (ok : BlkOk X.N X.env.scope scope own) (hN : X.N.Nodup) (hcell : ∀ y ∈ scope.names, y.2 ≠ .cell) (hfp : ∀ b ∈ fp, FpOk X pins H b ∧ b < s.heap.objs.size)
    (hB : B.handled = none) (hfr : B.frames = some (ge X scope s.heap.objs.size code :: X.stack)) (hn : h'.Ns s.heap.objs.size m) (kp : ∀ b o, s.heap.get? b = some o → h'.get? b = some o) (hg : AllBare g') :
    Inv (cxg X B s H (ge X scope s.heap.objs.size code) fp) [] (wipe σ (own.map (·.2))) H { s with gens := g', toks := tk, heap := h' } := by
  have hfree : ∀ y ∈ scope.names, y.2 = .free → ∃ c, X.env.cells.lookup y.1 = some c := fun y hy e => by
    rcases ok.free y hy e with k | k
    · exact I.ok.has _ (.inl k)
    · exact I.ok.has _ (.inr k)
  have cm : ∀ {y c}, (y, c) ∈ cloFrom X.env.cells scope.names [] → X.env.cells.lookup y = some c ∧ c < s.heap.objs.size := fun {y c} hm => by
    rcases cloFrom_mem hm with hm | ⟨h1, rfl⟩
    · cases hm
    · obtain ⟨c, hc⟩ := hfree _ h1 rfl
      rw [hc]
      obtain ⟨w, z⟩ := I.cell _ _ hc
      exact ⟨rfl, z.lt⟩
  have cl : ∀ {y c}, (ge X scope s.heap.objs.size code).cells.lookup y = some c → X.env.cells.lookup y = some c ∧ c < s.heap.objs.size := fun {y c} e => cm (PySem.mem_of_lookup e)
  have look : ∀ {y}, scope.names.lookup y = some .free → ∃ c, (ge X scope s.heap.objs.size code).cells.lookup y = some c ∧ X.env.cells.lookup y = some c := fun {y} hl => by
    have hy : (y, NameKind.free) ∈ scope.names := PySem.mem_of_lookup hl
    obtain ⟨c', e'⟩ := mem_lookup (cloFrom_has (cells := X.env.cells) (acc := []) hy)
    exact ⟨c', e', (cm (PySem.mem_of_lookup e')).1⟩
  have okB : (cxg X B s H (ge X scope s.heap.objs.size code) fp).Ok := by
    refine ⟨I.ok.mod, ok.kind, I.ok.glob, rfl, Nat.le_refl _,
      fun y z c e1 e2 => I.ok.inj y z c (cl e1).1 (cl e2).1, fun y hy => ?_, fun y c z e => ?_, fun _ => hB, hfr, .inr ⟨rfl, rfl⟩, fun b hb => ⟨?_, fun y c e z => ?_⟩, I.bs, Nat.le_trans I.ok.bsz I.sz, fun b o e hb => ?_, fun b hb z => ?_, I.stack, I.stkFree⟩
    · have hy : scope.names.lookup y = some .cell ∨ scope.names.lookup y = some .free := hy
      rcases hy with hy | hy
      · exact absurd rfl (hcell _ (PySem.mem_of_lookup hy))
      · obtain ⟨c, h1, _⟩ := look hy
        exact ⟨c, h1⟩
    · exact absurd (show false = true from z) Bool.false_ne_true
    · exact Nat.ne_of_lt (hfp b hb).2
    · exact (hfp b hb).1.2.2.2.2.1 y c (cl e).1 z
    · rcases (hfp b hb).1.2.2.2.1 with z | z
      · exact I.ok.noex b o e z
      · exact absurd (Nat.lt_of_lt_of_le (Heap.lt_size e) (Nat.le_trans I.ok.bsz z)) (Nat.lt_irrefl _)
    · rcases List.mem_cons.mp (I.stkSub b z) with z | z
      · exact (hfp b hb).1.2.1 z
      · exact (hfp b hb).1.2.2.1 z
  refine ⟨okB, rfl, hg, Un.kept kp, ⟨m, hn, fun i y av e1 e2 e3 => ?_⟩, fun y c e => ?_, I.hok.fresh (Nat.le_refl _), fun y c e => I.freeC y c (cl e).1, fun p hp => absurd (show p ∈ ([] : List (Addr × Obj)) ++ [] from hp) (by simp), I.hok.kept kp, by rw [wipe_length]; exact I.len⟩
  · obtain ⟨e2, hne⟩ := wipe_some e2
    have e3 : Vis scope y := e3
    have no : ∀ k, scope.names.lookup y = some k → ¬ (k = .local ∨ k = .cell) := fun k e hh => by
      rcases ok.own _ (PySem.mem_of_lookup e) hh with e' | e'
      · obtain ⟨p, hp, hpy⟩ := List.mem_map.mp e'
        have e3 := ok.ix p hp
        have : p.1 = y := hpy
        rw [this] at e3
        exact hne (List.mem_map.mpr ⟨p, hp, nodup_ix hN e3 e1⟩)
      · exact e' (List.mem_of_getElem? e1)
    have hfr2 : scope.names.lookup y = some .free := by
      rcases e3 with e3 | e3 | e3
      · exact absurd (.inl rfl) (no _ e3)
      · exact absurd (.inr rfl) (no _ e3)
      · exact e3
    obtain ⟨m', hn', hl⟩ := I.loc
    have hvis : Vis X.env.scope y := (ok.free _ (PySem.mem_of_lookup hfr2) rfl).elim (fun k => .inr (.inl k)) (fun k => .inr (.inr k))
    obtain ⟨w, r, q⟩ := hl i y av e1 e2 hvis
    refine ⟨w, r, .inr ⟨.inr hfr2, ?_⟩⟩
    obtain ⟨c, h1, h2⟩ := look hfr2
    rcases q with ⟨k, _⟩ | ⟨_, c', e', z⟩
    · have k : X.env.scope.names.lookup y = some .local := k
      rcases ok.free _ (PySem.mem_of_lookup hfr2) rfl with k' | k' <;> rw [show X.env.scope.names.lookup y = _ from k'] at k <;> cases k
    · rw [h2] at e'; cases e'
      exact ⟨c, h1, z.keeps kp⟩
  · obtain ⟨w, z⟩ := I.cell y c (cl e).1
    exact ⟨w, z.keeps kp⟩

/-- ahead of item j -/
def Rdy (X : Cx) (σ : L2.St) (tn : Nat → Heap → Prop) (fp : List Addr) (p : Addr × Obj) (W : Nat → Hp → Prop) (g j : Nat) (s : Shared) : Prop :=
  ∃ H, Inv X [p] σ H s ∧ tn j s.heap ∧ (∀ b ∈ fp, H b = none) ∧ W j H ∧ g < s.gens.size
/-- behind it all -/
def Rdf (X : Cx) (σ : L2.St) (fp : List Addr) (p : Addr × Obj) (W : Nat → Hp → Prop) (n : Nat) (s : Shared) : Prop :=
  ∃ H j, Inv X [p] σ H s ∧ (∀ b ∈ fp, H b = none) ∧ j ≤ n ∧ W j H
theorem inv_gens {g' : Array GenState} (I : Inv X pins σ H s) (hg : AllBare g') : Inv X pins σ H { s with gens := g' } :=
  ⟨I.ok, I.os, hg, I.base, I.loc, I.cell, I.free, I.freeC, I.pin, I.hok, I.len⟩
theorem rdy_held {tg : Expr} {tn : Nat → Heap → Prop} {fp : List Addr} {it a : Addr} {go : Obj} {W : Nat → Hp → Prop} {g n : Nat} {J : It} (T : Turn X.prog X.w X.K tg J fp it tn) (hgo : ∀ h : Heap, h.get? a = some go → h.IsGen a g) :
    Held a g n (Rdy X σ tn fp (a, go) W g) (Rdf X σ fp (a, go) W n) where
  gen := fun j s ⟨H, I, _, _, _, hg⟩ => ⟨hgo _ (I.pin (a, go) (List.mem_append_right _ (List.mem_singleton.mpr rfl))).1, I.nolimit, hg⟩
  set := fun j s x ⟨H, I, ht, hn, hw, hg⟩ hx => ⟨H, inv_gens I (allBare_setGen I.bare hx), ht, hn, hw, by rw [setGen_size]; exact hg⟩
  fin := fun j s hj ⟨H, I, ht, hn, hw, hg⟩ => ⟨H, j, I, hn, hj, hw⟩
  setf := fun s x ⟨H, j, I, hn, hj, hw⟩ hx => ⟨H, j, inv_gens I (allBare_setGen I.bare hx), hn, hj, hw⟩
  grow := fun s h' ⟨H, j, I, hn, hj, hw⟩ k => ⟨H, j, I.un (h' := h') (t' := s.toks) (Un.kept k) (I.hok.kept k), hn, hj, hw⟩

/-- the turns by their reading -/
theorem rdy_turns {prog : Program} {w : World} {elt iter : Expr} {x : Str} {px : Pos} {tn : Nat → Heap → Prop} {fp : List Addr} {it a : Addr} {go : Obj} {W : Nat → Hp → Prop} {g n : Nat} {J : It} {gg : TG} {te : TE} {tr : Nat → Bool} {vs : List Nat} {σ0 : L2.St}
    (hp : X.prog = prog) (hw : X.w = w) (T : Turn prog w X.K (.Name x px) J fp it tn) (hcalm : X.calm = true) (hpn : X.pn = []) (hex : X.ex = fp) (hxe : X.xe = fun _ _ => False) (hafp : ∀ b ∈ fp, a ≠ b) (hσ : σ = wipe σ0 vs)
    (pg : PG X (.Name x px) gg) (pe : PE X elt te)
    (hj : ∀ j H, W j H → (j = n ∧ J.stop j H) ∨ (j < n ∧ J.go j H ∧ ∀ y H7, J.yld j H y H7 → gg y σ H7 fun σ8 H8 => wipe σ8 vs = σ ∧ te σ8 H8 fun v H9 => v = .bl (tr j) ∧ W (j + 1) H9)) :
    Turns prog w X.A elt x px X.env it n (fun j v => v = .bool (tr j)) (Rdy X σ tn fp (a, go) W g) (Rdf X σ fp (a, go) W n) := by
  subst hp; subst hw
  have stat : ∀ {H' : Hp} {s' : Shared}, Inv X [(a, go)] σ H' s' → (∀ b ∈ fp, H' b = none) → ∀ b ∈ fp, FpOk X [(a, go)] H' b := fun {H' s'} I' hn b hb => by
    have hb' : b ∈ X.ex := by rw [hex]; exact hb
    refine ⟨hn b hb, (I'.ok.exf b hb').1, I'.ok.exfs b hb', .inl hb', fun y c e => (I'.ok.exf b hb').2 y c e, fun p hp => ?_⟩
    rw [hpn, List.nil_append] at hp
    rw [List.mem_singleton.mp hp]
    exact hafp b hb
  refine ⟨fun j s hlt ⟨H, I, ht, hn, hw, hg⟩ => ?_, fun s ⟨H, I, ht, hn, hw, hg⟩ => ?_, fun A' s Q E ⟨H, I, ht, hn, hw, hg⟩ q => T.self A' 0 s Q E ht q⟩
  · rcases hj j H hw with ⟨e, _⟩ | ⟨_, hgo, step⟩
    · omega
    have ti := wpAny_size (T.item X rfl rfl rfl hcalm j [(a, go)] s σ H (fun _ _ => False) I (stat I hn) ht hgo)
    refine wpAny_mono ti (fun r s1 ⟨⟨u, hr, h1⟩, g1⟩ => ⟨u, hr, ?_⟩) fun _ _ e => e
    refine wpAny_mono (wpAny_size h1) (fun _ s2 ⟨⟨y, H7, I7, r7, y7, st7, n7⟩, g2⟩ => ?_) fun _ _ e => e
    have I7' := I7.pinned (stat I7 n7) (T.obj _ _ st7)
    have st := wpAny_size (pg.run _ s2 _ H7 y u _ I7' r7 (step y H7 y7))
    rw [hxe] at st
    refine wpAny_mono st (fun _ s3 ⟨⟨σ8, H8, I8, hw8, q8⟩, g3⟩ => ?_) fun _ _ e => e
    have sv := wpAny_size (pe.run _ s3 σ8 H8 _ I8 q8)
    rw [hxe] at sv
    refine wpAny_mono sv (fun v s4 ⟨⟨v', H9, I9, r9, e9, w9⟩, g4⟩ => ?_) fun _ _ e => e
    subst e9
    have pin' : ∀ b ∈ fp, ∀ o, s2.heap.get? b = some o → s4.heap.get? b = some o ∧ H9 b = none := fun b hb o e =>
      let z := I9.pin (b, o) (List.mem_append_right _ (List.mem_append_right _ (mem_pinsAt hb e)))
      ⟨z.1, z.2.1⟩
    have hl : σ.length = σ8.length := by rw [← hw8, wipe_length]
    refine ⟨r9, H9, (I9.unpinned (pins := [(a, go)])).weak hl (fun i v e => ?_), T.keep _ _ _ st7 fun b hb o e => (pin' b hb o e).1, fun b hb => ?_, w9, by omega⟩
    · rw [← hw8] at e
      exact (wipe_some e).1
    · obtain ⟨o, e, _⟩ := T.obj _ _ st7 b hb
      exact (pin' b hb o e).2
  · rcases hj n H hw with ⟨_, hs⟩ | ⟨e, _⟩
    · have td := wpAny_size (T.done X rfl rfl rfl hcalm n [(a, go)] s σ H (fun _ _ => False) I (stat I hn) ht hs)
      exact wpAny_mono td (fun r s1 ⟨⟨hr, I1⟩, g1⟩ => ⟨hr, H, n, I1, hn, Nat.le_refl _, hw⟩) fun _ _ e => e
    · omega
end
end WGn

set_option maxHeartbeats 4000000
/-! all(f(.., x) for x in e): the rule. -/
namespace WGn
open PySem PySem.Spec PyProof.Rows L2 GenW

/-- behind it the def's table may have grown; W j: what holds ahead of item j -/
def tAllG (P : Addr) (wi : TI) (gg : TG) (te : TE) (vs : List Nat) : TE := fun σ H Q => wi σ H fun J H1 => GxR.TabG H1 P ∧ ∀ H2, GxR.Tabbed P H1 H2 → ∃ (n : Nat) (tr : Nat → Bool) (W : Nat → Hp → Prop), W 0 H2 ∧
  (∀ j H, W j H → (j = n ∧ J.stop j H) ∨ (j < n ∧ J.go j H ∧ ∀ y H7, J.yld j H y H7 → gg y (wipe σ vs) H7 fun σ8 H8 => wipe σ8 vs = wipe σ vs ∧ te σ8 H8 fun v H9 => v = .bl (tr j) ∧ W (j + 1) H9)) ∧
  ∀ j H, j ≤ n → W j H → Q (.bl ((List.range n).all tr)) H
section
variable {X : Cx}
theorem pe_allG {c P : Addr} {elt iter : Expr} {x : Str} {px p pos gpos : Pos} {scope : Scope} {own : List (Str × Nat)} {wi : TI} {gg : TG} {te : TE} {k : Nat}
    (hr : Room (k + 3) X.A) (hc : X.calm = true) (hN : X.N.Nodup) (hgl : Gl X "all") (hm : X.mg "all" = none) (TB : GxR.TabB X.base X.mg c P) (hcode : X.env.code = .ref c)
    (ok : BlkOk X.N X.env.scope scope own) (hco : scope.isCoroutine = false) (hcell : ∀ y ∈ scope.names, y.2 ≠ .cell) (hdot : scope.names.lookup (".0" : Str) = some NameKind.local)
    (hi : PI X (.Name x px) iter wi)
    (hg : ∀ (B : Around) (s : Shared) (H : Hp) (C : Addr) (code : Value) (fp : List Addr), PG (cxg X B s H (ge X scope C code) fp) (.Name x px) gg)
    (hel : ∀ (B : Around) (s : Shared) (H : Hp) (C : Addr) (code : Value) (fp : List Addr), Room k B → PE (cxg X B s H (ge X scope C code) fp) elt te)
    (hs : ∀ v, genFold iter X.env v = pure v) (hb : bootBuiltins "all" = some (.builtin "all") := by rfl)
    (he : starEach [.GeneratorExp elt [⟨.Name x px, iter, [], 0⟩] scope gpos] X.env = (false, eval (.GeneratorExp elt [⟨.Name x px, iter, [], 0⟩] scope gpos) X.env) :: starEach [] X.env := by rfl) :
    PE X (.Call (.Name "all" p) [.GeneratorExp elt [⟨.Name x px, iter, [], 0⟩] scope gpos] [] pos) (tAllG P wi gg te (own.map (·.2))) := by
  refine ⟨fun pins s σ H Q I h => ?_⟩
  refine wpAny_Call_Name_kw (ld_blt I hgl hm hb ?_)
  refine PyProof.Rows.callWith_builtin1 ?_ he (by rfl)
  rw [he]
  show wpAny _ _ (spliced ((false, eval (.GeneratorExp elt [⟨.Name x px, iter, [], 0⟩] scope gpos) X.env) :: backTo pos (starEach [] X.env))) _ _ s
  refine Calls.spliced_cons ?_
  have hfree : ∀ y ∈ scope.names, y.2 = .free → ∃ c, X.env.cells.lookup y.1 = some c := fun y hy e => by
    rcases ok.free y hy e with k | k
    · exact I.ok.has _ (.inl k)
    · exact I.ok.has _ (.inr k)
  refine wpAny_GeneratorExp_make hco (closure_ok hfree) hcell hdot ok.kind (by have := hr.dp; omega) ?_ hs
  refine thn (hi.run pins s σ H _ I h) fun xv s1 h1 => thn h1 fun itv s2 h2 => ?_
  obtain ⟨it, fp, tn, J, H2, e, I2, T, st2, f2, ⟨ps, hP, ht⟩, q⟩ := h2
  subst e
  refine ⟨I2.nolimit, ?_⟩
  have hPs : s2.heap.get? P = some { cls := .none, data := .fields ps } := I2.hok P _ hP
  have hPlt : P < s2.heap.objs.size := Heap.lt_size hPs
  have cd : PySem.W.CodeHd s2.heap c P := TB.code.keeps fun b u e => I2.bk b u e
  have cont : ∀ (code : Value) (h3 : Heap) (tk : Nat) (ps' : Array Value), Heap.ExtBut P s2.heap h3 → s2.heap.objs.size ≤ h3.objs.size → h3.get? P = some { cls := .none, data := .fields ps' } → (∃ more, ps' = ps ++ more) → TriplesOk ps'.toList →
      wpAny (model X.prog X.w) X.A (builtinsFor X.env.globals X.env.builtins) (fun bi s₄ => ∀ h', h'.Ns s₄.heap.objs.size (fun y => if y = ".0" then some (.ref it) else none) → Heap.SameBut s₄.heap.objs.size (s₄.heap.push { cls := .type "frame", data := .dict #[] }) h' →
        wpAny (model X.prog X.w) X.A (spliced (backTo pos (starEach [] X.env))) (fun us s' => wpAny (model X.prog X.w) X.A (call (.builtin "all") ((.ref h'.objs.size) :: us)) (EP X pins σ Q) X.xe s') X.xe { s₄ with
            gens := s₄.gens.push (.fresh (.compStart (.GeneratorExp elt [⟨.Name x px, iter, [], 0⟩] scope gpos) 0 (.ref it) .none (genEnv scope (cloFrom X.env.cells scope.names []) s₄.heap.objs.size code bi X.env))),
            toks := s₄.toks + 1 + 1 + 1,
            heap := h'.push { cls := .type "generator", data := .fields #[.int s₄.gens.size 0, .str "<genexpr>" (s₄.toks + 1), .str (X.env.qual ++ "<genexpr>") (s₄.toks + 1 + 1)] } }) X.xe { s2 with heap := h3, toks := tk } := by
    rintro code h3 tk ps' hx hsz hP3 ⟨more, rfl⟩ ht3
    obtain ⟨bm, ob, e1, e2, e3, e4, e5, e6, e7, e8⟩ := TB.bm
    have bmP : bm ≠ P := e4
    refine wpAny_builtinsFor (m := X.mg) (by rw [I2.ok.glob]; exact (I2.mod.glob.keeps I2.bk).extBut hx TB.gP) e1 e2 (hx _ _ bmP (I2.bk _ _ e5)) e6 e7 e8 ?_
    intro h' hn' hs'
    generalize hs4 : ({ s2 with heap := h3, toks := tk } : Shared) = s4 at *
    have I4 : Inv X pins σ (upd H2 P (.tbl (ps ++ more))) s4 := by
      rw [← hs4]
      exact GxR.inv_tab (g' := s2.gens) (d' := s2.drawn) I2 hP (fun b o hb e => hx b o hb e) hP3 I2.bare
    have tab : GxR.Tabbed P H2 (upd H2 P (.tbl (ps ++ more))) := ⟨⟨ps ++ more, upd_same, ht3⟩, fun b hb => upd_ne hb⟩
    have h3e : s4.heap = h3 := by rw [← hs4]
    have nP : ∀ b, H2 b = none → b ≠ P := fun b e z => by
      rw [z, hP] at e
      cases e
    generalize hH3 : upd H2 P (.tbl (ps ++ more)) = H3 at I4 tab
    obtain ⟨n, tr, W, w0, hj, hQ⟩ := q H3 tab
    generalize hgo : ({ cls := .type "generator", data := .fields #[.int s4.gens.size 0, .str "<genexpr>" (s4.toks + 1), .str (X.env.qual ++ "<genexpr>") (s4.toks + 1 + 1)] } : Obj) = go
    have hsz' : h'.objs.size = s4.heap.objs.size + 1 := by rw [hs'.1, Heap.size_push]
    have goc : go.cls = .type "generator" := by rw [← hgo]
    have god : go.data = .fields #[.int s4.gens.size 0, .str "<genexpr>" (s4.toks + 1), .str (X.env.qual ++ "<genexpr>") (s4.toks + 1 + 1)] := by rw [← hgo]
    have gos : go.slots = #[] := by rw [← hgo]
    have gof : go.isFreed = false := by rw [← hgo]; rfl
    have keep' : ∀ b o, s4.heap.get? b = some o → h'.get? b = some o := fun b o e => hs'.extBut b o (Nat.ne_of_lt (Heap.lt_size e)) (Heap.get?_push_of_some _ e)
    have keep5 : ∀ b o, s4.heap.get? b = some o → (h'.push go).get? b = some o := fun b o e => Heap.get?_push_of_some _ (keep' b o e)
    have f4 : ∀ b ∈ fp, FpOk X pins H3 b ∧ b < s4.heap.objs.size := fun b hb => by
      obtain ⟨o, e, _⟩ := T.obj _ _ st2 b hb
      have hlt := Heap.lt_size e
      refine ⟨⟨?_, (f2 b hb).2⟩, by rw [h3e]; exact Nat.lt_of_lt_of_le hlt hsz⟩
      rw [tab.2 b (nP b (f2 b hb).1)]
      exact (f2 b hb).1
    have agt : s4.heap.objs.size ≤ h'.objs.size := by omega
    have hB : (X.A.in1.in1.deeper (ge X scope s4.heap.objs.size code)).handled = none := hr.hd
    have hfr : (X.A.in1.in1.deeper (ge X scope s4.heap.objs.size code)).frames = some (ge X scope s4.heap.objs.size code :: X.stack) := Around.frames_deeper I4.ok.frames
    have J0 := gen_start (B := X.A.in1.in1.deeper (ge X scope s4.heap.objs.size code)) (code := code) (fp := fp) (h' := h'.push go) (g' := s4.gens.push (.fresh (.compStart (.GeneratorExp elt [⟨.Name x px, iter, [], 0⟩] scope gpos) 0 (.ref it) .none (ge X scope s4.heap.objs.size code)))) (tk := s4.toks + 1 + 1 + 1) (fo := default) (go := go)
      I4 ok hN hcell f4 hB hfr (hn'.push _) keep5 (AllBare.push I4.bare rfl)
    have hea : (h'.push go).get? h'.objs.size = some go := Heap.get?_push_size _ gof
    have J1 := Inv.pins_of (pins' := [(h'.objs.size, go)]) J0 fun p hp => by
      rw [List.mem_singleton.mp hp]
      refine ⟨hea, I4.hok.fresh agt, ?_, fun hb => ?_, fun v z => by rw [god] at z; cases z⟩
      · show h'.objs.size ≠ s4.heap.objs.size
        omega
      · rcases List.mem_cons.mp (I4.stkSub _ hb) with z | z
        · exact Nat.ne_of_lt (Nat.lt_of_lt_of_le I4.lt agt) (show X.env.locals = h'.objs.size from Eq.symm z)
        · exact I4.nofs agt z
    have hgen : ∀ h : Heap, h.get? h'.objs.size = some go → h.IsGen h'.objs.size s4.gens.size := fun h e => ⟨go, _, _, e, goc, god, gos⟩
    have pg := hg (X.A.in1.in1.deeper (ge X scope s4.heap.objs.size code)) s4 H3 s4.heap.objs.size code fp
    have pe := hel (X.A.in1.in1.deeper (ge X scope s4.heap.objs.size code)) s4 H3 s4.heap.objs.size code fp (hr.in1.in1.deeper _)
    have turns := rdy_turns (X := cxg X (X.A.in1.in1.deeper (ge X scope s4.heap.objs.size code)) s4 H3 (ge X scope s4.heap.objs.size code) fp) (a := h'.objs.size) (go := go) (W := W) (g := s4.gens.size) (n := n) (tr := tr) (iter := iter) (σ0 := σ) (vs := own.map (·.2)) rfl rfl T rfl rfl rfl rfl
      (fun b hb z => Nat.ne_of_lt (Nat.lt_of_lt_of_le (f4 b hb).2 agt) (Eq.symm z)) rfl pg pe hj
    have st5 : tn 0 (h'.push go) := T.keep _ _ _ st2 fun b hb o e => keep5 b o (by rw [h3e]; exact hx b o (nP b (f2 b hb).1) e)
    have D := rdy_held (X := cxg X (X.A.in1.in1.deeper (ge X scope s4.heap.objs.size code)) s4 H3 (ge X scope s4.heap.objs.size code) fp) (σ := wipe σ (own.map (·.2))) (a := h'.objs.size) (go := go) (W := W) (g := s4.gens.size) (n := n) T hgen
    refine Calls.spliced_nil ?_
    refine call_all hr.hd hr.depth D tr (fun _ _ z => z) (on_fresh (iter := iter) (scope := scope) (pos := gpos) hco turns ⟨H3, J1, st5, fun b hb => (f4 b hb).1.1, w0, ?_⟩ ?_) fun s' ⟨H', j, I', _, hjn, hw'⟩ => ?_
    · show s4.gens.size < (s4.gens.push _).size
      rw [Array.size_push]; exact Nat.lt_succ_self _
    · exact Array.getElem?_push_size ..
    · refine ⟨.bl _, H', I4.call' (ch := fp) I'.os I'.base I'.hok I'.bare fun b hb => ⟨(f4 b hb).1.2.2.2.1, (f4 b hb).1.2.1, (f4 b hb).1.2.2.2.2.1, (f4 b hb).1.2.2.2.2.2⟩, rfl, hQ j H' hjn hw'⟩
  cases hf : codeAmong gpos ps.toList with
  | none =>
    refine wpAny_genexprCodeX hcode (cd.code hPs ht) (cd.tab hPs) hf fun c' h' tk hx hge hlt hco' _ htab' _ => ?_
    obtain ⟨o1, vs, f1, tf, fl, tg, inF, tx, tt, op, _, _, _, _, _, _, _, _, _, htr, _⟩ := hco'
    exact cont _ h' tk _ hx (Nat.le_trans hge (Nat.le_of_lt hlt)) htab'.2 ⟨_, rfl⟩ htr
  | some cv =>
    refine wpAny_genexprCode_hit hcode (cd.code hPs ht) hf ?_
    exact cont cv s2.heap s2.toks ps (Heap.ExtBut.refl _ _) (Nat.le_refl _) hPs ⟨#[], by simp⟩ ht
end
end WGn

set_option maxHeartbeats 4000000
/-! Sets of texts made of a tuple: their number, and them sorted. -/
namespace WSt
open PySem PySem.Spec PyProof.Rows L2 PySem.Froz

/-- the texts l, each once, are the set at a -/
def SetTx (P : Program) (w : World) (h : Heap) (a : Addr) (l : List Str) : Prop :=
  ∃ D : SD, h.get? a = some (sObj "set" D) ∧ TxOk P w D l ∧ l.Nodup ∧ Ris D.2.2.place.toList ∧ (w.params.followText "set-order" = true ∨ D.2.2.led = true)
section
variable {P : Program} {w : World}
theorem SetTx.keep {h h' : Heap} {a : Addr} {l : List Str} (x : SetTx P w h a l) (k : ∀ o, h.get? a = some o → h'.get? a = some o) : SetTx P w h' a l := by
  obtain ⟨D, e, r⟩ := x
  exact ⟨D, k _ e, r⟩
theorem plainOff {t : SetTable} : (if t.plain = true then { t with plain := false } else t).place = t.place ∧ (if t.plain = true then { t with plain := false } else t).led = t.led := by
  by_cases c : t.plain = true
  · rw [if_pos c]; exact ⟨rfl, rfl⟩
  · rw [if_neg c]; exact ⟨rfl, rfl⟩
theorem tail_place {ep : Nat} {es : Array (Int × Value)} {t : SetTable} {wd : Bool} (r : Ris t.place.toList) : Ris (tailTx ep es t wd).2.2.place.toList ∧ (tailTx ep es t wd).2.2.led = t.led := by
  unfold tailTx
  by_cases c : (!wd && t.tooFull) = true
  · rw [if_pos c]
    exact ⟨relayAll_ris t es _, relayAll_led t es _⟩
  · rw [if_neg c]
    exact ⟨r, rfl⟩
theorem add_place {D : SD} {k : Int} {v : Value} (r : Ris D.2.2.place.toList) : Ris (addTx k v D).2.2.place.toList ∧ (addTx k v D).2.2.led = D.2.2.led := by
  have r1 := layNew_ris D.2.2 D.1 k v r
  have l1 := layNew_led D.2.2 D.1 k v
  have p := plainOff (t := (layNew D.2.2 D.1 k v).2.1)
  have q := tail_place (ep := D.2.1) (es := (layNew D.2.2 D.1 k v).1) (wd := (layNew D.2.2 D.1 k v).2.2.1) (t := if (layNew D.2.2 D.1 k v).2.1.plain = true then { (layNew D.2.2 D.1 k v).2.1 with plain := false } else (layNew D.2.2 D.1 k v).2.1) (by rw [p.1]; exact r1)
  exact ⟨q.1, q.2.trans (p.2.trans l1)⟩
theorem setTx_new {h : Heap} {a : Addr} (ho : h.get? a = some { cls := .type "set", dict := none, data := .set #[] 0 (.fresh 0 0 (!w.params.followText "set-order")) }) : SetTx P w h a [] :=
  ⟨(#[], 0, .fresh 0 0 (!w.params.followText "set-order")), ho, TxOk.nil (by rfl), List.nodup_nil, List.Pairwise.nil, by
    show _ ∨ (!w.params.followText "set-order") = true
    cases w.params.followText "set-order" with
    | false => exact .inr rfl
    | true => exact .inl rfl⟩
end
section
variable {P : Program} {w : World} {A : Around} {E : Value → Shared → Prop} {s : Shared}
/-- a text that is there already -/
theorem add_there {a : Addr} {D : SD} {l : List Str} {x : Str} {u : Tok} {Q : Bool → Shared → Prop} (ho : s.heap.get? a = some (sObj "set" D)) (F : TxOk P w D l) (hx : x ∈ l) (hb : l.length < scanBound) (hQ : Q false s) :
    wpAny (model P w) A (setAddHashed a (.str x u) (hashStr w x)) Q E s := by
  obtain ⟨es, ep, t⟩ := D
  have hd : (sObj "set" (es, ep, t)).data = .set es ep t := rfl
  have hs : es.size < scanBound := by
    have e : es.size = l.length := F.sz
    omega
  obtain ⟨j, hj⟩ : ∃ j, List.findIdx? (fun e => (strKind P w).is x e.2) es.toList = some j := by
    cases q : List.findIdx? (fun e => (strKind P w).is x e.2) es.toList with
    | some j => exact ⟨j, rfl⟩
    | none =>
      obtain ⟨e, he, z⟩ := (F.mem x).mp hx
      have c := List.findIdx?_eq_none_iff.mp q e he
      rw [z] at c
      cases c
  unfold setAddHashed setAddHashedIn
  refine wpAny_holding (wpAny_bind (wpAny_setState_of ho hd F.fit ?_))
  dsimp only
  rw [byScan_of rfl hs F.el]
  simp only [↓reduceIte]
  unfold setAddByScan
  refine wpAny_bind (wpAny_bind (wpAny_rule (wpAny_bind (wpAny_setScan_of (is_str x u) ho hd F.fit F.el ?_))))
  rw [hj]
  exact wpAny_pure (wpAny_pure hQ)
/-- one more text -/
theorem add_one {a : Addr} {l : List Str} {x : Str} {u : Tok} {Q : Bool → Shared → Prop} (S : SetTx P w s.heap a l) (hb : l.length + 1 < scanBound)
    (hQ : ∀ b h' l', Heap.SameBut a s.heap h' → SetTx P w h' a l' → (∀ y, y ∈ l' ↔ y = x ∨ y ∈ l) → l'.length ≤ l.length + 1 → Q b { s with heap := h' }) : wpAny (model P w) A (setAddHashed a (.str x u) (hashStr w x)) Q E s := by
  obtain ⟨D, ho, F, nd, r, ld⟩ := id S
  by_cases hx : x ∈ l
  · exact add_there ho F hx (by omega) (hQ false s.heap l (Heap.SameBut.refl a _) S (fun y => ⟨.inr, fun z => z.elim (fun e => e ▸ hx) id⟩) (Nat.le_succ _))
  · refine add_x ho F hx hb (hQ true _ (x :: l) (Heap.SameBut.update ..) ⟨addTx (hashStr w x) (.str x u) D, get_upd _ ho rfl, add_ok u F, List.nodup_cons.mpr ⟨hx, nd⟩, (add_place r).1, ld.imp id fun z => (add_place r).2.trans z⟩ (fun y => List.mem_cons) (by simp))

theorem loop_tx {R : Result → Shared → Prop} {I S : Addr} {fp wr : List Addr} {G : Array GenState → Array GenState → Prop} {n : Nat} {Pv : Nat → Value → Prop} {St : Nat → Shared → Prop}
    (W : WalksS P w A.in1 I fp wr G n Pv St) (hS : S ∉ fp) {ws : List Str} (hn : n = ws.length) (hb : ws.length + 1 < scanBound) (hv : ∀ i v, Pv i v → ∃ x t, ws[i]? = some x ∧ v = .str x t)
    (hR : ∀ s0 s' l, Moved (S :: wr) G s0 s' → SetTx P w s'.heap S l → (∀ y, y ∈ l ↔ y ∈ ws) → l.length ≤ ws.length → s0 = s → R (.ok (.ret .none)) s') :
    ∀ (m i : Nat) (s1 : Shared) (l : List Str), m + i = n → St i s1 → Moved (S :: wr) G s s1 → SetTx P w s1.heap S l → (∀ y, y ∈ l ↔ y ∈ ws.take i) → l.length ≤ i →
      codeAny (model P w) A (.builtin "set.update.loop" ⟨[.ref S, .ref I], []⟩) R s1 := by
  have out : S ∉ wr := fun z => hS (W.sub _ z)
  have more : ∀ b ∈ wr, b ∈ S :: wr := fun b z => List.mem_cons_of_mem _ z
  intro m
  induction m with
  | zero =>
    intro i s1 l hm st mv hs hl hz
    have e : i = n := by omega
    rw [e] at st hl hz
    refine codeAny_builtin PyProof.Rows.F.entry_set_update_loop ?_
    rw [Around.under_plainId PyProof.Rows.F.plain_set_update_loop _]
    refine wpAny_bind (m := pyNext (.ref I)) (W.done s1 _ _ st fun s2 mv2 => ?_)
    rw [List.take_of_length_le (Nat.le_of_eq hn.symm)] at hl
    exact wpAny_pure (hR s s2 l (mv.trans W.gtrans (mv2.mono more)) (hs.keep fun o z => mv2.heap S o out z) hl (by omega) rfl)
  | succ m ih =>
    intro i s1 l hm st mv hs hl hz
    refine codeAny_builtin PyProof.Rows.F.entry_set_update_loop ?_
    rw [Around.under_plainId PyProof.Rows.F.plain_set_update_loop _]
    refine wpAny_bind (m := pyNext (.ref I)) (W.item i s1 _ _ (by omega) st fun v s2 pv st2 mv2 => ?_)
    obtain ⟨x, t, hx, rfl⟩ := hv i v pv
    refine wpAny_bind (m := holding [Value.str x t] (setAdd S (.str x t))) (wpAny_holding ?_)
    unfold setAdd
    refine wpAny_holding (wpAny_bind ((strKind P w).pyHash (k := x) (is_str x t) ?_))
    have hs2 : SetTx P w s2.heap S l := hs.keep fun o z => mv2.heap S o out z
    refine add_one (s := { s2 with toks := s2.toks + 1 }) hs2 (by omega) fun b h' l' sb hs3 hl' hz' => ?_
    refine wpAny_pure ⟨plainId_quiet PyProof.Rows.F.plain_set_update_loop _, ih (i + 1) _ l' (by omega) (W.frame _ s2 _ _ st2 (Nat.le_succ _) fun b hb' o z => ?_) ?_ hs3 (fun y => ?_) (by omega)⟩
    · rw [sb.2 b fun z' => hS (z' ▸ hb')]
      exact z
    · refine mv.trans W.gtrans ((mv2.mono more).then_heap (Nat.le_succ _) fun b o hb' z => ?_)
      rw [sb.2 b fun z' => hb' (by rw [z']; exact List.mem_cons_self)]
      exact z
    · rw [hl' y, List.take_add_one, hx, List.mem_append, hl y]
      simp only [Option.toList_some, List.mem_singleton]
      exact Or.comm
end
end WSt

set_option maxHeartbeats 6400000
/-! set(t), t a tuple of texts; len(set(t)), sorted(set(t)). -/
namespace WSt
open PySem PySem.Spec PyProof.Rows L2 PySem.Froz
section
variable {P : Program} {w : World} {A : Around} {E : Value → Shared → Prop} {s : Shared}
abbrev emptyO (w : World) : Obj := { cls := .type "set", dict := none, data := .set #[] 0 (.fresh 0 0 (!w.params.followText "set-order")) }
/-- what a filled set is, in the words of its heap -/
def Filled (P : Program) (w : World) (s : Shared) (ws : List Str) (h' : Heap) : Prop :=
  (∃ l, SetTx P w h' s.heap.objs.size l ∧ (∀ y, y ∈ l ↔ y ∈ ws) ∧ l.length ≤ ws.length) ∧ ∀ b o, s.heap.get? b = some o → h'.get? b = some o
theorem fill_tx {t : Addr} {items : Array Value} {ws : List Str} (hh : A.handled = none) (ht : s.heap.IsTuple t items) (hi : StrsAre items.toList ws) (hb : ws.length + 1 < scanBound) {B : Around} (hB : B = A.in1.in1.in1) :
    ∀ (R : Result → Shared → Prop), (∀ h' tk, Filled P w s ws h' → R (.ok (.ret .none)) { s with heap := h', toks := tk }) →
      codeAny (model P w) A.in1.in1 (.builtin "set.update.loop" ⟨[.ref s.heap.objs.size, .ref (s.heap.push (emptyO w)).objs.size], []⟩) R
        { s with heap := (s.heap.push (emptyO w)).push { cls := .type "tuple_iterator", data := .fields #[.ref t, .int 0 0] } } := by
  intro R hR
  obtain ⟨o, ho, oc, on, od⟩ := id ht
  have lt : t < s.heap.objs.size := Heap.lt_size ho
  have z1 : (s.heap.push (emptyO w)).objs.size = s.heap.objs.size + 1 := Heap.size_push ..
  have ht1 : (s.heap.push (emptyO w)).IsTuple t items := ht.push _
  have hne : t ≠ (s.heap.push (emptyO w)).objs.size := by
    rw [z1]; exact Nat.ne_of_lt (Nat.lt_succ_of_lt lt)
  have hSf : s.heap.objs.size ∉ [(s.heap.push (emptyO w)).objs.size, t] := by
    rw [z1]
    simp only [List.mem_cons, List.not_mem_nil, or_false, not_or]
    exact ⟨Nat.ne_of_lt (Nat.lt_succ_self _), Nat.ne_of_gt lt⟩
  have hsz : items.size = ws.length := by
    have q := StrsAre.length hi
    rw [Array.length_toList] at q
    exact q
  have hv : ∀ (i : Nat) (v : Value), items[i]? = some v → ∃ x u, ws[i]? = some x ∧ v = .str x u := fun i v e => by
    have hlt : i < ws.length := by rw [← hsz]; exact (Array.getElem?_eq_some_iff.mp e).1
    obtain ⟨u, q⟩ := SS.strs_at hi i v (by rw [Array.getElem?_toList]; exact e)
    refine ⟨ws[i], u, List.getElem?_eq_getElem hlt, ?_⟩
    rw [q, List.getD_eq_getElem?_getD, List.getElem?_eq_getElem hlt] <;> rfl
  have hget : ((s.heap.push (emptyO w)).push { cls := .type "tuple_iterator", data := .fields #[.ref t, .int 0 0] }).get? s.heap.objs.size = some (emptyO w) := Heap.get?_push_of_some _ (Heap.get?_push_size _ rfl)
  refine loop_tx (P := P) (A := A.in1.in1) ((Walks.tuple (A := A.in1.in1.in1) (by simp [hh]) (s.heap.push (emptyO w)).objs.size t hne items).toS) hSf hsz hb hv (fun s0 s' l mv hs hl hz e => ?_) items.size 0 _ [] (by omega)
    ⟨⟨_, Heap.get?_push_size _ rfl, rfl, rfl⟩, ht1.push _⟩ (Moved.refl fun _ => rfl) (setTx_new hget) (fun y => by simp) (Nat.le_refl _)
  subst e
  obtain ⟨h', g', d', tk', os'⟩ := s'
  have eg : g' = s.gens := mv.gens
  have ed : d' = s.drawn := mv.drawn
  have eo : os' = s.os := mv.os
  subst eg; subst ed; subst eo
  refine hR h' tk' ⟨⟨l, hs, hl, hz⟩, fun b o e => mv.heap b o (fun z => ?_) (Heap.get?_push_of_some _ (Heap.get?_push_of_some _ e))⟩
  have hb0 : b < s.heap.objs.size := Heap.lt_size e
  rcases List.mem_cons.mp z with z | z
  · exact Nat.ne_of_lt hb0 z
  · have z2 := List.mem_singleton.mp z
    have : b < (s.heap.push (emptyO w)).objs.size := by rw [z1]; exact Nat.lt_succ_of_lt hb0
    exact Nat.ne_of_lt this z2

theorem call_set_tx {t : Addr} {items : Array Value} {ws : List Str} {Q : Value → Shared → Prop} (hh : A.handled = none) (ht : s.heap.IsTuple t items) (hi : StrsAre items.toList ws) (hb : ws.length + 1 < scanBound)
    (h : ∀ (h' : Heap) (tk : Nat), Filled P w s ws h' → Q (.ref s.heap.objs.size) { s with heap := h', toks := tk }) : wpAny (model P w) A (call (.type "set") [.ref t]) Q E s := by
  obtain ⟨c, tl, hmro⟩ := PySem.F.called_set.mro
  have a1 := PySem.F.called_set.made
  have a2 := PySem.F.called_set.sub
  refine wpAny_call (codeAny_of_tree ?_)
  show wpAny _ _ (callAny (.type "set") _) _ _ _
  refine wpAny_pure ⟨Code.quiet_builtin _ (by decide +kernel), codeAny_builtin PySem.F.entry_type_call ?_⟩
  rw [Around.under_plain (weight_type_call_type "set" [.ref t] []) rfl]
  have a3 := PySem.F.called_set.notType
  have a4 := PySem.F.called_set.canCreate
  have a5 := PySem.F.typeCall_set_1 (.ref t)
  repeat (any_goals (first | assumption | wp_step))
  refine codeAny_mono (code_set_led1 (.ref t) (E := E) (Q₁ := fun u s1 => u = .ref s.heap.objs.size ∧ s1 = { s with heap := s.heap.push (emptyO w) }) ⟨rfl, rfl⟩) fun r s1 hr => ?_
  cases r with
  | error e => exact hr
  | ok fl =>
    cases fl with
    | ret u =>
      obtain ⟨rfl, rfl⟩ := hr
      have hT : Shared.TypeIs { s with heap := s.heap.push (emptyO w) } (.ref s.heap.objs.size) "set" := ⟨_, Heap.get?_push_size _ rfl, rfl⟩
      have b1 := PySem.F.called_set.init.lookup
      have b2 := PySem.F.called_set.init.bind (.ref s.heap.objs.size)
      repeat (any_goals (first | assumption | wp_step))
      refine codeAny_mono (codeAny_call_builtin (R := wants (fun r s2 => r = .none ∧ ∃ h' tk, s2 = { s with heap := h', toks := tk } ∧ Filled P w s ws h') E) PySem.F.called_set.init.plain PySem.F.entry_set_init (check_set_init_1 hT ?_)) fun r2 s2 hr2 => ?_
      · obtain ⟨⟨oc, odi, oda, osl⟩, hol, hcl, nl, hdl⟩ := id ht
        simp only at hcl hdl
        subst hcl; subst hdl
        have hol' : (s.heap.push (emptyO w)).get? t = some { cls := .type "tuple", dict := odi, data := .seq items nl, slots := osl } := Heap.get?_push_of_some _ hol
        have c1 := PySem.F.sub_tuple_set
        have c2 := PySem.F.sub_tuple_frozenset
        have c3 : (Value.type "tuple" == Value.type "dict") = false := by decide
        have ht1 : (s.heap.push (emptyO w)).IsTuple t items := ht.push _
        unfold Builtin.«set.__init__» noKeywords Builtin.Frozenset.updateFrom
        generalize hPI : pyIter = PI
        wp_walk
        subst hPI
        refine wpAny_pyIter_tuple ht1 ?_
        refine wpAny_bind (wpAny_runValue ?_)
        refine fill_tx hh ht hi hb rfl _ fun h' tk hf => ?_
        show wpAny _ _ _ _ _ _
        refine wpAny_pure ?_
        show wpAny _ _ (ret Value.none) _ _ _
        exact wpAny_pure ⟨rfl, h', tk, rfl, hf⟩
      · cases r2 with
        | error e => exact hr2
        | ok fl2 =>
          cases fl2 with
          | ret r =>
            obtain ⟨rfl, h', tk, rfl, hf⟩ := hr2
            repeat (any_goals (first | assumption | wp_step))
            exact h h' tk hf
          | _ => exact hr2.elim
    | _ => exact hr.elim

theorem perm_of {α : Type} [BEq α] [LawfulBEq α] : ∀ (l m : List α), l.Nodup → m.length = l.length → (∀ x ∈ l, x ∈ m) → m.Perm l
  | [], m, _, hl, _ => by
    rw [List.length_eq_zero_iff.mp hl]
  | x :: l, m, nd, hl, sub => by
    obtain ⟨n1, n2⟩ := List.nodup_cons.mp nd
    have hx : x ∈ m := sub x List.mem_cons_self
    have p := List.perm_cons_erase hx
    have z : (m.erase x).length = l.length := by
      have q := p.length_eq
      rw [List.length_cons] at q hl
      omega
    refine p.trans (List.Perm.cons x (perm_of l (m.erase x) n2 z fun y hy => ?_))
    have hne : y ≠ x := fun e => n1 (e ▸ hy)
    exact (List.mem_erase_of_ne hne).mpr (sub y (List.mem_cons_of_mem _ hy))
def txt (v : Value) : Str := match v with
  | .str x _ => x
  | _ => Str.empty
theorem txt_is {k : Str} {v : Value} (h : (strKind P w).is k v = true) : ∃ t, v = .str k t := by
  have h : Value.isStrOf k v = true := h
  exact Value.isStrOf_shape h
theorem strs_txt : ∀ {vs : List Value}, (∀ v ∈ vs, ∃ k t, v = Value.str k t) → StrsAre vs (vs.map txt)
  | [], _ => .nil
  | v :: vs, h => by
    obtain ⟨k, t, rfl⟩ := h v List.mem_cons_self
    exact .cons k t (strs_txt fun u hu => h u (List.mem_cons_of_mem _ hu))
theorem texts_of {es : Array (Int × Value)} {ep : Nat} {t : SetTable} {l : List Str} (F : TxOk P w (es, ep, t) l) (nd : l.Nodup) {vs : List Value} (pm : vs.Perm (es.toList.map (·.2))) : ∃ ys, StrsAre vs ys ∧ ys.Perm l := by
  have str : ∀ v ∈ vs, ∃ k t, v = Value.str k t := fun v hv => by
    obtain ⟨e, he, q⟩ := List.mem_map.mp (pm.mem_iff.mp hv)
    obtain ⟨⟨k, hk, _⟩, _⟩ := F.el e he
    obtain ⟨t, z⟩ := txt_is hk
    exact ⟨k, t, by rw [← q]; exact z⟩
  refine ⟨vs.map txt, strs_txt str, perm_of l _ nd ?_ fun x hx => ?_⟩
  · rw [List.length_map, pm.length_eq, List.length_map, Array.length_toList]
    exact F.sz
  · obtain ⟨e, he, q⟩ := (F.mem x).mp hx
    obtain ⟨t, z⟩ := txt_is q
    exact List.mem_map.mpr ⟨e.2, pm.mem_iff.mpr (List.mem_map.mpr ⟨e, he, rfl⟩), by rw [z]; rfl⟩
/-- sorted(s) of such a set -/
theorem sorted_tx {a : Addr} {l : List Str} {Q : Value → Shared → Prop} (S : SetTx P w s.heap a l) (hh : A.handled = none) (h64 : l.length < 64)
    (hQ : ∀ s' p (out : Array Value) (c : Nat) (ys : List Str), (∀ b o, s.heap.get? b = some o → s'.heap.get? b = some o) → s'.gens = s.gens → s'.os = s.os → s.heap.objs.size ≤ p →
      s'.heap.get? p = some (seqObj "list" out c) → StrsAre out.toList ys → ys.Perm l → Q (.ref p) s') :
    wpAny (model P w) A (call (.builtin "sorted") [.ref a]) Q E s := by
  obtain ⟨D, ho, F, nd, r, ld⟩ := S
  obtain ⟨es, ep, t⟩ := D
  have hsz : es.size = l.length := F.sz
  have hsb : es.size < scanBound := by
    have e : scanBound = 4096 := rfl
    omega
  refine Calls.call_function_entry kind_sorted plain_sorted entry_sorted (args_sorted1 _) ?_
  unfold Builtin.«sorted»
  refine wpAny_bind (m := checkCount "sorted" 1 1 _) (wpAny_pure ?_)
  refine wpAny_bind (collect_set (A := A.in1) hh ⟨_, ho, rfl, rfl⟩ F.fit hsb r ld fun s1 vs k1 hz g1 o1 pm => ?_)
  obtain ⟨ys0, hS, hp⟩ := texts_of F nd pm
  have hvl : vs.length = l.length := by rw [pm.length_eq, List.length_map, Array.length_toList]; exact hsz
  refine wpAny_bind (wpAny_newList ?_ (by rw [hvl, sizeLine_eq]; omega))
  have hoL : (s1.heap.push (seqObj "list" vs.toArray 0)).get? s1.heap.objs.size = some (seqObj "list" vs.toArray 0) := Heap.get?_push_size _ rfl
  refine wpAny_bind (wpAny_holding (wpAny_call_entry slot_list_sort ⟨_, hoL, rfl⟩ entry_list_sort (list_sort_treeK strKind_oneLt hoL hS.keysOf (fun v₁ v₂ rest e => keyKind_strs (by rw [← e]; exact hS)) (by rw [hvl]; exact h64) fun st' a1 a2 => ⟨_, rfl, ?_⟩) (args_list_sort _)))
  obtain ⟨ys, e1, e2, e3⟩ := sorted_out_str hS a1 a2
  obtain ⟨c, hc⟩ := sortedHeap_at (vs := vs) (out := (arrOf st').map (·.2)) hoL
  refine wpAny_pure ⟨_, rfl, hQ _ s1.heap.objs.size _ c ys (fun b u e => ?_) g1 o1 hz hc e1 (e2.trans hp)⟩
  have q := k1 b u e
  have hlt := Heap.lt_size q
  show (sortedHeap (s1.heap.push (seqObj "list" vs.toArray 0)) s1.heap.objs.size vs _).get? b = some u
  rw [sortedHeap_old (Nat.ne_of_lt hlt) (by rw [size_push']; exact Nat.lt_succ_of_lt hlt)]
  exact Heap.get?_push_of_some _ q
end
end WSt

set_option maxHeartbeats 4000000
/-! len(set(t)), sorted(set(t)), t a tuple of texts, as expressions. -/
namespace WSt
open PySem PySem.Spec PyProof.Rows L2 PySem.Froz
section
variable {X : Cx}
def tLenTx (K : PySem.W.Frag) (ta : TE) : TE := fun σ H Q => ta σ H fun x H1 => ∃ (t : Addr) (ws : List Str), x = .ref t ∧ SqT K H1 t (ws.map V.str) ∧ ws.length ≤ 1000 ∧ ∀ l : List Str, l.Nodup → (∀ y, y ∈ l ↔ y ∈ ws) → Q (.int (l.length : Nat)) H1
def tSortTx (K : PySem.W.Frag) (ta : TE) : TE := fun σ H Q => ta σ H fun x H1 => ∃ (t : Addr) (ws : List Str), x = .ref t ∧ SqT K H1 t (ws.map V.str) ∧ ws.length < 64 ∧ ∀ (l : List Str) (p : Addr), l.Nodup → (∀ y, y ∈ l ↔ y ∈ ws) → H1 p = none → Q (.ref p) (upd H1 p (.lst (l.map V.str)))
theorem boundS : scanBound = 4096 := rfl
theorem pe_lenTx {a : Expr} {ta : TE} {p p2 q pos : Pos} (hc : X.calm = true) (hg : Gl X "len") (hm : X.mg "len" = none) (hg2 : Gl X "set") (hm2 : X.mg "set" = none) (ha : PE X a ta)
    (na : starEach [a] X.env = (false, eval a X.env) :: starEach [] X.env := by rfl) : PE X (.Call (.Name "len" p) [.Call (.Name "set" p2) [a] [] q] [] pos) (tLenTx X.K ta) := by
  refine ⟨fun pins s σ H Q I h => ?_⟩
  refine Call_ (ld_blt I hg hm boot_len ?_)
  refine PyProof.Rows.callWith_builtin1 (PyProof.Rows.args_cons ?_ rfl) rfl rfl
  refine Call_ (ld_blt I hg2 hm2 boot_set ?_)
  refine PyProof.Rows.callWith_type1 (PyProof.Rows.args_cons (thn (ha.run pins s σ H _ I h) fun v s1 ⟨x, H1, I1, r1, q1⟩ => PyProof.Rows.args_nil ?_) na) na rfl
  obtain ⟨t, ws, rfl, hq, hl, q1⟩ := q1
  cases r1
  obtain ⟨its, r, pl, hz⟩ := I1.tuple hq
  refine call_set_tx (I1.ok.hd hc) pl (ws := ws) (by simpa using strsAre_of r) (by rw [boundS]; omega) fun h' tk ⟨⟨l, S, e1, e2⟩, hk⟩ => ?_
  refine PyProof.Rows.args_nil ?_
  have I2 : Inv X pins σ H1 { s1 with heap := h', toks := tk } := I1.kept fun b o e => hk b o e
  obtain ⟨D, ho, F, nd, _, _⟩ := S
  have hsz : D.1.size = l.length := F.sz
  refine call_len_set ho ⟨rfl, rfl, rfl⟩ rfl F.fit (by rw [hsz]; omega) ⟨.int (l.length : Nat), H1, I2.tok _, ⟨_, by rw [hsz]⟩, q1 l nd e1⟩
theorem pe_sortTx {a : Expr} {ta : TE} {p p2 q pos : Pos} (hc : X.calm = true) (hg : Gl X "sorted") (hm : X.mg "sorted" = none) (hg2 : Gl X "set") (hm2 : X.mg "set" = none) (ha : PE X a ta) (hbt : bootBuiltins "sorted" = some (.builtin "sorted") := by rfl)
    (na : starEach [a] X.env = (false, eval a X.env) :: starEach [] X.env := by rfl) : PE X (.Call (.Name "sorted" p) [.Call (.Name "set" p2) [a] [] q] [] pos) (tSortTx X.K ta) := by
  refine ⟨fun pins s σ H Q I h => ?_⟩
  refine Call_ (ld_blt I hg hm hbt ?_)
  refine PyProof.Rows.callWith_builtin1 (PyProof.Rows.args_cons ?_ rfl) rfl rfl
  refine Call_ (ld_blt I hg2 hm2 boot_set ?_)
  refine PyProof.Rows.callWith_type1 (PyProof.Rows.args_cons (thn (ha.run pins s σ H _ I h) fun v s1 ⟨x, H1, I1, r1, q1⟩ => PyProof.Rows.args_nil ?_) na) na rfl
  obtain ⟨t, ws, rfl, hq, hl, q1⟩ := q1
  cases r1
  obtain ⟨its, r, pl, hz⟩ := I1.tuple hq
  refine call_set_tx (I1.ok.hd hc) pl (ws := ws) (by simpa using strsAre_of r) (by rw [boundS]; omega) fun h' tk ⟨⟨l, S, e1, e2⟩, hk⟩ => ?_
  refine PyProof.Rows.args_nil ?_
  have I2 : Inv X pins σ H1 { s1 with heap := h', toks := tk } := I1.kept fun b o e => hk b o e
  have nd : l.Nodup := by
    obtain ⟨_, _, _, nd, _⟩ := S
    exact nd
  refine sorted_tx S (I2.ok.hd hc) (by omega) fun s' p out c ys k g o hp hs hS pm => ?_
  have hlen : (ys.map V.str).length ≤ sizeLine := by
    rw [List.length_map, pm.length_eq, sizeLine_eq]
    omega
  have hn : H1 p = none := I2.hok.fresh hp
  have J : Inv X pins σ (upd H1 p (.lst (ys.map V.str))) s' :=
    I2.call' (ch := []) o (Un.laid k hp hn) (I2.hok.laid k hp ⟨hlen, out.toList, c, vals_of_strs hS, hs⟩) (by rw [g]; exact I2.bare) (fun _ z => nomatch z)
  exact ⟨.ref p, _, J, rfl, q1 ys p (pm.nodup_iff.mpr nd) (fun y => (pm.mem_iff).trans (e1 y)) hn⟩
end
end WSt

set_option maxHeartbeats 4000000
/-! A tuple turned round: t[::-1]. -/
namespace WSt
open PySem PySem.Spec PyProof.Rows L2 HT
section
variable {prog : Program} {w : World} {A : Around} {E : Value → Shared → Prop} {s : Shared}
theorem adjust_back (n : Nat) : Builtin.Slice.sliceAdjust none none (-1) (n : Int) = ((n : Int) - 1, -1) := by
  have h : (-1 : Int) < 0 := by decide
  unfold Builtin.Slice.sliceAdjust
  simp only [h, if_true]
theorem places_back (n : Nat) : Builtin.Slice.slicePlaces ((n : Int) - 1) (-1) (-1) = n := by
  have h : ¬ ((-1 : Int) > 0) := by decide
  unfold Builtin.Slice.slicePlaces
  simp only [h, if_false]
  split
  · have e : (-(-1) : Int) = 1 := by decide
    rw [e, Int.ediv_one]
    omega
  · omega
theorem applied_back {sl : Addr} {vl vu vs : Value} {n : Nat} {Q : Int × Int × Nat → Shared → Prop} (hs : s.heap.IsSliceOf sl vl vu vs) (pl : IsPart vl none) (pu : IsPart vu none) (ps : IsPart vs (some (-1)))
    (h : Q ((n : Int) - 1, -1, n) s) : wpAny (model prog w) A (Builtin.Slice.sliceApplied (.ref sl) (pure (n : Int))) Q E s := by
  obtain ⟨os, hos, hcs, hds⟩ := id hs
  unfold Builtin.Slice.sliceApplied Builtin.Slice.sliceFields
  refine wpAny_bind (wpAny_bind (wpAny_field hos hds (x := vl) rfl (wpAny_bind (wpAny_field hos hds (x := vu) rfl (wpAny_bind (wpAny_field hos hds (x := vs) rfl (wpAny_pure ?_)))))))
  refine wpAny_bind (slicePart_ ps ?_)
  show wpAny _ _ (if ((-1 : Int) == 0) = true then _ else _) _ _ s
  rw [if_neg (by decide)]
  refine wpAny_bind (slicePart_ pl (wpAny_bind (slicePart_ pu (wpAny_bind (wpAny_pure ?_)))))
  show wpAny _ _ (match Builtin.Slice.sliceAdjust none none (-1) (n : Int) with | (lo, hi) => pure (lo, (-1 : Int), Builtin.Slice.slicePlaces lo hi (-1))) _ _ s
  rw [adjust_back]
  show wpAny _ _ (pure ((n : Int) - 1, (-1 : Int), Builtin.Slice.slicePlaces ((n : Int) - 1) (-1) (-1))) _ _ s
  rw [places_back]
  exact wpAny_pure h
theorem fm_all {α β : Type} {f : α → Option β} {g : α → β} : ∀ (l : List α), (∀ k ∈ l, f k = some (g k)) → l.filterMap f = l.map g
  | [], _ => rfl
  | x :: l, h => by
    rw [List.filterMap_cons, h x List.mem_cons_self, List.map_cons, fm_all l fun k hk => h k (List.mem_cons_of_mem _ hk)]
theorem pick_back (xs : Array Value) : ((List.range xs.size).filterMap fun (k : Nat) => xs[((xs.size : Int) - 1 + (k : Int) * (-1)).toNat]?).toArray = xs.toList.reverse.toArray := by
  congr 1
  rw [fm_all (g := fun k => (xs.toList.reverse[k]?).getD Value.none) _ fun k hk => ?_]
  · apply List.ext_getElem?
    intro i
    by_cases hi : i < xs.size
    · have hl : i < xs.toList.reverse.length := by rw [List.length_reverse, Array.length_toList]; exact hi
      rw [List.getElem?_map, List.getElem?_range hi, List.getElem?_eq_getElem hl, Option.map_some, List.getElem?_eq_getElem hl]
      rfl
    · rw [List.getElem?_eq_none (by rw [List.length_map, List.length_range]; omega), List.getElem?_eq_none (by rw [List.length_reverse, Array.length_toList]; omega)]
  · have hk := List.mem_range.mp hk
    have z : ((xs.size : Int) - 1 + (k : Int) * (-1)).toNat = xs.size - 1 - k := by omega
    have hl : xs.size - 1 - k < xs.size := by omega
    rw [z, List.getElem?_reverse (by rw [Array.length_toList]; exact hk), Array.length_toList, Array.getElem?_toList, Array.getElem?_eq_getElem hl]
    rfl
theorem item_back {t sl : Addr} {items : Array Value} {vl vu vs : Value} {Q : Value → Shared → Prop} (ht : IsTup s.heap t items) (hs : s.heap.IsSliceOf sl vl vu vs) (pl : IsPart vl none) (pu : IsPart vu none) (ps : IsPart vs (some (-1)))
    (h : Q (.ref s.heap.objs.size) { s with heap := s.heap.push { cls := .type "tuple", data := .seq items.toList.reverse.toArray } }) (hsz : items.size ≤ sizeLine) : wpAny (model prog w) A (getItem (.ref t) (.ref sl)) Q E s := by
  have hk : sizeOk (.seq items.toList.reverse.toArray) := by
    show items.toList.reverse.toArray.size ≤ sizeLine
    rw [List.size_toArray, List.length_reverse, Array.length_toList]
    exact hsz
  obtain ⟨os, hos, hcs, hds⟩ := id hs
  have hTs : s.TypeIs (.ref sl) "slice" := ⟨os, hos, hcs⟩
  unfold getItem
  try with_reducible refine wpAny_holding ?_
  first | refine wpAny_bind (wpAny_pure ?_) | skip
  refine wpAny_bind (wpAny_sequenceKey ht.typeIs (by decide) ?_)
  refine wpAny_bind (wpAny_callSpecial?_slot (name := Str.ofString "__getitem__") ht.typeIs PyProof.Rows.slot_tuple_getitem (wpAny_call_entry PyProof.Rows.slot_tuple_getitem ht.typeIs entry_tuple_getitem ?_ (args_tuple_getitem _ _)))
  show wpAny _ _ (Builtin.Tuple.tupleItemsOf (.ref t) >>= _) _ _ s
  refine wpAny_bind (tupleItemsOf_ ht (wpAny_bind (wpAny_typeOf hTs ?_)))
  rw [if_pos (by decide)]
  refine wpAny_bind (applied_back hs pl pu ps ?_)
  show wpAny _ _ (if (((items.size : Int) - 1) == 0 && (-1 : Int) == 1 && items.size == items.size) = true then _ else _) _ _ s
  rw [if_neg (by
    have e : ((-1 : Int) == 1) = false := by decide
    rw [e, Bool.and_false, Bool.false_and]
    exact Bool.false_ne_true), pick_back]
  first
    | exact wpAny_bind (m := Builtin.Tuple.tupleExact _) (wpAny_newObj_type (wpAny_pure ⟨_, rfl, wpAny_pure h⟩) hk)
    | exact wpAny_bind (m := Builtin.Tuple.tupleExact _) (wpAny_newObj_type (wpAny_bind (wpAny_pure (wpAny_pure ⟨_, rfl, wpAny_pure h⟩))) hk)
    | exact wpAny_bind (wpAny_bind (m := Builtin.Tuple.tupleExact _) (wpAny_newObj_type (wpAny_pure (wpAny_pure ⟨_, rfl, wpAny_pure h⟩)) hk))
    | exact wpAny_bind (wpAny_bind (m := Builtin.Tuple.tupleExact _) (wpAny_newObj_type (wpAny_pure ⟨_, rfl, wpAny_pure h⟩) hk))
end
section
variable {X : Cx}
def tBackT (K : PySem.W.Frag) (te : TE) : TE := fun σ H Q => te σ H fun x H1 => ∃ a xs, x = .ref a ∧ SqT K H1 a xs ∧ ∀ p, H1 p = none → Q (.ref p) (upd H1 p (.tup xs.reverse))
theorem pe_backT {e : Expr} {te : TE} {k : Nat} {p1 p2 p3 pos : Pos} (he : PE X e te) : PE X (.Subscript e (.Slice none none (some (.UnaryOp .USub (.Constant (.int 1) k p1) p2)) p3) pos) (tBackT X.K te) := by
  refine ⟨fun pins s σ H Q I h => ?_⟩
  refine Subscript_ (thn (he.run pins s σ H _ I h) fun v s1 ⟨x, H1, I1, r1, q1⟩ => ?_)
  obtain ⟨a, xs, ex, hx, q⟩ := q1
  subst ex
  cases r1
  have st1 : PO X (some (.UnaryOp .USub (.Constant (.int 1) k p1) p2)) (tPart (tUn (rU fun i => .int (-i)) (tC (.int 1)))) := po_some (pe_un un_neg pe_int)
  refine wpAny_Slice (thn (po_none.run pins s1 σ H1 (fun o H2 => o = none ∧ H2 = H1) I1 ⟨rfl, rfl⟩) fun vl s2 ⟨l, H2, I2, pl, el, e2⟩ => ?_)
  subst el e2
  refine thn (po_none.run pins s2 σ H2 (fun o H3 => o = none ∧ H3 = H2) I2 ⟨rfl, rfl⟩) fun vu s3 ⟨u, H3, I3, pu, eu, e3⟩ => ?_
  subst eu e3
  refine thn (st1.run pins s3 σ H3 (fun o H4 => o = some (-1) ∧ H4 = H3) I3 ⟨1, rfl, -1, rfl, rfl, rfl⟩) fun vs s4 ⟨o, H4, I4, ps, eo, e4⟩ => ?_
  subst eo e4
  have I5 : Inv X pins σ H4 { s4 with heap := s4.heap.push { cls := .type "slice", data := .fields #[vl, vu, vs] } } := I4.kept (t' := s4.toks) fun b ob q => Heap.get?_push_of_some _ q
  obtain ⟨its, r, ht, hz⟩ := I5.tuple hx
  show wpAny (model X.prog X.w) X.A (subscriptTail e (.Slice none none (some (.UnaryOp .USub (.Constant (.int 1) k p1) p2)) p3) (.ref a) (.ref s4.heap.objs.size)) (EP X pins σ Q) X.xe { s4 with heap := s4.heap.push { cls := .type "slice", data := .fields #[vl, vu, vs] } }
  refine tail_any (ops := [.ref a, .ref s4.heap.objs.size]) ht.typeIs (PyProof.Rows.slot_tuple_getitem.lookup) ?_ (by with_unfolding_all rfl)
  refine item_back ht (Heap.IsSliceOf.new _ vl vu vs) pl pu ps ?_ (by rw [List.size_toArray, ← r.length]; exact hz)
  refine ⟨.ref _, _, I5.laid (t' := s4.toks) (o := .tup xs.reverse) (fun b ob q => Heap.get?_push_of_some _ q) (Nat.le_refl _) ?_, rfl, q _ (I5.hok.fresh (Nat.le_refl _))⟩
  exact ⟨by rw [List.length_reverse]; exact hz, _, by simpa using r.reverse, ⟨_, Heap.get?_push_size _ rfl, rfl, _, rfl⟩⟩
end
end WSt

set_option maxHeartbeats 4000000
/-! Over a def whose own code table grows: ExT; all(..) over a tuple told by its items' values. -/
namespace WGn
open PySem PySem.Spec PyProof.Rows L2 GenW Evl WM WL
/-- all that is told stays, but for the table at P, which is a table still -/
def ExT (P : Addr) (H H' : Hp) : Prop := (∀ b o, b ≠ P → H b = some o → H' b = some o) ∧ GxR.TabG H' P
section
variable {K : PySem.W.Frag} {P : Addr} {H H1 H2 H3 : Hp}
theorem tabG_ex (e : Ex H H1) (h : GxR.TabG H P) : GxR.TabG H1 P := by
  obtain ⟨ps, hp, t⟩ := h
  exact ⟨ps, e P _ hp, t⟩
theorem ExT.refl (h : GxR.TabG H P) : ExT P H H := ⟨fun _ _ _ e => e, h⟩
theorem ExT.of (h : GxR.TabG H P) (e : Ex H H1) : ExT P H H1 := ⟨fun b o _ z => e b o z, tabG_ex e h⟩
theorem ExT.trans (a : ExT P H H1) (b : ExT P H1 H2) : ExT P H H2 := ⟨fun x o n e => b.1 x o n (a.1 x o n e), b.2⟩
theorem ExT.ex (a : ExT P H H1) (e : Ex H1 H2) : ExT P H H2 := a.trans (ExT.of a.2 e)
theorem ExT.tab (t : GxR.Tabbed P H H1) : ExT P H H1 := ⟨fun b o n e => by rw [t.2 b n]; exact e, t.1⟩
theorem ne_tab {b : Addr} {o : HO} (h : GxR.TabG H P) (e : H b = some o) (n : ∀ ps, o ≠ .tbl ps) : b ≠ P := fun z => by
  obtain ⟨ps, hp, _⟩ := h
  rw [z, hp] at e
  exact n ps (Option.some.inj e).symm
theorem ExT.keep {b : Addr} {o : HO} (a : ExT P H H1) (h : GxR.TabG H P) (e : H b = some o) (n : ∀ ps, o ≠ .tbl ps) : H1 b = some o := a.1 b o (ne_tab h e n) e
theorem ExT.fresh {p : Addr} (a : ExT P H H1) (h : GxR.TabG H P) (n : H1 p = none) : H p = none := by
  cases e : H p with
  | none => rfl
  | some o =>
    by_cases z : p = P
    · obtain ⟨ps, hp, _⟩ := a.2
      rw [z, hp] at n
      cases n
    · rw [a.1 p o z e] at n
      cases n
theorem ExT.sqT {q : Addr} {xs : List V} (a : ExT P H H1) (h : GxR.TabG H P) (x : SqT K H q xs) : SqT K H1 q xs := by
  rcases x with (x | ⟨o, x⟩) | x
  · exact .inl (.inl (a.keep h x fun ps z => by cases z))
  · exact .inl (.inr ⟨o, a.keep h x fun ps z => by cases z⟩)
  · exact .inr x
theorem q_all {tl te : TE} {σ : L2.St} {Q : VK} {q : Addr} {xs : List V} {j : Nat} (tr : Nat → Bool) (h : Ev tl σ H (.ref q)) (hx : SqT K H q xs) (ht : GxR.TabG H P) (hw : ∀ x, wipe ((wipe σ [j]).set j (some x)) [j] = wipe σ [j])
    (he : ∀ (i : Nat) (x : V) H1, ExT P H H1 → xs[i]? = some x → Ev te ((wipe σ [j]).set j (some x)) H1 (.bl (tr i))) (k : ∀ H3, ExT P H H3 → Q (.bl ((List.range xs.length).all tr)) H3) :
    tAllG P (iTup K tl) (gName j) te [j] σ H Q := by
  refine h H (Ex.refl H) _ fun H1 e1 => ⟨q, rfl, ⟨xs, ex_t e1 hx⟩, tabG_ex e1 ht, fun H2 tb => ?_⟩
  have x2 : ExT P H H2 := (ExT.of ht e1).trans (ExT.tab tb)
  refine ⟨xs.length, tr, fun i Hh => i ≤ xs.length ∧ Ex H2 Hh, ⟨Nat.zero_le _, Ex.refl H2⟩, fun i Hh ⟨hi, e3⟩ => ?_, fun i Hh _ ⟨_, e3⟩ => k Hh (x2.ex e3)⟩
  have hq : SqT K Hh q xs := (x2.ex e3).sqT ht hx
  by_cases hlt : i < xs.length
  · refine .inr ⟨hlt, ⟨xs, xs[i], hq, List.getElem?_eq_getElem hlt⟩, fun y H7 ⟨e7, y7⟩ => ?_⟩
    subst e7
    exact ⟨hw y, he i y _ (x2.ex e3) (y7 xs hq) _ (Ex.refl _) _ fun H8 e8 => ⟨rfl, hlt, e3.trans e8⟩⟩
  · have e : i = xs.length := by omega
    exact .inl ⟨e, xs, hq, by omega⟩
end
end WGn

set_option maxHeartbeats 4000000
/-! Sets of tuples of texts: the search and the adding. -/
namespace WTs
open PySem PySem.Spec PyProof.Rows L2
abbrev TH (P : Program) (w : World) (k : List Str) : Int := tupleKeyHash (strKind P w) k
abbrev IsK (P : Program) (w : World) (h : Heap) (k : List Str) (a : Addr) : Prop := IsTupleKey (strKind P w) h k a
/-! ### the places that a search goes over -/
def pr (m : Nat) (h : Int) (c : Nat) : SetTable.Probe := nth m (runAt m (SetTable.bits h % (m + 1)) (SetTable.bits h)) c
theorem pr_j (m : Nat) (h : Int) (c : Nat) : (pr m h c).j = way m h c := rfl
theorem pr_on (m : Nat) (h : Int) (c q : Nat) : nth m (pr m h c) q = pr m h (c + q) := (nth_add m c _ q).symm
theorem pr_onj (m : Nat) (h : Int) (c q : Nat) : (nth m (pr m h c) q).j = way m h (c + q) := congrArg SetTable.Probe.j (pr_on m h c q)
theorem nth_dummy (m : Nat) : ∀ (n : Nat) (p : SetTable.Probe), p.dummy = none → (nth m p n).dummy = none
  | 0, _, e => e
  | n + 1, p, e => nth_dummy m n (adv m p) (by unfold adv; split <;> exact e)
section
variable {P : Program} {w : World} {A : Around} {E : Value → Shared → Prop} {s : Shared}
/-! ### what is asked of tuples of texts -/
theorem txts {k : List Str} {vs : List Value} (x : ItemsAre (strKind P w) k vs) : ∀ v ∈ vs, ∃ y t, v = Value.str y t := by
  induction x with
  | nil => exact fun v hv => nomatch hv
  | cons h1 _ ih =>
    obtain ⟨t, e⟩ := Value.isStrOf_shape h1
    exact fun v hv => (List.mem_cons.mp hv).elim (fun z => ⟨_, t, z.trans e⟩) (ih v)
theorem cls_str (n : Nat) (y : Str) (t : Tok) : ofAClassStatement n (.str y t) = pure false := by cases n <;> rfl
theorem hash_str (n : Nat) (y : Str) (t : Tok) : hashByValue n (.str y t) = pure false := by cases n <;> rfl
theorem cls_tx {k : List Str} {b : Addr} {Q : Bool → Shared → Prop} (x : IsK P w s.heap k b) (q : Q false s) : wpAny (model P w) A (ofAClassStatement 8 (.ref b)) Q E s := by
  have ty := x.typeIs
  obtain ⟨ob, its, n, get, -, dat, itm⟩ := x
  unfold ofAClassStatement
  refine wpAny_bind (wpAny_typeOf ty ?_)
  dsimp only
  simp only [show (("tuple" : String) == "tuple") = true by decide, if_true, Bool.not_true, Bool.false_eq_true, if_false]
  try refine wpAny_bind (wpAny_pure ?_)
  try simp only [Bool.not_true, Bool.false_eq_true, if_false]
  show wpAny _ _ (seqItems? (.ref b) >>= _) _ _ s
  refine wpAny_bind (wpAny_seqItems get dat ?_)
  dsimp only
  refine wpAny_bind ?_
  show wpAny _ _ (forIn its _ _) _ _ s
  rw [← Array.forIn_toList]
  refine wpAny_forIn_list _ (fun left r s1 => r.1 = none ∧ s1 = s ∧ ∀ v ∈ left, ∃ y t, v = Value.str y t) _ (fun v left r s1 z => ?_) (fun r s1 z => ?_) _ _ ⟨rfl, rfl, txts itm⟩
  · obtain ⟨_, rfl, all⟩ := z
    obtain ⟨y, t, rfl⟩ := all v List.mem_cons_self
    rw [cls_str]
    refine wpAny_bind (wpAny_pure ?_)
    simp only [Bool.false_eq_true, if_false]
    exact wpAny_pure ⟨rfl, rfl, fun u m => all u (List.mem_cons_of_mem _ m)⟩
  · obtain ⟨r1, r2⟩ := r
    obtain ⟨e, rfl, _⟩ := z
    simp only at e
    subst e
    exact wpAny_pure q
/-- whether its hash is told by its value alone: one or the other -/
theorem hash_tx {k : List Str} {b : Addr} {Q : Bool → Shared → Prop} (x : IsK P w s.heap k b) (q : ∀ c, Q c s) : wpAny (model P w) A (hashByValue 8 (.ref b)) Q E s := by
  have ty := x.typeIs
  obtain ⟨ob, its, n, get, -, dat, itm⟩ := x
  unfold hashByValue
  refine wpAny_bind (wpAny_specialOf ty F.slot_tuple_hash.lookup ?_)
  show wpAny _ _ (seqItems? (.ref b) >>= _) _ _ s
  refine wpAny_bind (wpAny_seqItems get dat ?_)
  refine wpAny_bind ?_
  show wpAny _ _ (forIn its _ _) _ _ s
  rw [← Array.forIn_toList]
  refine wpAny_forIn_list _ (fun left r s1 => r.1 = none ∧ s1 = s ∧ ∀ v ∈ left, ∃ y t, v = Value.str y t) _ (fun v left r s1 z => ?_) (fun r s1 z => ?_) _ _ ⟨rfl, rfl, txts itm⟩
  · obtain ⟨_, rfl, all⟩ := z
    obtain ⟨y, t, rfl⟩ := all v List.mem_cons_self
    rw [hash_str]
    refine wpAny_bind (wpAny_pure ?_)
    simp only [Bool.not_false, if_true]
    exact wpAny_pure (wpAny_pure (q false))
  · obtain ⟨r1, r2⟩ := r
    obtain ⟨e, rfl, _⟩ := z
    simp only at e
    subst e
    exact wpAny_pure (q true)
theorem seen_tx {k : List Str} {b : Addr} {Q : Bool → Shared → Prop} (x : IsK P w s.heap k b) {ys : List Value} (hy : ∀ y ∈ ys, ∃ l c, y = Value.ref c ∧ IsK P w s.heap l c) (q : Q false s) :
    wpAny (model P w) A (searchCouldBeSeen (.ref b) ys) Q E s := by
  unfold searchCouldBeSeen
  refine wpAny_bind ?_
  refine wpAny_forIn_list _ (fun left r s1 => r.1 = none ∧ s1 = s ∧ ∀ y ∈ left, ∃ l c, y = Value.ref c ∧ IsK P w s.heap l c) _ (fun v left r s1 z => ?_) (fun r s1 z => ?_) _ _ ⟨rfl, rfl, hy⟩
  · obtain ⟨_, rfl, all⟩ := z
    obtain ⟨l, c, rfl, hc⟩ := all v List.mem_cons_self
    have more : ∀ y ∈ left, ∃ l c, y = Value.ref c ∧ IsK P w s1.heap l c := fun u m => all u (List.mem_cons_of_mem _ m)
    dsimp only
    by_cases same : (b == c || (carriedByValue (.ref b) && carriedByValue (.ref c))) = true
    · exact wp_if_pos same (wpAny_pure ⟨rfl, rfl, more⟩)
    · refine wp_if_neg same (wpAny_bind (wpAny_eqIsQuiet_tuple x ?_))
      simp only [Bool.not_true, Bool.false_eq_true, if_false]
      refine wpAny_bind (wpAny_eqIsQuiet_tuple hc ?_)
      simp only [Bool.not_true, Bool.false_eq_true, if_false]
      refine wpAny_bind (cls_tx x ?_)
      simp only [Bool.false_eq_true, if_false]
      refine wpAny_bind (cls_tx hc ?_)
      simp only [Bool.false_eq_true, if_false]
      exact wpAny_pure ⟨rfl, rfl, more⟩
  · obtain ⟨r1, r2⟩ := r
    obtain ⟨e, rfl, _⟩ := z
    simp only at e
    subst e
    exact wpAny_pure q
/-! ### the set -/
def rowT (P : Program) (w : World) (p : Addr × List Str) : Int × Value := (TH P w p.2, Value.ref p.1)
def hs (P : Program) (w : World) (L : List (Addr × List Str)) : List Int := L.map fun p => TH P w p.2
/-- the table at a holds the tuples L -/
structure Tb (P : Program) (w : World) (h : Heap) (a : Addr) (L : List (Addr × List Str)) (es : Array (Int × Value)) (ep : Nat) (t : SetTable) : Prop where
  at_ : ∃ o, h.get? a = some o ∧ o.ExactSet ∧ o.data = .set es ep t
  rw_ : es.toList = L.map (rowT P w)
  ok : TabOk t (hs P w L)
  nd : (L.map (·.2)).Nodup
  tx : ∀ p ∈ L, IsK P w h p.2 p.1
  led : w.params.followText "set-order" = true ∨ t.led = true
  room : L.length * 5 < t.mask * 3
  few : L.length < 64
variable {a : Addr} {L : List (Addr × List Str)} {es : Array (Int × Value)} {ep : Nat} {t : SetTable}
theorem rows_size (e : es.toList = L.map (rowT P w)) : es.size = L.length := by
  rw [← Array.length_toList, e, List.length_map]
theorem hs_len : (hs P w L).length = L.length := List.length_map ..
theorem Tb.fits (R : Tb P w s.heap a L es ep t) : t.fits es.size = true := by
  have h1 := R.ok.sz
  rw [hs_len] at h1
  have h2 := rows_size R.rw_
  have h3 := R.room
  unfold SetTable.fits SetTable.fill
  rw [R.ok.dm, Bool.and_eq_true, beq_iff_eq, decide_eq_true_eq]
  exact ⟨by omega, by show t.place.size + 0 ≤ t.mask; omega⟩
theorem Tb.entry (R : Tb P w s.heap a L es ep t) {i : Nat} {p : Addr × List Str} (h : L[i]? = some p) : es[i]? = some (rowT P w p) := by
  rw [← Array.getElem?_toList, R.rw_, List.getElem?_map, h]
  rfl
theorem Tb.stands (R : Tb P w s.heap a L es ep t) : ¬ t.gaveWay = true := by
  unfold SetTable.gaveWay
  rw [mask_odd R.ok.mok]
  decide
theorem Tb.hashAt (R : Tb P w s.heap a L es ep t) {i : Nat} {p : Addr × List Str} (h : L[i]? = some p) : (es[i]?.map (·.1)).getD 0 = TH P w p.2 := by
  rw [R.entry h]
  rfl
/-- from the c-th place on -/
theorem search (R : Tb P w s.heap a L es ep t) {x : Addr} {k : List Str} (hx : IsK P w s.heap k x) (hu : A.units < cLine) {z : Int} (hz : z = TH P w k) {K : Nat} (lim : K < 10 * SetTable.turns t.mask)
    (free : way t.mask z K ∉ t.place.toList) (used : ∀ c, c < K → way t.mask z c ∈ t.place.toList) {Q : SetFound → Shared → Prop} (yes : k ∈ L.map (·.2) → Q (.there none) s) (no : k ∉ L.map (·.2) → Q (.free (way t.mask z K) false) s) :
    ∀ (f c : Nat) (stand : Option SetTable.Probe), stand.getD (t.probeStart z) = pr t.mask z c → c ≤ K → K - c < f →
      (∀ (i : Nat) p, L[i]? = some p → p.2 = k → ∃ d, c ≤ d ∧ d < K ∧ t.place.toList[i]? = some (way t.mask z d)) → wpAny (model P w) A (setSearchFrom a (.ref x) z true f stand) Q E s := by
  intro f
  induction f with
  | zero => exact fun c stand _ _ h _ => absurd h (Nat.not_lt_zero _)
  | succ f ih =>
    intro c stand hst hc hf ahead
    obtain ⟨o, ho, hex, hd⟩ := R.at_
    rw [setSearchFrom_succ]
    refine wpAny_bind (wpAny_setState_of ho hd R.fits ?_)
    dsimp only
    refine wp_if_neg R.stands ?_
    try refine wpAny_bind (wpAny_pure ?_)
    have spec := go_spec t R.ok.ris R.ok.dm (fun i => (es[i]?.map (·.1)).getD 0) z (10 * SetTable.turns t.mask) (K - c) (pr t.mask z c) (nth_dummy _ _ _ rfl) (by omega)
      (fun q hq => by rw [pr_onj]; exact used _ (by omega)) (by rw [pr_onj, show c + (K - c) = K by omega]; exact free)
    rcases spec with ⟨q, i, hq, hi, hh, ahd, hpr⟩ | ⟨none_, hpr⟩
    · -- one of this hash
      rw [pr_onj] at hi
      rw [pr_onj, pr_on] at hpr
      rw [show t.probe (fun i => (es[i]?.map (·.1)).getD 0) z (stand.getD (t.probeStart z)) = some (.candidate (way t.mask z (c + q)) i (pr t.mask z (c + (q + 1)))) by rw [hst]; exact hpr]
      dsimp only
      have hil : i < L.length := by
        have h1 := (List.getElem?_eq_some_iff.mp hi).1
        have h2 := R.ok.sz
        rw [hs_len] at h2
        rw [Array.length_toList] at h1
        omega
      obtain ⟨p, hp⟩ : ∃ p, L[i]? = some p := ⟨_, List.getElem?_eq_getElem hil⟩
      have hm := List.mem_of_getElem? hp
      have live : t.slot (way t.mask z (c + q)) = .live i := slot_live R.ok.ris hi
      have rest : wpAny (model P w) A (searchRest a (.ref x) z true f es t (way t.mask z (c + q)) i (pr t.mask z (c + (q + 1)))) Q E s := by
        unfold searchRest
        rw [R.entry hp]
        dsimp only [rowT]
        refine wpAny_bind (wpAny_holding (wpAny_eqBool_tuple hu (R.tx p hm) hx ?_))
        refine wpAny_bind (wpAny_setState_of ho hd R.fits ?_)
        dsimp only
        by_cases e : p.2 = k
        · exact wp_if_pos (by rw [decide_eq_true e]; rfl) (wpAny_pure (yes (List.mem_map.mpr ⟨p, hm, e⟩)))
        · refine wp_if_neg (by rw [decide_eq_false e]; decide) ?_
          try refine wpAny_bind (wpAny_pure ?_)
          rw [sameMem]
          dsimp only
          simp only [if_true, live, R.entry hp, rowT]
          refine wpAny_bind (wpAny_isSame_ref_self (wpAny_bind (wpAny_pure ?_)))
          simp only [if_true]
          refine wp_if_neg (by rw [decide_eq_false e]; decide) ?_
          refine ih (c + (q + 1)) _ rfl (by omega) (by omega) fun i0 p0 h0 k0 => ?_
          obtain ⟨d, d1, d2, d3⟩ := ahead i0 p0 h0 k0
          refine ⟨d, ?_, d2, d3⟩
          by_cases lt : d < c + q
          · exact absurd ((R.hashAt h0).trans (by rw [k0, hz])) (ahd (d - c) i0 (by omega) (by rw [pr_onj, show c + (d - c) = d by omega]; exact d3))
          · by_cases eq : d = c + q
            · rw [eq] at d3
              have s0 := slot_live R.ok.ris d3
              rw [live] at s0
              injection s0 with s0
              rw [← s0, hp] at h0
              exact absurd ((congrArg Prod.snd (Option.some.inj h0)).trans k0) e
            · omega
      by_cases hl : t.led = true
      · refine wp_if_neg (by rw [hl]; decide) ?_
        try refine wpAny_bind (wpAny_pure ?_)
        exact rest
      · refine wp_if_pos (by simpa using hl) (wpAny_bind (seen_tx hx (fun y hy => ?_) (wp_if_neg (by decide) ?_)))
        · obtain ⟨e, he, ee⟩ := List.mem_map.mp hy
          have m2 : e ∈ es.toList := by
            have := (show e ∈ es ∧ e.1 = z by simpa using he).1
            simpa using this
          rw [R.rw_] at m2
          obtain ⟨p2, hp2, e2⟩ := List.mem_map.mp m2
          exact ⟨p2.2, p2.1, by rw [← ee, ← e2]; rfl, R.tx p2 hp2⟩
        · try refine wpAny_bind (wpAny_pure ?_)
          exact rest
    · -- none: the first empty place
      rw [pr_onj, show c + (K - c) = K by omega] at hpr
      rw [show t.probe (fun i => (es[i]?.map (·.1)).getD 0) z (stand.getD (t.probeStart z)) = some (.empty (way t.mask z K) none) by rw [hst]; exact hpr]
      dsimp only
      refine wpAny_pure (no fun hm => ?_)
      obtain ⟨p0, m0, k0⟩ := List.mem_map.mp hm
      obtain ⟨i0, h0⟩ := List.getElem?_of_mem m0
      obtain ⟨d, d1, d2, d3⟩ := ahead i0 p0 h0 k0
      exact none_ (d - c) i0 (by omega) (by rw [pr_onj, show c + (d - c) = d by omega]; exact d3) ((R.hashAt h0).trans (by rw [k0, hz]))
/-- as the adding asks -/
theorem search0 (R : Tb P w s.heap a L es ep t) {x : Addr} {k : List Str} (hx : IsK P w s.heap k x) (hu : A.units < cLine) {Q : SetFound → Shared → Prop} (yes : k ∈ L.map (·.2) → Q (.there none) s)
    (no : ∀ K, k ∉ L.map (·.2) → way t.mask (TH P w k) K ∉ t.place.toList → (∀ c, c < K → way t.mask (TH P w k) c ∈ t.place.toList) → Q (.free (way t.mask (TH P w k) K) false) s) : wpAny (model P w) A (setSearch a (.ref x) (TH P w k) true) Q E s := by
  have room := R.room
  obtain ⟨K, lim, free, used⟩ := R.ok.first (by rw [hs_len]; omega) (TH P w k)
  have big : K < 100000 := by
    have : 10 * SetTable.turns t.mask ≤ 1420 := by
      unfold SetTable.turns
      rcases R.ok.mok with e | e | e <;> omega
    omega
  unfold setSearch
  refine search R hx hu rfl lim free used yes (fun n => no K n free used) 100000 0 none rfl (Nat.zero_le _) big fun i p hp e => ?_
  have hh : (hs P w L)[i]? = some (TH P w k) := by
    unfold hs
    rw [List.getElem?_map, hp, ← e]
    rfl
  have hil : i < t.place.toList.length := by
    have h1 := (List.getElem?_eq_some_iff.mp hp).1
    have h2 := R.ok.sz
    rw [hs_len] at h2
    rw [Array.length_toList]
    omega
  have hj := List.getElem?_eq_getElem hil
  obtain ⟨d, d1, d2⟩ := R.ok.before free hh hj
  exact ⟨d, Nat.zero_le _, d1, by rw [hj, d2]⟩
end
end WTs

set_option maxHeartbeats 4000000
/-! Sets of tuples of texts: a tuple added. -/
namespace WTs
open PySem PySem.Spec PyProof.Rows L2
theorem range_all {α : Type} : ∀ L : List α, (List.range L.length).filterMap (fun i => L[i]?) = L
  | [] => rfl
  | x :: L => by
    rw [List.length_cons, List.range_succ_eq_map, List.filterMap_cons_some (show (x :: L)[0]? = some x from rfl), List.filterMap_map]
    exact congrArg (x :: ·) (range_all L)
section
variable {P : Program} {w : World} {A : Around} {E : Value → Shared → Prop} {s : Shared} {a : Addr} {L : List (Addr × List Str)} {es : Array (Int × Value)} {ep : Nat} {t : SetTable}
theorem off_set {h h' : Heap} {k : List Str} {b : Addr} {o : Obj} (x : IsK P w h k b) (ho : h.get? a = some o) (hd : o.data = .set es ep t) (sb : Heap.SameBut a h h') : IsK P w h' k b := by
  obtain ⟨ob, its, n, get, c, dat, itm⟩ := x
  refine ⟨ob, its, n, (sb.2 b fun e => ?_).trans get, c, dat, itm⟩
  rw [e, ho] at get
  cases get
  rw [hd] at dat
  cases dat
theorem laid_rows {order : Array Nat} (hr : es.toList = L.map (rowT P w)) (hp : order.toList.Perm (List.range L.length)) :
    ∃ L2, (order.filterMap (es[·]?)).toList = L2.map (rowT P w) ∧ L2.Perm L ∧ hs P w L2 = order.toList.map fun i => (es.map (·.1)).getD i 0 := by
  have ent : ∀ i : Nat, es[i]? = L[i]?.map (rowT P w) := fun i => by rw [← Array.getElem?_toList, hr, List.getElem?_map]
  refine ⟨order.toList.filterMap fun i => L[i]?, ?_, ?_, ?_⟩
  · rw [Array.toList_filterMap, List.map_filterMap]
    exact congrArg (fun f => List.filterMap f order.toList) (funext ent)
  · have h1 := hp.filterMap fun i => L[i]?
    rw [range_all] at h1
    exact h1
  · unfold hs
    rw [List.map_filterMap]
    refine WSt.fm_all _ fun i hi => ?_
    have lt : i < L.length := List.mem_range.mp (hp.mem_iff.mp hi)
    have e5 : (es.map (·.1))[i]? = some (TH P w (L[i]).2) := by rw [Array.getElem?_map, ent i, List.getElem?_eq_getElem lt]; rfl
    rw [List.getElem?_eq_getElem lt, Array.getD_eq_getD_getElem?, e5]
    rfl
/-- the table laid anew -/
theorem relay {o : Obj} (ho : s.heap.get? a = some o) (hex : o.ExactSet) (hd : o.data = .set es ep t) (hr : es.toList = L.map (rowT P w)) (hsz : t.place.size = es.size) (hdm : t.dummies = #[]) (hfl : es.size ≤ t.mask)
    (nd : (L.map (·.2)).Nodup) (tx : ∀ p ∈ L, IsK P w s.heap p.2 p.1) (led : w.params.followText "set-order" = true ∨ t.led = true) (few : L.length < 64) {wanted M : Nat} (hw : SetTable.sizeAbove wanted - 1 = M) (hM : MaskOk M)
    (hw2 : SetTable.sizeAbove wanted ≤ 128) (hn : L.length * 5 < M * 3) {Q : Unit → Shared → Prop} (hQ : ∀ h' L' es' ep' t', Heap.SameBut a s.heap h' → Tb P w h' a L' es' ep' t' → L'.Perm L → Q () { s with heap := h' }) :
    wpAny (model P w) A (setRelay a wanted) Q E s := by
  have hsl := rows_size hr
  have hfits : t.fits es.size = true := by
    unfold SetTable.fits SetTable.fill
    rw [hdm, Bool.and_eq_true, beq_iff_eq, decide_eq_true_eq]
    exact ⟨hsz, by show t.place.size + 0 ≤ t.mask; omega⟩
  obtain ⟨t', order, e, hp, ok, em, el, -, -⟩ := relaid_ok t (hs := es.map (·.1)) (wanted := wanted) hw hM (by rw [Array.size_map, hsl]; omega)
  rw [Array.size_map, hsl] at hp
  obtain ⟨L2, r1, r2, r3⟩ := laid_rows hr hp
  rw [← r3] at ok
  have hs2 : (order.filterMap (es[·]?)).size = es.size := by rw [rows_size r1, r2.length_eq, hsl]
  rw [setRelay_eq]
  refine wpAny_bind (wpAny_setState_of ho hd hfits ?_)
  dsimp only
  refine wp_if_neg (by rw [sizeLine_eq]; omega) ?_
  try refine wpAny_bind (wpAny_pure ?_)
  rw [e]
  dsimp only
  refine wpAny_bind (wp_if_neg (by rw [hs2]; simp) ?_)
  try refine wpAny_bind (wpAny_pure ?_)
  refine wpAny_pure ?_
  dsimp only
  refine wpAny_storeSet_of ho hd ?_ (by rw [hs2, hsl, sizeLine_eq]; omega)
  have sb : Heap.SameBut a s.heap (s.heap.update a (Obj.putSet (order.filterMap (es[·]?)) t')) := Heap.SameBut.update ..
  refine hQ _ L2 (order.filterMap (es[·]?)) (ep + 1) t' sb ⟨⟨_, store_at ho hd, ⟨hex.1, hex.2.1, hex.2.2⟩, rfl⟩, r1, ok, (r2.map (·.2)).nodup_iff.mpr nd, fun p m => off_set (tx p (r2.mem_iff.mp m)) ho hd sb, by rw [el]; exact led, ?_, by rw [r2.length_eq]; exact few⟩ r2
  rw [r2.length_eq, em]
  exact hn
/-- the table with or without the word that all hashes are told by values -/
def pl (c : Bool) (t : SetTable) : SetTable := if c = true then t else { t with plain := false }
theorem pl_ok {c : Bool} {l : List Int} (h : TabOk t l) : TabOk (pl c t) l ∧ (pl c t).mask = t.mask ∧ (pl c t).led = t.led ∧ (pl c t).fill = t.fill ∧ (pl c t).place = t.place := by
  cases c with
  | true => exact ⟨h, rfl, rfl, rfl, rfl⟩
  | false => exact ⟨⟨h.ris, h.dm, h.sz, h.mok, h.bd, h.reach⟩, rfl, rfl, rfl, rfl⟩
/-- a tuple added -/
theorem add (R : Tb P w s.heap a L es ep t) {x : Addr} {k : List Str} (hx : IsK P w s.heap k x) (hu : A.units < cLine) (hfew : L.length + 1 < 64) {Q : Bool → Shared → Prop}
    (hQ : ∀ b h' L' es' ep' t', Heap.SameBut a s.heap h' → Tb P w h' a L' es' ep' t' → (k ∈ L.map (·.2) → L' = L) → (k ∉ L.map (·.2) → L'.Perm ((x, k) :: L)) → Q b { s with heap := h' }) : wpAny (model P w) A (setAddHashed a (.ref x) (TH P w k)) Q E s := by
  obtain ⟨o, ho, hex, hd⟩ := R.at_
  have hsl := rows_size R.rw_
  have room := R.room
  unfold setAddHashed
  refine wpAny_holding ?_
  rw [show (100000 : Nat) = 99999 + 1 from rfl, setAddHashedIn_succ]
  refine wpAny_bind (wpAny_setState_of ho hd R.fits ?_)
  dsimp only
  refine wp_if_neg (by simp [byScan, Value.scannable]) ?_
  try refine wpAny_bind (wpAny_pure ?_)
  refine wpAny_bind (search0 R hx hu (fun m => ?_) fun K m free used => ?_)
  · exact wpAny_pure (hQ false s.heap L es ep t (Heap.SameBut.refl a s.heap) R (fun _ => rfl) fun n => absurd m n)
  dsimp only
  refine wpAny_bind (wpAny_setState_of ho hd R.fits ?_)
  dsimp only
  obtain ⟨q1, q2, q3, q4, q5, -, -, -, q9⟩ := R.ok.put free used
  generalize t.put (way t.mask (TH P w k) K) = pt at q1 q3 q4 q5 q9 ⊢
  obtain ⟨t1, j⟩ := pt
  dsimp only at q1 q3 q4 q5 q9 ⊢
  subst q1
  generalize SetTable.below t.place (way t.mask (TH P w k) K) = j at q2 q3 ⊢
  have pm := put_perm L j (x, k)
  have hin : (SetTable.insertAt es j (TH P w k, Value.ref x)).toList = (L.take j ++ (x, k) :: L.drop j).map (rowT P w) := by
    rw [SetTable.toList_insertAt, R.rw_, List.map_append, List.map_cons, List.map_take, List.map_drop]
    rfl
  have hhs : (hs P w L).take j ++ TH P w k :: (hs P w L).drop j = hs P w (L.take j ++ (x, k) :: L.drop j) := by
    unfold hs
    rw [List.map_append, List.map_cons, List.map_take, List.map_drop]
  rw [hhs] at q3
  have nd1 : ((L.take j ++ (x, k) :: L.drop j).map (·.2)).Nodup := (pm.map (·.2)).nodup_iff.mpr (List.nodup_cons.mpr ⟨m, R.nd⟩)
  generalize L.take j ++ (x, k) :: L.drop j = L1 at pm hin q3 nd1
  have hlen : L1.length = L.length + 1 := pm.length_eq
  have hes := rows_size hin
  generalize SetTable.insertAt es j (TH P w k, Value.ref x) = es1 at hin hes ⊢
  have tail : ∀ c : Bool, wpAny (model P w) A (do
      storeSet a es1 (pl c t1)
      if (!false && (pl c t1).tooFull) = true then do
        setRelay a (SetTable.grown (es.size + 1))
        pure true
      else pure true) Q E s := fun c => by
    obtain ⟨ok2, m2, l2, f2, p2⟩ := pl_ok (c := c) q3
    rw [q4] at m2
    rw [q5] at l2
    rw [q9] at f2
    have full : (pl c t1).tooFull = decide ((pl c t1).fill * 5 ≥ (pl c t1).mask * 3) := rfl
    generalize pl c t1 = t2 at ok2 m2 l2 f2 full ⊢
    refine wpAny_bind (wpAny_storeSet_of ho hd ?_ (by rw [hes, hlen, sizeLine_eq]; omega))
    have sb : Heap.SameBut a s.heap (s.heap.update a (Obj.putSet es1 t2)) := Heap.SameBut.update ..
    have ho1 := store_at (es' := es1) (t' := t2) ho hd
    generalize s.heap.update a (Obj.putSet es1 t2) = h1 at sb ho1 ⊢
    have tx1 : ∀ p ∈ L1, IsK P w h1 p.2 p.1 := fun p hp => by
      rcases List.mem_cons.mp (pm.mem_iff.mp hp) with e | hp
      · rw [e]; exact off_set hx ho hd sb
      · exact off_set (R.tx p hp) ho hd sb
    have led1 : w.params.followText "set-order" = true ∨ t2.led = true := by rw [l2]; exact R.led
    rw [full, f2, m2, hs_len]
    by_cases big : (L.length + 1) * 5 ≥ t.mask * 3
    · refine wp_if_pos (by rw [decide_eq_true big]; rfl) (wpAny_bind ?_)
      have sz1 : t2.place.size = es1.size := by rw [ok2.sz, hs_len, hes]
      have two : (t.mask = 7 ∧ L.length = 4) ∨ (t.mask = 31 ∧ L.length = 18) := by
        rcases R.ok.mok with e | e | e <;> rw [e] at big room <;> omega
      have go : ∀ M, SetTable.sizeAbove (SetTable.grown (es.size + 1)) - 1 = M → MaskOk M → SetTable.sizeAbove (SetTable.grown (es.size + 1)) ≤ 128 → (L.length + 1) * 5 < M * 3 →
          wpAny (model P w) A (setRelay a (SetTable.grown (es.size + 1))) (fun _ s' => wpAny (model P w) A (pure true) Q E s') E { s with heap := h1 } := fun M g1 g2 g3 g4 =>
        relay (s := { s with heap := h1 }) ho1 ⟨hex.1, hex.2.1, hex.2.2⟩ rfl hin sz1 ok2.dm (by rw [hes, hlen, m2]; rcases two with ⟨e, e2⟩ | ⟨e, e2⟩ <;> omega) nd1 tx1 led1 (by rw [hlen]; exact hfew) g1 g2 g3 (by rw [hlen]; exact g4)
          fun h2 L2 es2 ep2 t2 sb2 R2 pm2 => wpAny_pure (hQ true h2 L2 es2 ep2 t2 (sb.trans sb2) R2 (fun z => absurd z m) fun _ => pm2.trans pm)
      rcases two with ⟨_, e2⟩ | ⟨_, e2⟩
      · exact go 31 (by rw [hsl, e2, size_20]) (.inr (.inl rfl)) (by rw [hsl, e2, size_20]; decide) (by omega)
      · exact go 127 (by rw [hsl, e2, size_76]) (.inr (.inr rfl)) (by rw [hsl, e2, size_76]; decide) (by omega)
    · refine wp_if_neg (by rw [decide_eq_false big]; decide) (wpAny_pure ?_)
      exact hQ true h1 L1 es1 (ep + 1) t2 sb ⟨⟨_, ho1, ⟨hex.1, hex.2.1, hex.2.2⟩, rfl⟩, hin, ok2, nd1, tx1, led1, by rw [hlen, m2]; omega, by rw [hlen]; exact hfew⟩ (fun z => absurd z m) fun _ => pm
  by_cases pv : t1.plain = true
  · exact wp_if_pos pv (wpAny_bind (hash_tx hx fun c => tail c))
  · exact wp_if_neg pv (wpAny_bind (wpAny_pure (tail true)))
end
end WTs

set_option maxHeartbeats 4000000
/-! Sets of tuples of texts: as things of the heap; the comprehension that makes one. -/
namespace WTs
open PySem PySem.Spec PyProof.Rows L2 PpSet
/-- the set itself, without its tuples -/
def Tb0 (P : Program) (w : World) (h : Heap) (a : Addr) (L : List (Addr × List Str)) : Prop := ∃ (es : Array (Int × Value)) (ep : Nat) (t : SetTable), (∃ o, h.get? a = some o ∧ o.ExactSet ∧ o.data = .set es ep t) ∧
  es.toList = L.map (rowT P w) ∧ TabOk t (hs P w L) ∧ (L.map (·.2)).Nodup ∧ (w.params.followText "set-order" = true ∨ t.led = true) ∧ L.length * 5 < t.mask * 3 ∧ L.length < 64
def TbO (P : Program) (w : World) (a : Addr) (L : List (Addr × List Str)) : HO := .ext fun h => Tb0 P w h a L
section
variable {P : Program} {w : World} {A : Around} {E : Value → Shared → Prop} {s : Shared} {a : Addr} {L : List (Addr × List Str)} {es : Array (Int × Value)} {ep : Nat} {t : SetTable} {h : Heap}
theorem Tb.t0 (R : Tb P w h a L es ep t) : Tb0 P w h a L := ⟨es, ep, t, R.at_, R.rw_, R.ok, R.nd, R.led, R.room, R.few⟩
theorem Tb0.full (R : Tb0 P w h a L) (tx : ∀ p ∈ L, IsK P w h p.2 p.1) : ∃ es ep t, Tb P w h a L es ep t := by
  obtain ⟨es, ep, t, h1, h2, h3, h4, h5, h6, h7⟩ := R
  exact ⟨es, ep, t, h1, h2, h3, h4, tx, h5, h6, h7⟩
theorem tbO_ok {H : Hp} (R : Tb0 P w h a L) : ObjOk P w H h a (TbO P w a L) := by
  have ⟨es, ep, t, ⟨o, get, r⟩, q⟩ := R
  refine ⟨R, ⟨o, get⟩, fun h1 h2 z keep => ?_⟩
  have ⟨es2, ep2, t2, ⟨o2, get2, r2⟩, q2⟩ := (show Tb0 P w h1 a L from z)
  exact ⟨es2, ep2, t2, ⟨o2, keep o2 get2, r2⟩, q2⟩
abbrev newSetO (w : World) : Obj := { cls := .type "set", dict := none, data := .set #[] 0 (.fresh 0 0 (!w.params.followText "set-order")) }
theorem tb0_new (get : h.get? a = some (newSetO w)) : Tb0 P w h a [] :=
  ⟨#[], 0, _, ⟨_, get, ⟨rfl, rfl, rfl⟩, rfl⟩, rfl, ⟨List.Pairwise.nil, rfl, rfl, .inl rfl, fun _ hx => (by cases hx), fun i _ _ hi => (by simp [hs] at hi)⟩, List.nodup_nil, by
    show _ ∨ (!w.params.followText "set-order") = true
    cases w.params.followText "set-order" <;> first | exact .inl rfl | exact .inr rfl, by show 0 * 5 < 7 * 3; decide, by show 0 < 64; decide⟩
theorem items_tx : ∀ {k : List Str} {us : List Value}, Vals (k.map V.str) us → ItemsAre (strKind P w) k us
  | [], _, .nil => .nil
  | y :: k, _, .cons r rest => by
    obtain ⟨tk, rfl⟩ := r
    exact .cons (show (y == y) = true from beq_self_eq_true y) (items_tx rest)
end
section
variable {X : Cx} {pins : List (Addr × Obj)} {σ : L2.St} {H : Hp} {s : Shared}
theorem isK_of (I : Inv X pins σ H s) {b : Addr} {k : List Str} (x : SqT X.K H b (k.map V.str)) : IsK X.prog X.w s.heap k b := by
  obtain ⟨its, r, ⟨ob, get, c, n, dat⟩, -⟩ := I.tuple x
  exact ⟨ob, its.toArray, n, get, c, dat, by simpa using items_tx r⟩
/-- set.add of a tuple of texts -/
theorem addT {E : Value → Shared → Prop} {Z x : Addr} {k : List Str} {L : List (Addr × List Str)} {Q : Value → Shared → Prop} (hu : X.A.units + 64 < cLine) (I : Inv X pins σ H s) (hZ : H Z = some (TbO X.prog X.w Z L)) (hx : SqT X.K H x (k.map V.str)) (tx : ∀ p ∈ L, SqT X.K H p.1 (p.2.map V.str))
    (few : L.length + 1 < 64) (q : ∀ s' L', (k ∈ L.map (·.2) → L' = L) → (k ∉ L.map (·.2) → L'.Perm ((x, k) :: L)) → Inv X pins σ (upd H Z (TbO X.prog X.w Z L')) s' → Q .none s') : wpAny (model X.prog X.w) X.A (call (.builtin "set.add") [.ref Z, .ref x]) Q E s := by
  have R0 : Tb0 X.prog X.w s.heap Z L := (I.hok Z _ hZ).1
  obtain ⟨es, ep, t, R⟩ := R0.full fun p hp => isK_of I (tx p hp)
  have key := isK_of I hx
  obtain ⟨o, get, hex, dat⟩ := R.at_
  have ty : s.TypeIs (.ref Z) "set" := ⟨o, get, hex.1⟩
  refine wpAny_call_entry F.slot_set_add ty F.entry_set_add ?_ (F.args_set_add_2 _ _)
  unfold Builtin.«set.add» Builtin.Frozenset.oneOther
  simp only [List.isEmpty_nil, bind_assoc]
  unfold Builtin.Frozenset.addrOf setAdd
  refine wpAny_bind (wpAny_pure ?_)
  try dsimp only
  refine wpAny_bind (wpAny_pure ?_)
  try dsimp only
  refine wpAny_bind (wpAny_holding (wpAny_bind (wpAny_pyHash_tuple (by show X.A.units + 1 < cLine; omega) key ?_)))
  refine add (s := { s with toks := s.toks + (k.length + 1) }) R key (by show X.A.units + 1 < cLine; omega) few fun b h' L' es' ep' t' sb R' c1 c2 => ?_
  show wpAny _ _ (ret Value.none) _ _ _
  refine wpAny_pure ⟨_, rfl, q _ L' c1 c2 ?_⟩
  obtain ⟨o', get', -⟩ := R'.at_
  exact I.write (e := Z) (t' := s.toks + (k.length + 1)) (by rw [hZ]; trivial) (.inl rfl) (fun b u hb z => (sb.2 b hb).trans z) ⟨o', get'⟩ (tbO_ok R'.t0)
end
end WTs

set_option maxHeartbeats 4000000
/-! The comprehension that makes a set of tuples of texts. -/
namespace WTs
open PySem PySem.Spec PyProof.Rows L2 PpSet
/-- one turn's end: the tuple y is added to the set at Z -/
def AddTo (P : Program) (w : World) (K : PySem.W.Frag) (Z : Addr) (y : V) (H : Hp) (Nx : Hp → Prop) : Prop := ∃ (x : Addr) (k : List Str) (L : List (Addr × List Str)), y = .ref x ∧ SqT K H x (k.map V.str) ∧ H Z = some (TbO P w Z L) ∧
  (∀ p ∈ L, SqT K H p.1 (p.2.map V.str)) ∧ L.length + 1 < 64 ∧ ∀ L', (k ∈ L.map (·.2) → L' = L) → (k ∉ L.map (·.2) → L'.Perm ((x, k) :: L)) → Nx (upd H Z (TbO P w Z L'))
/-- {te for .. in wi if tt} -/
def tScT (P : Program) (w : World) (K : PySem.W.Frag) (wi : TI) (g : TG) (tt : TT) (te : TE) (vs : List Nat) : TE := fun σ H Q => wi σ H fun J H1 => ∀ Z, H1 Z = none → ∃ W : Nat → Nat → Hp → Prop, (∃ m, W 0 m (upd H1 Z (TbO P w Z []))) ∧ ∀ i m H, W i m H →
  (J.stop i H ∧ Q (.ref Z) H) ∨ (J.go i H ∧ ∃ Nx : Hp → Prop, (∀ H', Nx H' → ∃ m', m' < m ∧ W (i + 1) m' H') ∧ ∀ x H', J.yld i H x H' → g x (wipe σ vs) H' fun σ2 H2 => wipe σ2 vs = wipe σ vs ∧ tt σ2 H2 fun b H3 => if b = true then te σ2 H3 fun y H4 => AddTo P w K Z y H4 Nx else Nx H3)
section
variable {X : Cx}
theorem scT_core {pins : List (Addr × Obj)} {s : Shared} {σ : L2.St} {H : Hp} {Q : VK} {el tg it : Expr} {ifs : List Expr} {sc : Scope} {own : List (PySem.Str × Nat)} {p1 p2 : Pos} {wi : TI} {g : TG} {tt : TT} {te : TE} {us : Option (Value → Sem Unit)} {Qf : Value → Shared → Prop} (hc : X.calm = true) (hu : X.A.units + 64 < cLine) (nd : X.N.Nodup) (I : Inv X pins σ H s)
    (hi : PI X tg it wi) (ok : BlkOk X.N X.env.scope sc own) (hg : ∀ (z : Shared) (G : Hp) (C : Addr) (cl : List (PySem.Str × Addr)) (fp : List Addr), PG (X.blk z G sc (compEnvC sc cl C X.env) fp) tg g) (ht : ∀ (z : Shared) (G : Hp) (C : Addr) (cl : List (PySem.Str × Addr)) (fp : List Addr), PTs (X.blk z G sc (compEnvC sc cl C X.env) fp) ifs tt)
    (he : ∀ (z : Shared) (G : Hp) (C : Addr) (cl : List (PySem.Str × Addr)) (fp : List Addr), PE (X.blk z G sc (compEnvC sc cl C X.env) fp) el te) (fo : ∀ x, foldedSetIterable it X.env x = pure x) (h : tScT X.prog X.w X.K wi g tt te (own.map (·.2)) σ H Q)
    (back : ∀ Z C z m G, Inv X pins σ G z → Q (.ref Z) G → z.heap.Ns C m → FpOk X pins G C → compPost (model X.prog X.w) X.A X.xe us Qf (.ref Z) C (.ok .next) z) :
    wpAny (model X.prog X.w) X.A (comprehension (.SetComp el [⟨tg, it, ifs, 0⟩] sc p1) sc X.env p2 (newSet (.type "set")) false (eval it X.env) us) Qf X.xe s := by
  have cells : ∀ y ∈ sc.names, y.2 = .free → ∃ c, X.env.cells.lookup y.1 = some c := fun y hy e => (ok.free y hy e).elim (fun z => I.ok.has _ (.inl z)) (fun z => I.ok.has _ (.inr z))
  refine wpAny_comprehension_free (use := us) rfl fo (closure_ok cells) ok.kind (fun y hy e => by rw [ok.uniq y hy, e]) (thn (hi.run pins s σ H _ I h) fun xv z1 hx => thn hx fun iv z2 h2 => ?_)
  obtain ⟨ia, fp, tn, J, H2, rfl, I2, T, st2, f2, q⟩ := h2
  refine newSet_ok (newEnv_comp ?_)
  obtain ⟨Z, hZ⟩ : ∃ Z, Z = z2.heap.objs.size := ⟨_, rfl⟩
  rw [← hZ]
  have nZ : H2 Z = none := I2.hok.fresh (Nat.le_of_eq hZ.symm)
  obtain ⟨W, ⟨m0, w0⟩, turn⟩ := q Z nZ
  -- with the new set
  obtain ⟨z3, hz3⟩ : ∃ z3 : Shared, z3 = { z2 with heap := z2.heap.push (newSetO X.w) } := ⟨_, rfl⟩
  have heap3 : z3.heap = z2.heap.push (newSetO X.w) := by rw [hz3]
  have I3 : Inv X pins σ (upd H2 Z (TbO X.prog X.w Z [])) z3 := by
    rw [hz3]
    exact I2.laid (t' := z2.toks) (fun b o e => Heap.get?_push_of_some _ e) (Nat.le_of_eq hZ.symm) (tbO_ok (tb0_new (by rw [hZ]; exact Heap.get?_push_size _ rfl)))
  have f3 : ∀ b ∈ fp, FpOk X pins (upd H2 Z (TbO X.prog X.w Z [])) b ∧ b < z3.heap.objs.size := fun b hb => by
    obtain ⟨o, e, _⟩ := T.obj _ _ st2 b hb
    have lt := Heap.lt_size e
    refine ⟨⟨?_, (f2 b hb).2⟩, by rw [heap3, Heap.size_push]; exact Nat.lt_succ_of_lt lt⟩
    rw [upd_ne (by rw [hZ]; exact Nat.ne_of_lt lt)]
    exact (f2 b hb).1
  have st3 : tn 0 z3.heap := T.keep _ _ _ st2 fun b _ o e => by rw [heap3]; exact Heap.get?_push_of_some _ e
  have I4 := block_start I3 ok nd f3
  have e3 : ({ z2 with heap := z2.heap.push (newSetO X.w) } : Shared) = z3 := hz3.symm
  show codeAny _ _ (.compStart (.SetComp el [⟨tg, it, ifs, 0⟩] sc p1) 0 (.ref ia) (.ref Z) (compEnvC sc (cellsFrom (Shared.heap { z2 with heap := z2.heap.push (newSetO X.w) }).objs.size.succ sc.names (cloFrom X.env.cells sc.names [])) (Shared.heap { z2 with heap := z2.heap.push (newSetO X.w) }).objs.size X.env))
    (compPost (model X.prog X.w) X.A X.xe us Qf (.ref Z) (Shared.heap { z2 with heap := z2.heap.push (newSetO X.w) }).objs.size) { z2 with heap := pushCells ((Shared.heap { z2 with heap := z2.heap.push (newSetO X.w) }).push { cls := .type "dict", data := .dict #[] }) sc.names }
  have e4 : ({ z2 with heap := pushCells ((Shared.heap { z2 with heap := z2.heap.push (newSetO X.w) }).push { cls := .type "dict", data := .dict #[] }) sc.names } : Shared) = { z3 with heap := pushCells (z3.heap.push { cls := .type "dict", data := .dict #[] }) sc.names } := by rw [hz3]
  rw [e4, e3]
  have pg := hg z3 (upd H2 Z (TbO X.prog X.w Z [])) z3.heap.objs.size (cellsFrom z3.heap.objs.size.succ sc.names (cloFrom X.env.cells sc.names [])) fp
  have pt := ht z3 (upd H2 Z (TbO X.prog X.w Z [])) z3.heap.objs.size (cellsFrom z3.heap.objs.size.succ sc.names (cloFrom X.env.cells sc.names [])) fp
  have pe := he z3 (upd H2 Z (TbO X.prog X.w Z [])) z3.heap.objs.size (cellsFrom z3.heap.objs.size.succ sc.names (cloFrom X.env.cells sc.names [])) fp
  have none3 : ∀ b ∈ fp, (upd H2 Z (TbO X.prog X.w Z [])) b = none := fun b hb => (f3 b hb).1.1
  have I4 : Inv (X.blk z3 (upd H2 Z (TbO X.prog X.w Z [])) sc (compEnvC sc (cellsFrom z3.heap.objs.size.succ sc.names (cloFrom X.env.cells sc.names [])) z3.heap.objs.size X.env) fp) [] (wipe σ (own.map (·.2))) (upd H2 Z (TbO X.prog X.w Z [])) { z3 with heap := pushCells (z3.heap.push { cls := .type "dict", data := .dict #[] }) sc.names } := I4
  generalize hce : compEnvC sc (cellsFrom z3.heap.objs.size.succ sc.names (cloFrom X.env.cells sc.names [])) z3.heap.objs.size X.env = ce at I4 pg pt pe ⊢
  have cl : ce.locals = z3.heap.objs.size := by rw [← hce]; rfl
  generalize upd H2 Z (TbO X.prog X.w Z []) = H3 at I3 I4 pg pt pe w0 none3 f3
  obtain ⟨z4, hz4⟩ : ∃ z4 : Shared, z4 = { z3 with heap := pushCells (z3.heap.push { cls := .type "dict", data := .dict #[] }) sc.names } := ⟨_, rfl⟩
  rw [← hz4] at I4 ⊢
  have st4 : tn 0 z4.heap := T.keep _ _ _ st3 fun b _ o e => by rw [hz4]; exact pushCells_keeps _ _ _ _ (Heap.get?_push_of_some _ e)
  have fpB : ∀ {σ' : L2.St} {G : Hp} {z : Shared}, Inv (X.blk z3 H3 sc ce fp) [] σ' G z → (∀ b ∈ fp, G b = none) → ∀ b ∈ fp, FpOk (X.blk z3 H3 sc ce fp) [] G b := fun J hn b hb =>
    ⟨hn b hb, (J.ok.exf b hb).1, J.ok.exfs b hb, .inl hb, fun x c e => (J.ok.exf b hb).2 x c e, fun p hp => absurd (show p ∈ ([] : List (Addr × Obj)) ++ [] from hp) (by simp)⟩
  have loop : codeAny (model X.prog X.w) X.A (.compLoop (.SetComp el [⟨tg, it, ifs, 0⟩] sc p1) 0 (.ref ia) (.ref Z) ce) (compPost (model X.prog X.w) X.A X.xe us Qf (.ref Z) z3.heap.objs.size) z4 := by
    refine compLoopS_any (fun n z => ∃ i G, Inv (X.blk z3 H3 sc ce fp) [] (wipe σ (own.map (·.2))) G z ∧ tn i z.heap ∧ (∀ b ∈ fp, G b = none) ∧ W i n G) (fun n z5 hW => ?_) m0 ⟨0, H3, I4, st4, none3, w0⟩
    obtain ⟨i, H5, I5, st5, n5, w5⟩ := hW
    rcases turn i n H5 w5 with ⟨stop, qq⟩ | ⟨go, Nx, hNx, step⟩
    · refine thnF (T.done (X.blk z3 H3 sc ce fp) rfl rfl rfl hc i [] z5 _ H5 (fun _ _ => False) I5 (fpB I5 n5) st5 stop) fun r z6 ⟨hr, I6⟩ => ?_
      subst hr
      have I7 : Inv X pins σ H5 z6 := I3.call' (ch := fp) I6.os I6.base I6.hok I6.bare fun b hb => ⟨(f3 b hb).1.2.2.2.1, (f3 b hb).1.2.1, (f3 b hb).1.2.2.2.2.1, (f3 b hb).1.2.2.2.2.2⟩
      have nC : H5 z3.heap.objs.size = none := by rw [← cl]; exact I6.free
      obtain ⟨m, hn, _⟩ := I6.loc
      exact back Z z3.heap.objs.size z6 m H5 I7 qq (by rw [← cl]; exact hn) (I3.fpOk (Nat.le_refl _) nC)
    · refine thnF (T.item (X.blk z3 H3 sc ce fp) rfl rfl rfl hc i [] z5 _ H5 (fun _ _ => False) I5 (fpB I5 n5) st5 go) fun r z6 ⟨u, hr, h6⟩ => ?_
      subst hr
      refine thnF h6 fun _ z7 ⟨x, H7, I7, r7, y7, st7, n7⟩ => ?_
      refine thnF (pg.run _ z7 _ H7 x u _ (I7.pinned (fpB I7 n7) (T.obj _ _ st7)) r7 (step x H7 y7)) fun _ z8 ⟨σ8, H8, I8, hw8, q8⟩ => ?_
      refine thnF (pt.run _ z8 σ8 H8 _ I8 q8) fun b z9 ⟨H9, I9, q9⟩ => ?_
      have fin : ∀ {z : Shared} {G : Hp}, Inv (X.blk z3 H3 sc ce fp) ([] ++ pinsAt fp z7.heap) σ8 G z → Nx G → ∃ m, m < n ∧ ∃ i G, Inv (X.blk z3 H3 sc ce fp) [] (wipe σ (own.map (·.2))) G z ∧ tn i z.heap ∧ (∀ b ∈ fp, G b = none) ∧ W i m G := fun {z G} IG nx => by
        obtain ⟨m', hm, w'⟩ := hNx G nx
        have pn : ∀ b ∈ fp, ∀ o, z7.heap.get? b = some o → z.heap.get? b = some o ∧ G b = none := fun b hb o e => let y := IG.pin (b, o) (List.mem_append_right _ (List.mem_append_right _ (mem_pinsAt hb e))); ⟨y.1, y.2.1⟩
        refine ⟨m', hm, i + 1, G, (IG.unpinned (pins := [])).weak (by rw [← hw8, wipe_length]) (fun j v e => by rw [← hw8] at e; exact (wipe_some e).1), T.keep _ _ _ st7 fun b hb o e => (pn b hb o e).1, fun b hb => ?_, w'⟩
        obtain ⟨o, e, _⟩ := T.obj _ _ st7 b hb
        exact (pn b hb o e).2
      cases b with
      | false =>
        simp only [Bool.false_eq_true, if_false] at q9 ⊢
        exact fin I9 q9
      | true =>
        simp only [if_true] at q9 ⊢
        refine thnF (pe.run _ z9 σ8 H9 _ I9 q9) fun yv z10 ⟨y, H10, I10, r10, xa, k, L, ey, hx, hZ10, tx, few, nx⟩ => ?_
        subst ey
        cases r10
        exact addT (X := X.blk z3 H3 sc ce fp) hu I10 hZ10 hx tx few fun z11 L' c1 c2 I11 => fin I11 (nx L' c1 c2)
  exact codeAny_compStart_set loop (T.self X.A 0 _ _ _ st4 loop)
theorem pe_scT {el tg it : Expr} {ifs : List Expr} {sc : Scope} {own : List (PySem.Str × Nat)} {pos : Pos} {wi : TI} {g : TG} {tt : TT} {te : TE} (hc : X.calm = true) (hu : X.A.units + 64 < cLine) (nd : X.N.Nodup) (hi : PI X tg it wi) (ok : BlkOk X.N X.env.scope sc own)
    (hg : ∀ (z : Shared) (G : Hp) (C : Addr) (cl : List (PySem.Str × Addr)) (fp : List Addr), PG (X.blk z G sc (compEnvC sc cl C X.env) fp) tg g) (ht : ∀ (z : Shared) (G : Hp) (C : Addr) (cl : List (PySem.Str × Addr)) (fp : List Addr), PTs (X.blk z G sc (compEnvC sc cl C X.env) fp) ifs tt)
    (he : ∀ (z : Shared) (G : Hp) (C : Addr) (cl : List (PySem.Str × Addr)) (fp : List Addr), PE (X.blk z G sc (compEnvC sc cl C X.env) fp) el te) (fo : ∀ x, foldedSetIterable it X.env x = pure x := by intro _; rfl) : PE X (.SetComp el [⟨tg, it, ifs, 0⟩] sc pos) (tScT X.prog X.w X.K wi g tt te (own.map (·.2))) := by
  refine ⟨fun pins s σ H Q I h => ?_⟩
  rw [eval_SetComp]
  refine scT_core hc hu nd I hi ok hg ht he fo h fun Z C z m G IG q hn f => ⟨m, hn, fun h2 sb => ?_⟩
  obtain ⟨f0, f1, f2, f3, f4, f5⟩ := f
  exact ⟨.ref Z, G, IG.turned (t' := z.toks) (fun b o hb e => (sb.2 b hb).trans e) f0 f1 f3 f4 f5, rfl, q⟩
end
end WTs

set_option maxHeartbeats 4000000
/-! sorted() of a set of tuples of texts. -/
namespace WTs
open PySem PySem.Spec PyProof.Rows L2
theorem perm_map_of {α β : Type} {f : α → β} : ∀ {L : List α} {l : List β}, l.Perm (L.map f) → ∃ M : List α, l = M.map f ∧ M.Perm L
  | [], l, h => ⟨[], List.perm_nil.mp h, .refl _⟩
  | x :: L, l, h => by
    obtain ⟨l1, l2, rfl⟩ := List.append_of_mem (h.mem_iff.mpr List.mem_cons_self)
    obtain ⟨M, e, pm⟩ := perm_map_of (L := L) (l := l1 ++ l2) (List.Perm.cons_inv ((List.perm_middle).symm.trans h))
    obtain ⟨M1, M2, rfl, rfl, rfl⟩ := List.append_eq_map_iff.mp e
    exact ⟨M1 ++ x :: M2, by rw [List.map_append, List.map_cons], List.perm_middle.trans (pm.cons x)⟩
/-- a key's place in the order -/
def ordK (k : List Str) : List (Int ⊕ List Nat) := k.map fun y => Sum.inr y.cps.toList
def ltK (k l : List Str) : Bool := lexLt itemOrd (ordK k) (ordK l)
section
variable {P : Program} {w : World} {A : Around} {E : Value → Shared → Prop} {s : Shared}
theorem tup_items {sh : Nat → Bool} (all : ∀ i, sh i = true) {k : List Str} {vs : List Value} (x : ItemsAre (strKind P w) k vs) : ∀ i, tupItems sh i vs = some (ordK k) := by
  induction x with
  | nil => exact fun _ => by unfold tupItems; rfl
  | @cons y v k vs h1 _ ih =>
    obtain ⟨t, rfl⟩ := Value.isStrOf_shape h1
    intro i
    unfold tupItems
    rw [if_pos (all i), ih (i + 1)]
    rfl
theorem key_tx {sh : Nat → Bool} (all : ∀ i, sh i = true) {h : Heap} {k : List Str} {b : Addr} (x : IsK P w h k b) : G.tupKeyC h sh (.ref b) = some (ordK k) := by
  obtain ⟨o, its, n, get, c, dat, itm⟩ := x
  exact G.tupKeyC_of get c dat (tup_items all itm 0)
theorem tup_of {sh : Nat → Bool} (all : ∀ i, sh i = true) {h : Heap} {k : List Str} {b : Addr} (x : IsK P w h k b) (ne : k ≠ []) : ∃ f, TupOf h sh (.ref b) f := by
  obtain ⟨o, its, n, get, c, dat, itm⟩ := x
  obtain ⟨l⟩ := its
  cases itm with
  | nil => exact absurd rfl ne
  | @cons y v k vs h1 h2 =>
    obtain ⟨t, e⟩ := Value.isStrOf_shape h1
    exact ⟨v, b, o, _, n, rfl, get, c, dat, by simp, fun z => (by rw [all 0] at z; cases z), fun _ => ⟨y, t, e⟩⟩
theorem tups_of {sh : Nat → Bool} {h : Heap} : ∀ {vs : List Value}, (∀ v ∈ vs, ∃ f, TupOf h sh v f) → ∃ fs, TupsOf h sh vs fs
  | [], _ => ⟨[], .nil⟩
  | v :: vs, z => by
    obtain ⟨f, hf⟩ := z v List.mem_cons_self
    obtain ⟨fs, hfs⟩ := tups_of (vs := vs) fun u m => z u (List.mem_cons_of_mem _ m)
    exact ⟨f :: fs, .cons hf hfs⟩
theorem sortedT {a : Addr} {L : List (Addr × List Str)} {es : Array (Int × Value)} {ep : Nat} {t : SetTable} {Q : Value → Shared → Prop} (R : Tb P w s.heap a L es ep t) (hh : A.handled = none) (ne : ∀ p ∈ L, p.2 ≠ [])
    (hQ : ∀ s' p (out : Array Value) (c : Nat) (M : List (Addr × List Str)), (∀ b o, s.heap.get? b = some o → s'.heap.get? b = some o) → s'.gens = s.gens → s'.os = s.os → s.heap.objs.size ≤ p → s'.heap.get? p = some (seqObj "list" out c) → out.toList = M.map (fun q => Value.ref q.1) → M.Perm L →
      M.Pairwise (fun q r => ltK r.2 q.2 = false) → Q (.ref p) s') : wpAny (model P w) A (call (.builtin "sorted") [.ref a]) Q E s := by
  obtain ⟨o, get, hex, dat⟩ := R.at_
  have few := R.few
  have sz := rows_size R.rw_
  refine Calls.call_function_entry kind_sorted plain_sorted entry_sorted (args_sorted1 _) ?_
  unfold Builtin.«sorted»
  refine wpAny_bind (m := checkCount "sorted" 1 1 _) (wpAny_pure ?_)
  refine wpAny_bind (collect_set (A := A.in1) hh ⟨o, get, hex.1, dat⟩ R.fits (by unfold scanBound; omega) R.ok.ris R.led fun s1 vs k1 hz g1 o1 pm => ?_)
  have rows : es.toList.map (·.2) = L.map fun q => Value.ref q.1 := by
    rw [R.rw_, List.map_map]
    rfl
  rw [rows] at pm
  have len : vs.length < 64 := by rw [pm.length_eq, List.length_map]; exact few
  refine wpAny_bind (wpAny_newList ?_ (by rw [sizeLine_eq]; omega))
  obtain ⟨h2, e2⟩ : ∃ h2, h2 = s1.heap.push (seqObj "list" vs.toArray 0) := ⟨_, rfl⟩
  have getL : h2.get? s1.heap.objs.size = some (seqObj "list" vs.toArray 0) := by rw [e2]; exact Heap.get?_push_size _ rfl
  have keys : ∀ q ∈ L, IsK P w h2 q.2 q.1 := fun q m => by
    obtain ⟨ob, its, n, g, c, d, i⟩ := R.tx q m
    exact ⟨ob, its, n, by rw [e2]; exact Heap.get?_push_of_some _ (k1 _ _ g), c, d, i⟩
  have all : ∀ i : Nat, (fun _ : Nat => true) i = true := fun _ => rfl
  have mem : ∀ v ∈ vs, ∃ q ∈ L, v = Value.ref q.1 := fun v m => by
    obtain ⟨q, hq, e⟩ := List.mem_map.mp (pm.mem_iff.mp m)
    exact ⟨q, hq, e.symm⟩
  obtain ⟨fs, tups⟩ := tups_of (sh := fun _ => true) (h := h2) (vs := vs) fun v m => by
    obtain ⟨q, hq, rfl⟩ := mem v m
    exact tup_of all (keys q hq) (ne q hq)
  show wpAny (model P w) A.in1 _ _ _ { s1 with heap := s1.heap.push (seqObj "list" vs.toArray 0) }
  rw [← e2]
  refine wpAny_bind (wpAny_holding (wpAny_call_entry slot_list_sort ⟨_, getL, rfl⟩ entry_list_sort (G.list_sort_tups (s := { s1 with heap := h2 }) getL tups (fun v m => ?_) (by rw [sizeLine_eq]; omega) fun st perm srt _ => ⟨_, rfl, ?_⟩) (args_list_sort _)))
  · obtain ⟨q, hq, rfl⟩ := mem v m
    exact ⟨_, key_tx all (keys q hq)⟩
  have pz : (arrOf st).toList.Perm (vs.zip vs) := by
    rw [← pairsOf_toList]
    exact Array.perm_iff_toList_perm.mp perm
  have twin : ∀ p ∈ (arrOf st).toList, p.1 = p.2 ∧ p.1 ∈ vs := fun p m => mem_zip_self (pz.mem_iff.mp m)
  obtain ⟨out, eo⟩ : ∃ out, out = (arrOf st).map (·.2) := ⟨_, rfl⟩
  have ol : out.toList = (arrOf st).toList.map (·.2) := by rw [eo, Array.toList_map]
  have po : out.toList.Perm vs := by
    rw [ol]
    have z := pz.map (·.2)
    rw [List.map_snd_zip (Nat.le_refl _)] at z
    exact z
  obtain ⟨M, eM, pM⟩ := perm_map_of (po.trans pm)
  obtain ⟨c, hc⟩ := sortedHeap_at (vs := vs) (out := out) getL
  refine wpAny_pure ⟨_, rfl, ?_⟩
  rw [← eo]
  refine hQ _ s1.heap.objs.size out c M (fun b u e => ?_) g1 o1 hz hc eM pM ?_
  · have q := k1 b u e
    have lt := Heap.lt_size q
    show (sortedHeap h2 s1.heap.objs.size vs out).get? b = some u
    rw [sortedHeap_old (Nat.ne_of_lt lt) (by rw [e2, size_push']; exact Nat.lt_succ_of_lt lt), e2]
    exact Heap.get?_push_of_some _ q
  · have szA : (arrOf st).size = (pairsOf vs).size := by
      rw [← Array.length_toList, pz.length_eq, List.length_zip, pairsOf_size, Nat.min_self]
    refine List.pairwise_iff_getElem.mpr fun i j hi hj lt => ?_
    have at_ : ∀ i (hi : i < M.length), KK (G.tupKindC h2 fun _ => true) (arrOf st) i = ordK (M[i]).2 := fun i hi => by
      have hiA : i < (arrOf st).toList.length := by
        have z := congrArg List.length (ol.symm.trans eM)
        rw [List.length_map, List.length_map] at z
        omega
      have e1 : (arrOf st)[i]? = some ((arrOf st).toList[i]) := by rw [← Array.getElem?_toList, List.getElem?_eq_getElem hiA]
      have tw := (twin _ (List.getElem_mem hiA)).1
      have e3 : ((arrOf st).toList[i]).2 = Value.ref (M[i]).1 := by
        have z := congrArg (fun l => l[i]?) (ol.symm.trans eM)
        try dsimp only at z
        rw [List.getElem?_map, List.getElem?_map, List.getElem?_eq_getElem hiA, List.getElem?_eq_getElem hi] at z
        exact Option.some.inj z
      unfold KK
      rw [e1]
      show (G.tupKeyC h2 (fun _ => true) ((arrOf st).toList[i]).1).getD [] = _
      rw [tw, e3, key_tx all (keys _ (pM.mem_iff.mp (List.getElem_mem hi)))]
      rfl
    have hjA : j < (pairsOf vs).size := by
      rw [pairsOf_size]
      have := pM.length_eq
      have := pm.length_eq
      rw [List.length_map] at this
      omega
    have z := srt i j (Nat.le_of_lt lt) hjA
    rw [at_ i hi, at_ j hj] at z
    exact z
end
theorem vals_refs : ∀ M : List (Addr × List Str), Vals (M.map fun q => V.ref q.1) (M.map fun q => Value.ref q.1)
  | [] => .nil
  | p :: M => .cons (show RelV (V.ref p.1) (Value.ref p.1) from rfl) (vals_refs M)
section
variable {X : Cx}
def rSortTx (P : Program) (w : World) (K : PySem.W.Frag) : List V → Hp → VK → Prop := fun vs H Q => ∃ (a : Addr) (L : List (Addr × List Str)), vs = [V.ref a] ∧ H a = some (TbO P w a L) ∧ (∀ p ∈ L, SqT K H p.1 (p.2.map V.str)) ∧ (∀ p ∈ L, p.2 ≠ []) ∧
  ∀ (M : List (Addr × List Str)) (p : Addr), M.Perm L → (M.map (·.2)).Nodup → M.Pairwise (fun q r => ltK r.2 q.2 = false) → H p = none → Q (.ref p) (upd H p (.lst (M.map fun q => V.ref q.1)))
theorem cr_sortTx (hc : X.calm = true) : CallR X (.builtin "sorted") (rSortTx X.prog X.w X.K) := by
  intro pins s σ H vs us Q I r h
  obtain ⟨a, L, rfl, hT, tx, ne, q⟩ := h
  have R0 : Tb0 X.prog X.w s.heap a L := (I.hok a _ hT).1
  obtain ⟨es, ep, t, R⟩ := R0.full fun p hp => isK_of I (tx p hp)
  rw [Vals.ref1 r]
  refine sortedT R (I.ok.hd hc) ne fun s' p out c M keep hg ho hp get hout pm pw => ?_
  have few := R.few
  have nP : H p = none := I.hok.fresh hp
  have lenM : (M.map fun q => V.ref q.1).length ≤ sizeLine := by rw [List.length_map, sizeLine_eq, pm.length_eq]; omega
  have J : Inv X pins σ (upd H p (.lst (M.map fun q => V.ref q.1))) s' := I.call' (ch := []) ho (Un.laid keep hp nP) (I.hok.laid keep hp ⟨lenM, out.toList, c, by rw [hout]; exact vals_refs M, get⟩) (by rw [hg]; exact I.bare) (fun _ z => nomatch z)
  exact ⟨.ref p, _, J, rfl, q M p pm ((pm.map (·.2)).nodup_iff.mpr R.nd) pw nP⟩
end
end WTs

set_option maxHeartbeats 4000000
/-! List comprehensions of many clauses. -/
namespace WNc
open PySem PySem.Spec PyProof.Rows L2
/-! ### the model's words of a clause -/
def turnO (C : Expr) (d : Nat) (c : Comprehension) (i' : Expr) (it acc : Value) (env : Env) : Sem PySem.Fin := do
  standAt c.iter.pos
  match ← pyNext it with
  | none => pure (.done .next)
  | some v =>
    letOwnedTupleGo c.target it v
    assign c.target env v
    let mut ok := true
    for t in c.ifs do
      if ok then ok ← isTrue t env (eval t env)
    if ok then
      let x ← eval i' env
      standAt i'.pos
      let x ← foldedSetIterable i' env x
      let _ ← runOwn (.compStart C (d + 1) (← holding [x] (pyIter x)) acc env) env
    again (.compLoop C d it acc env)
def turnI (C : Expr) (d : Nat) (c : Comprehension) (el : Expr) (it acc : Value) (env : Env) : Sem PySem.Fin := do
  standAt c.iter.pos
  match ← pyNext it with
  | none => pure (.done .next)
  | some v =>
    letOwnedTupleGo c.target it v
    assign c.target env v
    let mut ok := true
    for t in c.ifs do
      if ok then ok ← isTrue t env (eval t env)
    if ok then
      (do let _ ← call (.builtin "list.append") [acc, ← eval el env])
    again (.compLoop C d it acc env)
section
variable {P : Program} {w : World} {A : Around} {R : Result → Shared → Prop} {s : Shared} {el i' : Expr} {gens : List Comprehension} {sc : Scope} {pos : Pos} {c : Comprehension} {d : Nat} {it acc : Value} {env : Env}
def Noted (P : Program) (w : World) (A : Around) (env : Env) (R : Result → Shared → Prop) : Value → Shared → Prop := notedBy (model P w) A env fun e s' => R (.error e) s'
/-- what a turn of a clause asks, behind its tests: G -/
def TurnOf (P : Program) (w : World) (A : Around) (c : Comprehension) (it : Value) (env : Env) (E : Value → Shared → Prop) (stop : Shared → Prop) (G : Shared → Prop) (N : Shared → Prop) (s : Shared) : Prop :=
  wpAny (model P w) A (pyNext it) (fun r s1 => match r with
    | none => stop s1
    | some v => wpAny (model P w) A (letOwnedTupleGo c.target it v) (fun _ s2 => wpAny (model P w) A (assign c.target env v) (fun _ s3 =>
        wpAny (model P w) A (forIn c.ifs true fun t r => if r = true then do let ok ← isTrue t env (eval t env); pure (ForInStep.yield ok) else pure (ForInStep.yield r)) (fun ok s4 => if ok = true then G s4 else N s4) E s3) E s2) E s1) E s
theorem loopO (eq : compTurn (.ListComp el gens sc pos) d it acc env = turnO (.ListComp el gens sc pos) d c i' it acc env) (fo : ∀ x, foldedSetIterable i' env x = pure x) (W : Nat → Shared → Prop)
    (turn : ∀ n s, W n s → TurnOf P w A c it env (Noted P w A env R) (R (.ok .next)) (fun s4 => wpAny (model P w) A (eval i' env) (fun x s5 => wpAny (model P w) A (pyIter x) (fun j s6 => codeAny (model P w) A (.compStart (.ListComp el gens sc pos) (d + 1) j acc env) (fun r s7 => match r with
      | .ok _ => ∃ m, m < n ∧ W m s7
      | .error _ => False) s6) (Noted P w A env R) s5) (Noted P w A env R) s4) (fun s4 => ∃ m, m < n ∧ W m s4) s) (n : Nat) (h : W n s) : codeAny (model P w) A (.compLoop (.ListComp el gens sc pos) d it acc env) R s := by
  refine codeAny_loop rfl W (fun n s hW => ?_) n h
  show wpAny _ A ((compTurn (.ListComp el gens sc pos) d it acc env).onRaise (fun x => do noteFrame x env; theTreesLotGoes x)) _ _ s
  refine wpAny_noted ?_
  rw [eq]
  unfold turnO
  refine wpAny_bind (wpAny_standAt (wpAny_bind (wpAny_mono (turn n s hW) (fun r s1 h1 => ?_) fun _ _ z => z)))
  cases r with
  | none => exact wpAny_pure h1
  | some v =>
    refine wpAny_bind (wpAny_mono h1 (fun _ s2 h2 => wpAny_bind (wpAny_mono h2 (fun _ s3 h3 => wpAny_bind (wpAny_mono h3 (fun ok s4 h4 => ?_) fun _ _ z => z)) fun _ _ z => z)) fun _ _ z => z)
    cases ok with
    | false => exact wpAny_pure ⟨rfl, h4⟩
    | true =>
      refine wpAny_bind (wpAny_mono h4 (fun x s5 h5 => wpAny_bind (wpAny_standAt (wpAny_bind (wpAny_of_eq (fo x) (wpAny_bind (wpAny_holding (wpAny_mono h5 (fun j s6 h6 => ?_) fun _ _ z => z))))))) fun _ _ z => z)
      refine wpAny_bind (wpAny_runOwn ?_)
      rw [Around.mark_none]
      refine codeAny_mono h6 fun r s7 hr => ?_
      cases r with
      | ok f => first | exact wpAny_pure ⟨rfl, hr⟩ | exact wpAny_bind (wpAny_pure (wpAny_pure ⟨rfl, hr⟩))
      | error e => exact hr.elim
theorem loopI (eq : compTurn (.ListComp el gens sc pos) d it acc env = turnI (.ListComp el gens sc pos) d c el it acc env) (W : Nat → Shared → Prop)
    (turn : ∀ n s, W n s → TurnOf P w A c it env (Noted P w A env R) (R (.ok .next)) (fun s4 => wpAny (model P w) A (eval el env) (fun x s5 => wpAny (model P w) A (call (.builtin "list.append") [acc, x]) (fun _ s6 => ∃ m, m < n ∧ W m s6) (Noted P w A env R) s5) (Noted P w A env R) s4) (fun s4 => ∃ m, m < n ∧ W m s4) s)
    (n : Nat) (h : W n s) : codeAny (model P w) A (.compLoop (.ListComp el gens sc pos) d it acc env) R s := by
  refine codeAny_loop rfl W (fun n s hW => ?_) n h
  show wpAny _ A ((compTurn (.ListComp el gens sc pos) d it acc env).onRaise (fun x => do noteFrame x env; theTreesLotGoes x)) _ _ s
  refine wpAny_noted ?_
  rw [eq]
  unfold turnI
  refine wpAny_bind (wpAny_standAt (wpAny_bind (wpAny_mono (turn n s hW) (fun r s1 h1 => ?_) fun _ _ z => z)))
  cases r with
  | none => exact wpAny_pure h1
  | some v =>
    refine wpAny_bind (wpAny_mono h1 (fun _ s2 h2 => wpAny_bind (wpAny_mono h2 (fun _ s3 h3 => wpAny_bind (wpAny_mono h3 (fun ok s4 h4 => ?_) fun _ _ z => z)) fun _ _ z => z)) fun _ _ z => z)
    cases ok with
    | false => exact wpAny_pure ⟨rfl, h4⟩
    | true => exact wpAny_bind (wpAny_bind (wpAny_mono h4 (fun x s5 h5 => wpAny_bind (wpAny_mono h5 (fun _ s6 h6 => wpAny_pure (wpAny_pure ⟨rfl, h6⟩)) fun _ _ z => z)) fun _ _ z => z))
/-- a clause begins -/
theorem startAt (hcl : gens[d]? = some c) (ha : c.is_async = 0) (h0 : codeAny (model P w) A (.compLoop (.ListComp el gens sc pos) d it acc env) R s) (h : wpAny (model P w) A (pyIter it) (fun j s' => codeAny (model P w) A (.compLoop (.ListComp el gens sc pos) d j acc env) R s') (Noted P w A env R) s) : codeAny (model P w) A (.compStart (.ListComp el gens sc pos) d it acc env) R s := by
  refine codeAny_of_tree ?_
  show wpAny _ _ ((compStart (.ListComp el gens sc pos) d it acc env).onRaise (fun x => do noteFrame x env; standAt theWindowsPlace)) _ _ s
  refine wpAny_notedAt ?_
  unfold compStart
  show wpAny _ _ (if ((gens[d]?).elim false (fun c => c.is_async != 0)) = true then _ else _) _ _ s
  rw [hcl]
  refine wp_if_neg (by show ¬ (some c).elim false (fun c => c.is_async != 0) = true; show ¬ (c.is_async != 0) = true; rw [ha]; decide) ?_
  try refine wpAny_bind (wpAny_pure ?_)
  show wpAny _ _ (ask >>= _) _ _ s
  refine wpAny_bind (wpAny_askSetting (wpAny_ite ?_))
  split
  · first
      | exact wpAny_bind (wpAny_pure (wpAny_pure (And.intro rfl h0)))
      | exact wpAny_pure (And.intro rfl h0)
  · refine wpAny_bind (wpAny_rule ?_)
    rw [show (clausesOf (Expr.ListComp el gens sc pos))[d]? = some c from hcl]
    show wpAny _ _ (standAt c.iter.pos >>= _) _ _ s
    exact wpAny_bind (wpAny_standAt (wpAny_bind (wpAny_mono h (fun j s' z => wpAny_pure (And.intro rfl z)) fun _ _ x => x)))
end
end WNc

set_option maxHeartbeats 4000000
/-! List comprehensions of many clauses, as expressions. -/
namespace WNc
open PySem PySem.Spec PyProof.Rows L2
/-- a clause in words; vs: the names of its target and of all behind it -/
structure ClW where
  wi : TI
  g : TG
  tt : TT
  vs : List Nat
/-- what stands behind the first clause's tests -/
def tIn (te : TE) (Z : Addr) : List ClW → L2.St → Hp → (Hp → Prop) → Prop
  | [], σ, H, Nx => te σ H fun y H7 => ∃ acc, H7 Z = some (.lst acc) ∧ acc.length < sizeLine ∧ Nx (upd H7 Z (.lst (acc ++ [y])))
  | c :: r, σ, H, Nx => c.wi σ H fun J H4 => ∃ W : Nat → Nat → Hp → Prop, (∃ m, W 0 m H4) ∧ ∀ j k G, W j k G → (J.stop j G ∧ Nx G) ∨ (J.go j G ∧ ∃ Nx1 : Hp → Prop, (∀ G', Nx1 G' → ∃ k', k' < k ∧ W (j + 1) k' G') ∧
      ∀ x G', J.yld j G x G' → c.g x (wipe σ c.vs) G' fun σ3 H5 => wipe σ3 c.vs = wipe σ c.vs ∧ c.tt σ3 H5 fun b H6 => if b = true then tIn te Z r σ3 H6 Nx1 else Nx1 H6)
def tLcN (c : ClW) (r : List ClW) (te : TE) : TE := fun σ H Q => c.wi σ H fun J H1 => ∀ Z, H1 Z = none → ∃ W : Nat → Nat → Hp → Prop, (∃ m, W 0 m (upd H1 Z (.lst []))) ∧ ∀ i m H, W i m H →
  (J.stop i H ∧ Q (.ref Z) H) ∨ (J.go i H ∧ ∃ Nx : Hp → Prop, (∀ H', Nx H' → ∃ m', m' < m ∧ W (i + 1) m' H') ∧ ∀ x H', J.yld i H x H' → c.g x (wipe σ c.vs) H' fun σ2 H2 => wipe σ2 c.vs = wipe σ c.vs ∧ c.tt σ2 H2 fun b H3 => if b = true then tIn te Z r σ2 H3 Nx else Nx H3)
structure ClOk (Y : Cx) (c : Comprehension) (k : ClW) : Prop where
  hi : PI Y c.target c.iter k.wi
  hg : PG Y c.target k.g
  ht : PTs Y c.ifs k.tt
  fo : ∀ x, foldedSetIterable c.iter Y.env x = pure x
  sy : c.is_async = 0
/-- the clauses from the d-th on turn as the model's words say -/
def Lv (el : Expr) (gens : List Comprehension) (sc : Scope) (pos : Pos) : Nat → List (Comprehension × ClW) → Prop
  | _, [] => True
  | d, [c] => gens[d]? = some c.1 ∧ ∀ it acc env, compTurn (.ListComp el gens sc pos) d it acc env = turnI (.ListComp el gens sc pos) d c.1 el it acc env
  | d, c :: c' :: r => gens[d]? = some c.1 ∧ (∀ it acc env, compTurn (.ListComp el gens sc pos) d it acc env = turnO (.ListComp el gens sc pos) d c.1 c'.1.iter it acc env) ∧ (∀ i ∈ c'.2.vs, i ∈ c.2.vs) ∧ Lv el gens sc pos (d + 1) (c' :: r)
theorem Lv.at_ {el : Expr} {gens : List Comprehension} {sc : Scope} {pos : Pos} {d : Nat} {c : Comprehension × ClW} : ∀ {r : List (Comprehension × ClW)}, Lv el gens sc pos d (c :: r) → gens[d]? = some c.1
  | [], h => h.1
  | _ :: _, h => h.1
theorem wipe_keeps {σ : L2.St} {vs : List Nat} {i : Nat} {v : V} (e : σ[i]? = some (some v)) (n : i ∉ vs) : (wipe σ vs)[i]? = some (some v) := by rw [wipe_out n]; exact e
section
variable {X : Cx} {z3 : Shared} {H3 : Hp} {sc : Scope} {ce : Env} {fp : List Addr} {el : Expr} {te : TE} {gens : List Comprehension} {pos : Pos} {Z : Addr}
theorem level (hc : X.calm = true) (pe : PE (X.blk z3 H3 sc ce fp) el te) : ∀ (r : List (Comprehension × ClW)) (c : Comprehension × ClW) (d : Nat), Lv el gens sc pos d (c :: r) → ClOk (X.blk z3 H3 sc ce fp) c.1 c.2 → (∀ b ∈ r, ClOk (X.blk z3 H3 sc ce fp) b.1 b.2) →
    ∀ (pn : List (Addr × Obj)) (σ : L2.St) (Nx : Hp → Prop) (Fin : Shared → Prop), (∀ G z, Inv (X.blk z3 H3 sc ce fp) pn (wipe σ c.2.vs) G z → Nx G → Fin z) → ∀ (E : Value → Shared → Prop) (E2 : Value → Shared → Prop) (s : Shared) (H : Hp), Inv (X.blk z3 H3 sc ce fp) pn σ H s → tIn te Z (c.2 :: r.map (·.2)) σ H Nx →
    wpAny (model X.prog X.w) X.A (eval c.1.iter ce) (fun x s5 => wpAny (model X.prog X.w) X.A (pyIter x) (fun j s6 => codeAny (model X.prog X.w) X.A (.compStart (.ListComp el gens sc pos) d j (.ref Z) ce) (fun q s7 => match q with
      | .ok _ => Fin s7
      | .error _ => False) s6) E2 s5) E s := by
  intro r
  induction r with
  | nil =>
    intro c d lv ok _ pn σ Nx Fin fin E E2 s H I h
    refine thnF (ok.hi.run pn s σ H _ I h) fun xv s5 hx => thnF hx fun iv s6 h6 => ?_
    obtain ⟨ia, f1, tn, J, H6, rfl, I6, T, st6, ff, W, ⟨m0, w0⟩, turn⟩ := h6
    have stat : ∀ {G : Hp}, (∀ b ∈ f1, G b = none) → ∀ b ∈ f1, FpOk (X.blk z3 H3 sc ce fp) pn G b := fun hn b hb => ⟨hn b hb, (ff b hb).2⟩
    have loop : codeAny (model X.prog X.w) X.A (.compLoop (.ListComp el gens sc pos) d (.ref ia) (.ref Z) ce) (fun q s7 => match q with
        | .ok _ => Fin s7
        | .error _ => False) s6 := by
      refine loopI (lv.2 _ _ _) (fun k z => ∃ j G, Inv (X.blk z3 H3 sc ce fp) pn (wipe σ c.2.vs) G z ∧ tn j z.heap ∧ (∀ b ∈ f1, G b = none) ∧ W j k G) (fun k z hW => ?_) m0 ⟨0, H6, I6.weak (wipe_length _ _) (fun j v e => (wipe_some e).1), st6, fun b hb => (ff b hb).1, w0⟩
      obtain ⟨j, G, IG, stG, nG, wG⟩ := hW
      unfold TurnOf
      rcases turn j k G wG with ⟨stop, nx⟩ | ⟨go, Nx1, hN, step⟩
      · refine thnF (T.done (X.blk z3 H3 sc ce fp) rfl rfl rfl hc j _ z _ G (fun _ _ => False) IG (stat nG) stG stop) fun q z1 ⟨hq, I1⟩ => ?_
        subst hq
        exact fin G z1 I1 nx
      · refine thnF (T.item (X.blk z3 H3 sc ce fp) rfl rfl rfl hc j _ z _ G (fun _ _ => False) IG (stat nG) stG go) fun q z1 ⟨u, hq, h1⟩ => ?_
        subst hq
        refine thnF h1 fun _ z2 ⟨x, G2, I2, r2, y2, st2, n2⟩ => ?_
        refine thnF (ok.hg.run _ z2 _ G2 x u _ (I2.pinned (stat n2) (T.obj _ _ st2)) r2 (step x G2 y2)) fun _ z4 ⟨σ4, G4, I4, hw4, q4⟩ => ?_
        refine thnF (ok.ht.run _ z4 σ4 G4 _ I4 q4) fun b z5 ⟨G5, I5, q5⟩ => ?_
        have fin1 : ∀ {z' : Shared} {G' : Hp}, Inv (X.blk z3 H3 sc ce fp) (pn ++ pinsAt f1 z2.heap) σ4 G' z' → Nx1 G' → ∃ m, m < k ∧ ∃ j G, Inv (X.blk z3 H3 sc ce fp) pn (wipe σ c.2.vs) G z' ∧ tn j z'.heap ∧ (∀ b ∈ f1, G b = none) ∧ W j m G := fun {z' G'} I' nx => by
          obtain ⟨m', hm, w'⟩ := hN G' nx
          have pin' : ∀ b ∈ f1, ∀ o, z2.heap.get? b = some o → z'.heap.get? b = some o ∧ G' b = none := fun b hb o e => let y := I'.pin (b, o) (List.mem_append_right _ (List.mem_append_right _ (mem_pinsAt hb e))); ⟨y.1, y.2.1⟩
          refine ⟨m', hm, j + 1, G', I'.unpinned.weak (by rw [← hw4, wipe_length]) (fun i v e => by rw [← hw4] at e; exact (wipe_some e).1), T.keep _ _ _ st2 fun b hb o e => (pin' b hb o e).1, fun b hb => ?_, w'⟩
          obtain ⟨o, e, _⟩ := T.obj _ _ st2 b hb
          exact (pin' b hb o e).2
        cases b with
        | false =>
          simp only [Bool.false_eq_true, if_false] at q5 ⊢
          exact fin1 I5 q5
        | true =>
          simp only [if_true] at q5 ⊢
          refine thnF (pe.run _ z5 σ4 G5 _ I5 q5) fun v z6 ⟨y, G6, I7, r6, acc, hZ6, hz6, nx⟩ => ?_
          exact app_ok (X := X.blk z3 H3 sc ce fp) I7 hZ6 hz6 r6 fun z7 I8 => fin1 I8 nx
    exact startAt lv.1 ok.sy loop (T.self X.A 0 _ _ _ st6 loop)
  | cons c' r ih =>
    intro c d lv ok oks pn σ Nx Fin fin E E2 s H I h
    obtain ⟨lg, lt, sub, lv'⟩ := lv
    have ok' := oks c' List.mem_cons_self
    refine thnF (ok.hi.run pn s σ H _ I h) fun xv s5 hx => thnF hx fun iv s6 h6 => ?_
    obtain ⟨ia, f1, tn, J, H6, rfl, I6, T, st6, ff, W, ⟨m0, w0⟩, turn⟩ := h6
    have stat : ∀ {G : Hp}, (∀ b ∈ f1, G b = none) → ∀ b ∈ f1, FpOk (X.blk z3 H3 sc ce fp) pn G b := fun hn b hb => ⟨hn b hb, (ff b hb).2⟩
    have loop : codeAny (model X.prog X.w) X.A (.compLoop (.ListComp el gens sc pos) d (.ref ia) (.ref Z) ce) (fun q s7 => match q with
        | .ok _ => Fin s7
        | .error _ => False) s6 := by
      refine loopO (lt _ _ _) ok'.fo (fun k z => ∃ j G, Inv (X.blk z3 H3 sc ce fp) pn (wipe σ c.2.vs) G z ∧ tn j z.heap ∧ (∀ b ∈ f1, G b = none) ∧ W j k G) (fun k z hW => ?_) m0 ⟨0, H6, I6.weak (wipe_length _ _) (fun j v e => (wipe_some e).1), st6, fun b hb => (ff b hb).1, w0⟩
      obtain ⟨j, G, IG, stG, nG, wG⟩ := hW
      unfold TurnOf
      rcases turn j k G wG with ⟨stop, nx⟩ | ⟨go, Nx1, hN, step⟩
      · refine thnF (T.done (X.blk z3 H3 sc ce fp) rfl rfl rfl hc j _ z _ G (fun _ _ => False) IG (stat nG) stG stop) fun q z1 ⟨hq, I1⟩ => ?_
        subst hq
        exact fin G z1 I1 nx
      · refine thnF (T.item (X.blk z3 H3 sc ce fp) rfl rfl rfl hc j _ z _ G (fun _ _ => False) IG (stat nG) stG go) fun q z1 ⟨u, hq, h1⟩ => ?_
        subst hq
        refine thnF h1 fun _ z2 ⟨x, G2, I2, r2, y2, st2, n2⟩ => ?_
        refine thnF (ok.hg.run _ z2 _ G2 x u _ (I2.pinned (stat n2) (T.obj _ _ st2)) r2 (step x G2 y2)) fun _ z4 ⟨σ4, G4, I4, hw4, q4⟩ => ?_
        refine thnF (ok.ht.run _ z4 σ4 G4 _ I4 q4) fun b z5 ⟨G5, I5, q5⟩ => ?_
        have fin1 : ∀ {σ9 : L2.St} {z' : Shared} {G' : Hp}, Inv (X.blk z3 H3 sc ce fp) (pn ++ pinsAt f1 z2.heap) σ9 G' z' → (wipe σ c.2.vs).length = σ9.length → (∀ (i : Nat) v, (wipe σ c.2.vs)[i]? = some (some v) → σ9[i]? = some (some v)) → Nx1 G' →
            ∃ m, m < k ∧ ∃ j G, Inv (X.blk z3 H3 sc ce fp) pn (wipe σ c.2.vs) G z' ∧ tn j z'.heap ∧ (∀ b ∈ f1, G b = none) ∧ W j m G := fun {σ9 z' G'} I' hl hk nx => by
          obtain ⟨m', hm, w'⟩ := hN G' nx
          have pin' : ∀ b ∈ f1, ∀ o, z2.heap.get? b = some o → z'.heap.get? b = some o ∧ G' b = none := fun b hb o e => let y := I'.pin (b, o) (List.mem_append_right _ (List.mem_append_right _ (mem_pinsAt hb e))); ⟨y.1, y.2.1⟩
          refine ⟨m', hm, j + 1, G', I'.unpinned.weak hl hk, T.keep _ _ _ st2 fun b hb o e => (pin' b hb o e).1, fun b hb => ?_, w'⟩
          obtain ⟨o, e, _⟩ := T.obj _ _ st2 b hb
          exact (pin' b hb o e).2
        have l4 : (wipe σ c.2.vs).length = σ4.length := by rw [← hw4, wipe_length]
        have k4 : ∀ (i : Nat) v, (wipe σ c.2.vs)[i]? = some (some v) → σ4[i]? = some (some v) ∧ i ∉ c.2.vs := fun i v e => by
          rw [← hw4] at e
          exact wipe_some e
        cases b with
        | false =>
          simp only [Bool.false_eq_true, if_false] at q5 ⊢
          exact fin1 I5 l4 (fun i v e => (k4 i v e).1) q5
        | true =>
          simp only [if_true] at q5 ⊢
          exact ih c' (d + 1) lv' ok' (fun b hb => oks b (List.mem_cons_of_mem _ hb)) _ σ4 Nx1 _ (fun G' z' I' nx => fin1 I' (l4.trans (wipe_length σ4 c'.2.vs).symm) (fun i v e => wipe_keeps (k4 i v e).1 fun m => (k4 i v e).2 (sub i m)) nx) _ _ z5 G5 I5 q5
    exact startAt lg ok.sy loop (T.self X.A 0 _ _ _ st6 loop)
end
end WNc

set_option maxHeartbeats 4000000
/-! A list comprehension of two and more clauses. -/
namespace WNc
open PySem PySem.Spec PyProof.Rows L2
abbrev newListO : Obj := { cls := .type "list", data := .seq ([] : List Value).toArray }
section
variable {X : Cx}
theorem lcN_core {pins : List (Addr × Obj)} {s : Shared} {σ : L2.St} {H : Hp} {Q : VK} {el : Expr} {c0 : Comprehension} {gens : List Comprehension} {sc : Scope} {own : List (Str × Nat)} {p1 p2 : Pos} {k0 : ClW} {c' : Comprehension × ClW} {r : List (Comprehension × ClW)} {te : TE} {us : Option (Value → Sem Unit)} {Qf : Value → Shared → Prop}
    (hc : X.calm = true) (nd : X.N.Nodup) (I : Inv X pins σ H s) (hi : PI X c0.target c0.iter k0.wi) (ok : BlkOk X.N X.env.scope sc own) (hv : k0.vs = own.map (·.2)) (sy : c0.is_async = 0) (hgs : gens = c0 :: c'.1 :: r.map (·.1))
    (lv : Lv el gens sc p1 0 ((c0, k0) :: c' :: r)) (hg : ∀ (z : Shared) (G : Hp) (C : Addr) (cl : List (Str × Addr)) (fp : List Addr), PG (X.blk z G sc (compEnvC sc cl C X.env) fp) c0.target k0.g) (ht : ∀ (z : Shared) (G : Hp) (C : Addr) (cl : List (Str × Addr)) (fp : List Addr), PTs (X.blk z G sc (compEnvC sc cl C X.env) fp) c0.ifs k0.tt)
    (he : ∀ (z : Shared) (G : Hp) (C : Addr) (cl : List (Str × Addr)) (fp : List Addr), PE (X.blk z G sc (compEnvC sc cl C X.env) fp) el te) (hr : ∀ b ∈ c' :: r, ∀ (z : Shared) (G : Hp) (C : Addr) (cl : List (Str × Addr)) (fp : List Addr), ClOk (X.blk z G sc (compEnvC sc cl C X.env) fp) b.1 b.2)
    (fo : ∀ x, foldedSetIterable c0.iter X.env x = pure x) (h : tLcN k0 (c'.2 :: r.map (·.2)) te σ H Q)
    (back : ∀ Z C z m G, Inv X pins σ G z → Q (.ref Z) G → z.heap.Ns C m → FpOk X pins G C → compPost (model X.prog X.w) X.A X.xe us Qf (.ref Z) C (.ok .next) z) :
    wpAny (model X.prog X.w) X.A (comprehension (.ListComp el gens sc p1) sc X.env p2 (newList []) false (eval c0.iter X.env) us) Qf X.xe s := by
  subst hgs
  have cells : ∀ y ∈ sc.names, y.2 = .free → ∃ c, X.env.cells.lookup y.1 = some c := fun y hy e => (ok.free y hy e).elim (fun z => I.ok.has _ (.inl z)) (fun z => I.ok.has _ (.inr z))
  refine wpAny_comprehension_free (use := us) rfl fo (closure_ok cells) ok.kind (fun y hy e => by rw [ok.uniq y hy, e]) (thn (hi.run pins s σ H _ I h) fun xv z1 hx => thn hx fun iv z2 h2 => ?_)
  obtain ⟨ia, fp, tn, J, H2, rfl, I2, T, st2, f2, q⟩ := h2
  refine wpAny_newObj_type (newEnv_comp ?_) (by show 0 ≤ sizeLine; decide)
  obtain ⟨Z, hZ⟩ : ∃ Z, Z = z2.heap.objs.size := ⟨_, rfl⟩
  rw [← hZ]
  have nZ : H2 Z = none := I2.hok.fresh (Nat.le_of_eq hZ.symm)
  obtain ⟨W, ⟨m0, w0⟩, turn⟩ := q Z nZ
  obtain ⟨z3, hz3⟩ : ∃ z3 : Shared, z3 = { z2 with heap := z2.heap.push newListO } := ⟨_, rfl⟩
  have heap3 : z3.heap = z2.heap.push newListO := by rw [hz3]
  have I3 : Inv X pins σ (upd H2 Z (.lst [])) z3 := by
    rw [hz3]
    exact I2.laid (t' := z2.toks) (fun b o e => Heap.get?_push_of_some _ e) (Nat.le_of_eq hZ.symm) ⟨Nat.zero_le _, [], 0, .nil, by rw [hZ]; exact Heap.get?_push_size _ rfl⟩
  have f3 : ∀ b ∈ fp, FpOk X pins (upd H2 Z (.lst [])) b ∧ b < z3.heap.objs.size := fun b hb => by
    obtain ⟨o, e, _⟩ := T.obj _ _ st2 b hb
    have lt := Heap.lt_size e
    refine ⟨⟨?_, (f2 b hb).2⟩, by rw [heap3, Heap.size_push]; exact Nat.lt_succ_of_lt lt⟩
    rw [upd_ne (by rw [hZ]; exact Nat.ne_of_lt lt)]
    exact (f2 b hb).1
  have st3 : tn 0 z3.heap := T.keep _ _ _ st2 fun b _ o e => by rw [heap3]; exact Heap.get?_push_of_some _ e
  have I4 := block_start I3 ok nd f3
  have e3 : ({ z2 with heap := z2.heap.push newListO } : Shared) = z3 := hz3.symm
  show codeAny _ _ (.compStart (.ListComp el (c0 :: c'.1 :: r.map (·.1)) sc p1) 0 (.ref ia) (.ref Z) (compEnvC sc (cellsFrom (Shared.heap { z2 with heap := z2.heap.push newListO }).objs.size.succ sc.names (cloFrom X.env.cells sc.names [])) (Shared.heap { z2 with heap := z2.heap.push newListO }).objs.size X.env))
    (compPost (model X.prog X.w) X.A X.xe us Qf (.ref Z) (Shared.heap { z2 with heap := z2.heap.push newListO }).objs.size) { z2 with heap := pushCells ((Shared.heap { z2 with heap := z2.heap.push newListO }).push { cls := .type "dict", data := .dict #[] }) sc.names }
  have e4 : ({ z2 with heap := pushCells ((Shared.heap { z2 with heap := z2.heap.push newListO }).push { cls := .type "dict", data := .dict #[] }) sc.names } : Shared) = { z3 with heap := pushCells (z3.heap.push { cls := .type "dict", data := .dict #[] }) sc.names } := by rw [hz3]
  rw [e4, e3]
  have pg := hg z3 (upd H2 Z (.lst [])) z3.heap.objs.size (cellsFrom z3.heap.objs.size.succ sc.names (cloFrom X.env.cells sc.names [])) fp
  have pt := ht z3 (upd H2 Z (.lst [])) z3.heap.objs.size (cellsFrom z3.heap.objs.size.succ sc.names (cloFrom X.env.cells sc.names [])) fp
  have pe := he z3 (upd H2 Z (.lst [])) z3.heap.objs.size (cellsFrom z3.heap.objs.size.succ sc.names (cloFrom X.env.cells sc.names [])) fp
  have pr := fun b hb => hr b hb z3 (upd H2 Z (.lst [])) z3.heap.objs.size (cellsFrom z3.heap.objs.size.succ sc.names (cloFrom X.env.cells sc.names [])) fp
  have none3 : ∀ b ∈ fp, (upd H2 Z (.lst [])) b = none := fun b hb => (f3 b hb).1.1
  have I4 : Inv (X.blk z3 (upd H2 Z (.lst [])) sc (compEnvC sc (cellsFrom z3.heap.objs.size.succ sc.names (cloFrom X.env.cells sc.names [])) z3.heap.objs.size X.env) fp) [] (wipe σ (own.map (·.2))) (upd H2 Z (.lst [])) { z3 with heap := pushCells (z3.heap.push { cls := .type "dict", data := .dict #[] }) sc.names } := I4
  rw [← hv] at I4
  generalize hce : compEnvC sc (cellsFrom z3.heap.objs.size.succ sc.names (cloFrom X.env.cells sc.names [])) z3.heap.objs.size X.env = ce at I4 pg pt pe pr ⊢
  have cl : ce.locals = z3.heap.objs.size := by rw [← hce]; rfl
  generalize upd H2 Z (.lst []) = H3 at I3 I4 pg pt pe pr w0 none3 f3
  obtain ⟨z4, hz4⟩ : ∃ z4 : Shared, z4 = { z3 with heap := pushCells (z3.heap.push { cls := .type "dict", data := .dict #[] }) sc.names } := ⟨_, rfl⟩
  rw [← hz4] at I4 ⊢
  have st4 : tn 0 z4.heap := T.keep _ _ _ st3 fun b _ o e => by rw [hz4]; exact pushCells_keeps _ _ _ _ (Heap.get?_push_of_some _ e)
  have fpB : ∀ {σ' : L2.St} {G : Hp} {z : Shared}, Inv (X.blk z3 H3 sc ce fp) [] σ' G z → (∀ b ∈ fp, G b = none) → ∀ b ∈ fp, FpOk (X.blk z3 H3 sc ce fp) [] G b := fun J hn b hb =>
    ⟨hn b hb, (J.ok.exf b hb).1, J.ok.exfs b hb, .inl hb, fun x c e => (J.ok.exf b hb).2 x c e, fun p hp => absurd (show p ∈ ([] : List (Addr × Obj)) ++ [] from hp) (by simp)⟩
  have loop : codeAny (model X.prog X.w) X.A (.compLoop (.ListComp el (c0 :: c'.1 :: r.map (·.1)) sc p1) 0 (.ref ia) (.ref Z) ce) (compPost (model X.prog X.w) X.A X.xe us Qf (.ref Z) z3.heap.objs.size) z4 := by
    refine loopO (lv.2.1 _ _ _) (pr c' List.mem_cons_self).fo (fun n z => ∃ i G, Inv (X.blk z3 H3 sc ce fp) [] (wipe σ k0.vs) G z ∧ tn i z.heap ∧ (∀ b ∈ fp, G b = none) ∧ W i n G) (fun n z5 hW => ?_) m0 ⟨0, H3, I4, st4, none3, w0⟩
    obtain ⟨i, H5, I5, st5, n5, w5⟩ := hW
    unfold TurnOf
    rcases turn i n H5 w5 with ⟨stop, qq⟩ | ⟨go, Nx, hNx, step⟩
    · refine thnF (T.done (X.blk z3 H3 sc ce fp) rfl rfl rfl hc i [] z5 _ H5 (fun _ _ => False) I5 (fpB I5 n5) st5 stop) fun q z6 ⟨hq, I6⟩ => ?_
      subst hq
      have I7 : Inv X pins σ H5 z6 := I3.call' (ch := fp) I6.os I6.base I6.hok I6.bare fun b hb => ⟨(f3 b hb).1.2.2.2.1, (f3 b hb).1.2.1, (f3 b hb).1.2.2.2.2.1, (f3 b hb).1.2.2.2.2.2⟩
      have nC : H5 z3.heap.objs.size = none := by rw [← cl]; exact I6.free
      obtain ⟨m, hn, _⟩ := I6.loc
      exact back Z z3.heap.objs.size z6 m H5 I7 qq (by rw [← cl]; exact hn) (I3.fpOk (Nat.le_refl _) nC)
    · refine thnF (T.item (X.blk z3 H3 sc ce fp) rfl rfl rfl hc i [] z5 _ H5 (fun _ _ => False) I5 (fpB I5 n5) st5 go) fun q z6 ⟨u, hq, h6⟩ => ?_
      subst hq
      refine thnF h6 fun _ z7 ⟨x, H7, I7, r7, y7, st7, n7⟩ => ?_
      refine thnF (pg.run _ z7 _ H7 x u _ (I7.pinned (fpB I7 n7) (T.obj _ _ st7)) r7 (step x H7 y7)) fun _ z8 ⟨σ8, H8, I8, hw8, q8⟩ => ?_
      refine thnF (pt.run _ z8 σ8 H8 _ I8 q8) fun b z9 ⟨H9, I9, q9⟩ => ?_
      have fin : ∀ {σ9 : L2.St} {z : Shared} {G : Hp}, Inv (X.blk z3 H3 sc ce fp) ([] ++ pinsAt fp z7.heap) σ9 G z → (wipe σ k0.vs).length = σ9.length → (∀ (i : Nat) v, (wipe σ k0.vs)[i]? = some (some v) → σ9[i]? = some (some v)) → Nx G →
          ∃ m, m < n ∧ ∃ i G, Inv (X.blk z3 H3 sc ce fp) [] (wipe σ k0.vs) G z ∧ tn i z.heap ∧ (∀ b ∈ fp, G b = none) ∧ W i m G := fun {σ9 z G} IG hl hk nx => by
        obtain ⟨m', hm, w'⟩ := hNx G nx
        have pn : ∀ b ∈ fp, ∀ o, z7.heap.get? b = some o → z.heap.get? b = some o ∧ G b = none := fun b hb o e => let y := IG.pin (b, o) (List.mem_append_right _ (List.mem_append_right _ (mem_pinsAt hb e))); ⟨y.1, y.2.1⟩
        refine ⟨m', hm, i + 1, G, (IG.unpinned (pins := [])).weak hl hk, T.keep _ _ _ st7 fun b hb o e => (pn b hb o e).1, fun b hb => ?_, w'⟩
        obtain ⟨o, e, _⟩ := T.obj _ _ st7 b hb
        exact (pn b hb o e).2
      have l8 : (wipe σ k0.vs).length = σ8.length := by rw [← hw8, wipe_length]
      have k8 : ∀ (i : Nat) v, (wipe σ k0.vs)[i]? = some (some v) → σ8[i]? = some (some v) ∧ i ∉ k0.vs := fun i v e => by
        rw [← hw8] at e
        exact wipe_some e
      cases b with
      | false =>
        simp only [Bool.false_eq_true, if_false] at q9 ⊢
        exact fin I9 l8 (fun i v e => (k8 i v e).1) q9
      | true =>
        simp only [if_true] at q9 ⊢
        exact level hc pe r c' 1 lv.2.2.2 (pr c' List.mem_cons_self) (fun b hb => pr b (List.mem_cons_of_mem _ hb)) _ σ8 Nx _ (fun G z IG nx => fin IG (l8.trans (wipe_length σ8 c'.2.vs).symm) (fun i v e => wipe_keeps (k8 i v e).1 fun m => (k8 i v e).2 (lv.2.2.1 i m)) nx) _ _ z9 H9 I9 q9
  exact startAt rfl sy loop (T.self X.A 0 _ _ _ st4 loop)
theorem pe_lcN {el : Expr} {c0 : Comprehension} {gens : List Comprehension} {sc : Scope} {own : List (Str × Nat)} {pos : Pos} {k0 : ClW} {c' : Comprehension × ClW} {r : List (Comprehension × ClW)} {te : TE}
    (hc : X.calm = true) (nd : X.N.Nodup) (hi : PI X c0.target c0.iter k0.wi) (ok : BlkOk X.N X.env.scope sc own) (hv : k0.vs = own.map (·.2)) (sy : c0.is_async = 0) (hgs : gens = c0 :: c'.1 :: r.map (·.1)) (lv : Lv el gens sc pos 0 ((c0, k0) :: c' :: r))
    (hg : ∀ (z : Shared) (G : Hp) (C : Addr) (cl : List (Str × Addr)) (fp : List Addr), PG (X.blk z G sc (compEnvC sc cl C X.env) fp) c0.target k0.g) (ht : ∀ (z : Shared) (G : Hp) (C : Addr) (cl : List (Str × Addr)) (fp : List Addr), PTs (X.blk z G sc (compEnvC sc cl C X.env) fp) c0.ifs k0.tt)
    (he : ∀ (z : Shared) (G : Hp) (C : Addr) (cl : List (Str × Addr)) (fp : List Addr), PE (X.blk z G sc (compEnvC sc cl C X.env) fp) el te) (hr : ∀ b ∈ c' :: r, ∀ (z : Shared) (G : Hp) (C : Addr) (cl : List (Str × Addr)) (fp : List Addr), ClOk (X.blk z G sc (compEnvC sc cl C X.env) fp) b.1 b.2)
    (fo : ∀ x, foldedSetIterable c0.iter X.env x = pure x) : PE X (.ListComp el gens sc pos) (tLcN k0 (c'.2 :: r.map (·.2)) te) := by
  refine ⟨fun pins s σ H Q I h => ?_⟩
  have hev : eval (.ListComp el gens sc pos) X.env = comprehension (.ListComp el gens sc pos) sc X.env (firstIterPos gens pos) (newList []) (firstAsync gens) (firstIter gens X.env) := rfl
  have h1 : firstAsync gens = false := by rw [hgs]; obtain ⟨a, b, c, d⟩ := c0; dsimp only at sy; subst sy; rfl
  have h2 : firstIter gens X.env = eval c0.iter X.env := by rw [hgs]; obtain ⟨a, b, c, d⟩ := c0; rfl
  rw [hev, h1, h2]
  refine lcN_core hc nd I hi ok hv sy hgs lv hg ht he hr fo h fun Z C z m G IG q hn f => ⟨m, hn, fun h2 sb => ?_⟩
  obtain ⟨f0, f1, f2, f3, f4, f5⟩ := f
  exact ⟨.ref Z, G, IG.turned (t' := z.toks) (fun b o hb e => (sb.2 b hb).trans e) f0 f1 f3 f4 f5, rfl, q⟩
end
end WNc

set_option maxHeartbeats 4000000
/-! Comprehensions of four clauses; clauses over tuples, read. -/
namespace WNc
open PySem PySem.Spec PyProof.Rows L2 Evl
theorem lv4 {el : Expr} {gens : List Comprehension} {sc : Scope} {pos : Pos} {c0 c1 c2 c3 : Comprehension × ClW} (g : gens = [c0.1, c1.1, c2.1, c3.1]) (a0 : c0.1.is_async = 0) (a1 : c1.1.is_async = 0) (a2 : c2.1.is_async = 0) (a3 : c3.1.is_async = 0) (s1 : ∀ i ∈ c1.2.vs, i ∈ c0.2.vs) (s2 : ∀ i ∈ c2.2.vs, i ∈ c1.2.vs) (s3 : ∀ i ∈ c3.2.vs, i ∈ c2.2.vs) :
    Lv el gens sc pos 0 [c0, c1, c2, c3] := by
  obtain ⟨⟨t0, i0, f0, n0⟩, k0⟩ := c0
  obtain ⟨⟨t1, i1, f1, n1⟩, k1⟩ := c1
  obtain ⟨⟨t2, i2, f2, n2⟩, k2⟩ := c2
  obtain ⟨⟨t3, i3, f3, n3⟩, k3⟩ := c3
  dsimp only at g a0 a1 a2 a3 s1 s2 s3
  subst g a0 a1 a2 a3
  exact ⟨rfl, fun _ _ _ => rfl, s1, rfl, fun _ _ _ => rfl, s2, rfl, fun _ _ _ => rfl, s3, rfl, fun _ _ _ => rfl⟩
section
variable {K : PySem.W.Frag} {te tl : TE} {Z a : Addr} {r : List ClW} {g : TG} {tt : TT} {vs : List Nat} {σ : L2.St} {H : Hp} {Nx : Hp → Prop} {xs : List V}
theorem in_tup (Pv : Nat → Hp → Prop) (h : ∀ R : V → Hp → Prop, (∀ H1, Ex H H1 → R (.ref a) H1) → tl σ H R) (h0 : ∀ H1, Ex H H1 → Pv 0 H1) (hx : ∀ G, SqT K G a xs)
    (hs : ∀ i x G, xs[i]? = some x → Pv i G → g x (wipe σ vs) G fun σ3 H5 => wipe σ3 vs = wipe σ vs ∧ tt σ3 H5 fun b H6 => if b = true then tIn te Z r σ3 H6 (Pv (i + 1)) else Pv (i + 1) H6) (hd : ∀ G, Pv xs.length G → Nx G) : tIn te Z (⟨iTup K tl, g, tt, vs⟩ :: r) σ H Nx := by
  refine h _ fun H1 e1 => ⟨a, rfl, ⟨xs, hx _⟩, fun i m G => m = xs.length - i ∧ i ≤ xs.length ∧ Pv i G, ⟨xs.length, (Nat.sub_zero _).symm, Nat.zero_le _, h0 H1 e1⟩, ?_⟩
  rintro i m G ⟨rfl, hi, p⟩
  by_cases lt : i < xs.length
  · refine .inr ⟨⟨xs, xs[i], hx G, List.getElem?_eq_getElem lt⟩, Pv (i + 1), fun G' p' => ⟨xs.length - (i + 1), by omega, rfl, lt, p'⟩, fun x G' y => ?_⟩
    obtain ⟨rfl, y⟩ := y
    exact hs i x _ (y xs (hx _)) p
  · obtain rfl : i = xs.length := by omega
    exact .inl ⟨⟨xs, hx G, Nat.le_refl _⟩, hd G p⟩
/-- a clause over a tuple of values, no test; Got: what the list holds -/
theorem in_all {α : Type} {as : List α} {enc : α → V} {β : Type} {gx : α → List β} {Got : List β → Hp → Prop} {j : Nat} {pre : List β} (hx : ∀ G, SqT K G a (as.map enc)) (hG : Got pre H) (hw : ∀ x, wipe ((wipe σ vs).set j (some x)) vs = wipe σ vs)
    (hs : ∀ n b, as[n]? = some b → ∀ G Nx', Got (pre ++ (as.take n).flatMap gx) G → (∀ G', Got (pre ++ (as.take n).flatMap gx ++ gx b) G' → Nx' G') → tIn te Z r ((wipe σ vs).set j (some (enc b))) G Nx') (hd : ∀ G, Got (pre ++ as.flatMap gx) G → Nx G) (ex : ∀ l G G', Got l G → Ex G G' → Got l G') : tIn te Z (⟨iTup K (tC (.ref a)), gName j, tYes, vs⟩ :: r) σ H Nx := by
  refine in_tup (xs := as.map enc) (fun i G => Got (pre ++ (as.take i).flatMap gx) G) (fun R q => q H (Ex.refl H)) (fun H1 e1 => ?_) hx (fun i x G hi p => ?_) (fun G p => ?_)
  · show Got (pre ++ []) H1
    rw [List.append_nil]
    exact ex _ _ _ hG e1
  · rw [List.getElem?_map] at hi
    cases hb : as[i]? with
    | none => rw [hb] at hi; cases hi
    | some b =>
      rw [hb] at hi
      cases hi
      refine ⟨hw _, ?_⟩
      show (if true = true then tIn te Z r ((wipe σ vs).set j (some (enc b))) G (fun G => Got (pre ++ (as.take (i + 1)).flatMap gx) G) else Got (pre ++ (as.take (i + 1)).flatMap gx) G)
      rw [if_pos rfl]
      refine hs i b hb G _ p fun G' p' => ?_
      rw [List.take_add_one, hb, List.flatMap_append, ← List.append_assoc]
      show Got (pre ++ (as.take i).flatMap gx ++ (gx b ++ [])) G'
      rw [List.append_nil]
      exact p'
  · rw [List.length_map, List.take_length] at p
    exact hd G p
end
end WNc

set_option maxHeartbeats 4000000
/-! Four clauses as one rule; first clauses over lists, read; a set made over a list, read. -/
namespace WNc
open PySem PySem.Spec PyProof.Rows L2 Evl
section
variable {X : Cx}
theorem pe_lc4 {el t0 i0 t1 i1 t2 i2 t3 i3 : Expr} {sc : Scope} {own : List (Str × Nat)} {pos : Pos} {w0 w1 w2 w3 : TI} {g0 g1 g2 g3 : TG} {v1 v2 v3 : List Nat} {te : TE} (hc : X.calm = true) (nd : X.N.Nodup) (hi0 : PI X t0 i0 w0) (ok : BlkOk X.N X.env.scope sc own)
    (s1 : ∀ i ∈ v1, i ∈ own.map (·.2)) (s2 : ∀ i ∈ v2, i ∈ v1) (s3 : ∀ i ∈ v3, i ∈ v2) (hg0 : ∀ (z : Shared) (G : Hp) (C : Addr) (cl : List (Str × Addr)) (fp : List Addr), PG (X.blk z G sc (compEnvC sc cl C X.env) fp) t0 g0)
    (hi1 : ∀ (z : Shared) (G : Hp) (C : Addr) (cl : List (Str × Addr)) (fp : List Addr), PI (X.blk z G sc (compEnvC sc cl C X.env) fp) t1 i1 w1) (hg1 : ∀ (z : Shared) (G : Hp) (C : Addr) (cl : List (Str × Addr)) (fp : List Addr), PG (X.blk z G sc (compEnvC sc cl C X.env) fp) t1 g1)
    (hi2 : ∀ (z : Shared) (G : Hp) (C : Addr) (cl : List (Str × Addr)) (fp : List Addr), PI (X.blk z G sc (compEnvC sc cl C X.env) fp) t2 i2 w2) (hg2 : ∀ (z : Shared) (G : Hp) (C : Addr) (cl : List (Str × Addr)) (fp : List Addr), PG (X.blk z G sc (compEnvC sc cl C X.env) fp) t2 g2)
    (hi3 : ∀ (z : Shared) (G : Hp) (C : Addr) (cl : List (Str × Addr)) (fp : List Addr), PI (X.blk z G sc (compEnvC sc cl C X.env) fp) t3 i3 w3) (hg3 : ∀ (z : Shared) (G : Hp) (C : Addr) (cl : List (Str × Addr)) (fp : List Addr), PG (X.blk z G sc (compEnvC sc cl C X.env) fp) t3 g3)
    (he : ∀ (z : Shared) (G : Hp) (C : Addr) (cl : List (Str × Addr)) (fp : List Addr), PE (X.blk z G sc (compEnvC sc cl C X.env) fp) el te) (fo0 : ∀ x, foldedSetIterable i0 X.env x = pure x := by intro _; rfl) (fo1 : ∀ e x, foldedSetIterable i1 e x = pure x := by intro _ _; rfl)
    (fo2 : ∀ e x, foldedSetIterable i2 e x = pure x := by intro _ _; rfl) (fo3 : ∀ e x, foldedSetIterable i3 e x = pure x := by intro _ _; rfl) :
    PE X (.ListComp el [⟨t0, i0, [], 0⟩, ⟨t1, i1, [], 0⟩, ⟨t2, i2, [], 0⟩, ⟨t3, i3, [], 0⟩] sc pos) (tLcN ⟨w0, g0, tYes, own.map (·.2)⟩ [⟨w1, g1, tYes, v1⟩, ⟨w2, g2, tYes, v2⟩, ⟨w3, g3, tYes, v3⟩] te) := by
  refine pe_lcN (c0 := ⟨t0, i0, [], 0⟩) (k0 := ⟨w0, g0, tYes, own.map (·.2)⟩) (c' := (⟨t1, i1, [], 0⟩, ⟨w1, g1, tYes, v1⟩)) (r := [(⟨t2, i2, [], 0⟩, ⟨w2, g2, tYes, v2⟩), (⟨t3, i3, [], 0⟩, ⟨w3, g3, tYes, v3⟩)]) (own := own) hc nd hi0 ok rfl rfl rfl
    (lv4 rfl rfl rfl rfl rfl s1 s2 s3) hg0 (fun _ _ _ _ _ => pts_nil) he (fun b hb z G C cl fp => ?_) fo0
  rcases List.mem_cons.mp hb with rfl | hb
  · exact ⟨hi1 z G C cl fp, hg1 z G C cl fp, pts_nil, fo1 _, rfl⟩
  rcases List.mem_cons.mp hb with rfl | hb
  · exact ⟨hi2 z G C cl fp, hg2 z G C cl fp, pts_nil, fo2 _, rfl⟩
  rw [List.mem_singleton.mp hb]
  exact ⟨hi3 z G C cl fp, hg3 z G C cl fp, pts_nil, fo3 _, rfl⟩
end
section
variable {K : PySem.W.Frag} {te : TE} {Z a : Addr} {r : List ClW} {g : TG} {tt : TT} {vs : List Nat} {σ : L2.St} {H1 : Hp} {Qd : Hp → Prop} {xs : List V}
/-- what a loop over the list at a does in a comprehension: T is one turn's word -/
theorem over_list {T : V → Hp → (Hp → Prop) → Prop} {H0 : Hp} (Pv : Nat → Hp → Prop) (h0 : Pv 0 H0) (hl : ∀ i G, Pv i G → SqL K G a xs) (hs : ∀ i x G, xs[i]? = some x → Pv i G → T x G (Pv (i + 1))) (hd : ∀ G, Pv xs.length G → Qd G) :
    ∃ W : Nat → Nat → Hp → Prop, (∃ m, W 0 m H0) ∧ ∀ i m H, W i m H → ((Itl K a).stop i H ∧ Qd H) ∨ ((Itl K a).go i H ∧ ∃ Nx : Hp → Prop, (∀ H', Nx H' → ∃ m', m' < m ∧ W (i + 1) m' H') ∧ ∀ x H', (Itl K a).yld i H x H' → T x H' Nx) := by
  refine ⟨fun i m G => m = xs.length - i ∧ i ≤ xs.length ∧ Pv i G, ⟨xs.length, (Nat.sub_zero _).symm, Nat.zero_le _, h0⟩, ?_⟩
  rintro i m G ⟨rfl, hi, p⟩
  by_cases lt : i < xs.length
  · refine .inr ⟨⟨xs, xs[i], hl i G p, List.getElem?_eq_getElem lt⟩, Pv (i + 1), fun G' p' => ⟨xs.length - (i + 1), by omega, rfl, lt, p'⟩, fun x G' y => ?_⟩
    obtain ⟨rfl, y⟩ := y
    exact hs i x _ (y xs (hl i _ p)) p
  · obtain rfl : i = xs.length := by omega
    exact .inl ⟨⟨xs, hl _ G p, Nat.le_refl _⟩, hd G p⟩
end
end WNc
namespace WTs
open PySem PySem.Spec PyProof.Rows L2 Evl WL
theorem sub_len {α : Type} [DecidableEq α] : ∀ {l D : List α}, l.Nodup → (∀ x ∈ l, x ∈ D) → l.length ≤ D.length
  | [], _, _, _ => Nat.zero_le _
  | x :: l, D, nd, h => by
    obtain ⟨n1, n2⟩ := List.nodup_cons.mp nd
    have hx := h x List.mem_cons_self
    have z := sub_len (l := l) (D := D.erase x) n2 fun y hy => (List.mem_erase_of_ne (fun e => n1 (by rw [← e]; exact hy))).mpr (h y (List.mem_cons_of_mem _ hy))
    rw [List.length_erase_of_mem hx] at z
    have := List.length_pos_of_mem hx
    show l.length + 1 ≤ _
    omega
theorem sqT_upd {K : PySem.W.Frag} {G : Hp} {Z p : Addr} {o o' : HO} {xs : List V} (h : G Z = some o) (n1 : ∀ xs, o ≠ .tup xs) (n2 : ∀ b u, o ≠ .frz b u) (x : SqT K G p xs) : SqT K (upd G Z o') p xs := by
  rcases x with (x | ⟨b, x⟩) | x
  · exact .inl (.inl (by rw [upd_ne fun e => (by rw [e, h] at x; exact n1 _ (Option.some.inj x))]; exact x))
  · exact .inl (.inr ⟨b, by rw [upd_ne fun e => (by rw [e, h] at x; exact n2 _ _ (Option.some.inj x))]; exact x⟩)
  · exact .inr x
/-- what the set at Z holds after some items: keys -/
structure GotK (P : Program) (w : World) (K : PySem.W.Frag) (H0 : Hp) (Z : Addr) (ks : List (List Str)) (G : Hp) : Prop where
  no : H0 Z = none
  ex : Ex H0 G
  is : ∃ L, G Z = some (TbO P w Z L) ∧ (∀ p ∈ L, SqT K G p.1 (p.2.map V.str)) ∧ (L.map (·.2)).Nodup ∧ ∀ k, k ∈ L.map (·.2) ↔ k ∈ ks
section
variable {P : Program} {w : World} {K : PySem.W.Frag} {H0 G : Hp} {Z : Addr} {ks : List (List Str)}
theorem GotK.start (h : H0 Z = none) : GotK P w K H0 Z [] (upd H0 Z (TbO P w Z [])) := ⟨h, Ex.new h, [], upd_same, (fun _ z => (by cases z)), List.nodup_nil, fun k => Iff.rfl⟩
theorem GotK.keep (h : GotK P w K H0 Z ks G) {G' : Hp} (e : Ex G G') : GotK P w K H0 Z ks G' := by
  obtain ⟨no, ex, L, h1, h2, h3, h4⟩ := h
  exact ⟨no, ex.trans e, L, e _ _ h1, fun p hp => ex_t e (h2 p hp), h3, h4⟩
/-- one more tuple; D: all keys that can come -/
theorem GotK.add {D : List (List Str)} {Nx : Hp → Prop} {x : Addr} {k : List Str} (h : GotK P w K H0 Z ks G) (hx : SqT K G x (k.map V.str)) (hD : ∀ y ∈ ks, y ∈ D) (len : D.length + 1 < 64) (nx : ∀ G', GotK P w K H0 Z (ks ++ [k]) G' → Nx G') : AddTo P w K Z (.ref x) G Nx := by
  obtain ⟨no, ex, L, h1, h2, h3, h4⟩ := h
  have le := sub_len h3 fun y hy => hD y ((h4 y).mp hy)
  rw [List.length_map] at le
  refine ⟨x, k, L, rfl, hx, h1, h2, by omega, fun L' c1 c2 => nx _ ?_⟩
  have e2 : Ex H0 (upd G Z (TbO P w Z L')) := fun b o e => by
    rw [upd_ne (ne_of_none e no)]
    exact ex b o e
  have up : ∀ (p : Addr) (l : List Str), SqT K G p (l.map V.str) → SqT K (upd G Z (TbO P w Z L')) p (l.map V.str) := fun p l z => sqT_upd h1 (fun _ z => by cases z) (fun _ _ z => by cases z) z
  by_cases c : k ∈ L.map (·.2)
  · have e := c1 c
    subst e
    refine ⟨no, e2, L', upd_same, fun p hp => up _ _ (h2 p hp), h3, fun y => ?_⟩
    rw [List.mem_append, List.mem_singleton, ← h4 y]
    exact ⟨.inl, fun z => z.elim id fun e => e ▸ c⟩
  · have pm := c2 c
    refine ⟨no, e2, L', upd_same, fun p hp => ?_, (pm.map (·.2)).nodup_iff.mpr (List.nodup_cons.mpr ⟨c, h3⟩), fun y => ?_⟩
    · rcases List.mem_cons.mp (pm.mem_iff.mp hp) with e | hp
      · rw [e]; exact up _ _ hx
      · exact up _ _ (h2 p hp)
    · rw [(pm.map (·.2)).mem_iff, List.map_cons, List.mem_cons, List.mem_append, List.mem_singleton, ← h4 y]
      exact Or.comm
end
end WTs

set_option maxHeartbeats 4000000
/-! Calls whose arguments are tuples written in place; tests of known answers. -/
namespace WKn
open PySem PySem.Spec PyProof.Rows L2 Evl WM WL WLam WX WT WU StX
section
variable {K : PySem.W.Frag} {s : L2.St} {H : Hp} {ta tb te : TE} {t : TA} {u1 u2 : TT} {E : XK} {v : V} {xs : List V} {Ps : List (Hp → V → Prop)} {P : Hp → V → Prop}
def AP (ta : TA) (s : L2.St) (H : Hp) (Ps : List (Hp → V → Prop)) : Prop := ∀ H1, Ex H H1 → ∀ Q : List V → Hp → Prop, (∀ vs H2, Ex H1 H2 → Paired (fun v P => P H2 v) vs Ps → Q vs H2) → ta s H1 Q
def Is (x : V) : Hp → V → Prop := fun _ v => v = x
def IsT (K : PySem.W.Frag) (xs : List V) : Hp → V → Prop := fun H v => ∃ p, v = .ref p ∧ SqT K H p xs
theorem ap_nil : AP tNil s H [] := fun H1 _ Q q => q [] H1 (Ex.refl H1) .nil
theorem ap_val (h : Ev te s H v) (r : AP t s H Ps) : AP (tCons te t) s H (Is v :: Ps) := fun H1 e Q q => h H1 e _ fun H2 e2 => r H2 (e.trans e2) _ fun vs H3 e3 p => q (v :: vs) H3 (e2.trans e3) (.cons rfl p)
theorem ap_tup (h : WQ.EvQ K te s H xs) (r : AP t s H Ps) : AP (tCons te t) s H (IsT K xs :: Ps) := fun H1 e Q q => h H1 e _ fun p H2 e2 hp => r H2 (e.trans e2) _ fun vs H3 e3 z => q (.ref p :: vs) H3 (e2.trans e3) (.cons ⟨p, rfl, ex_t e3 hp⟩ z)
theorem ev_P {R : List V → Hp → V → Prop} (h : AP t s H Ps) (k : ∀ vs H1, Ex H H1 → Paired (fun v P => P H1 v) vs Ps → R vs H1 v) : Ev (tCall (Pu R) [] E t) s H v := fun H1 e Q q => h H1 e _ fun vs H2 e2 p => by
  show Pu R (vs ++ []) H2 Q E
  rw [List.append_nil]
  exact ⟨v, k vs H2 (e.trans e2) p, fun H3 e3 => q H3 (e2.trans e3)⟩
theorem eq_P {R : List V → Hp → List V → Prop} (h : AP t s H Ps) (k : ∀ vs H1, Ex H H1 → Paired (fun v P => P H1 v) vs Ps → R vs H1 xs) : WQ.EvQ K (tCall (PuT R) [] E t) s H xs := fun H1 e Q q => h H1 e _ fun vs H2 e2 p => by
  show PuT R (vs ++ []) H2 Q E
  rw [List.append_nil]
  exact ⟨xs, k vs H2 (e.trans e2) p, fun a H3 _ e3 hx => q a H3 (e2.trans e3) (st_of hx)⟩
theorem et_same (ha : Ev ta s H v) (hb : Ev tb s H v) (sc : scal v v = true) : EvT (tTest (tOp rNe ta tb)) s H false := fun H1 e Q q => ha H1 e _ fun H2 e2 => hb H2 (e.trans e2) _ fun H3 e3 => ⟨sc, _, rfl, by rw [decide_eq_true rfl]; exact q H3 (e2.trans e3)⟩
theorem et_bool {b : Bool} (ha : Ev ta s H (.bl b)) (hb : Ev tb s H (.bl b)) : EvT (tTest (tOp rNotB ta tb)) s H false := fun H1 e Q q => ha H1 e _ fun H2 e2 => hb H2 (e.trans e2) _ fun H3 e3 => ⟨b, b, rfl, rfl, _, rfl, by rw [decide_eq_true rfl]; exact q H3 (e2.trans e3)⟩
theorem et_orF (h1 : EvT u1 s H false) (h2 : EvT u2 s H false) : EvT (tOr u1 u2) s H false := et_is (et_or (a := false) (b := false) h1 (fun _ => h2)) rfl
/-! ### tuples against written ones -/
def vD : V → PyData
  | .int i => .int i
  | .str x => .str x
  | .bl b => .bool b
  | _ => .none
def okV : V → Bool
  | .int _ | .str _ | .bl _ => true
  | _ => false
theorem dp_ok : ∀ {xs : List V}, xs.all okV = true → DpAll K H xs (xs.map vD)
  | [], _ => .nil
  | x :: xs, h => by
    rw [List.all_cons, Bool.and_eq_true] at h
    refine .cons ?_ (dp_ok h.2)
    cases x with
    | int i => exact .int i
    | str y => exact .str y
    | bl b => exact .bl b
    | _ => exact absurd h.1 (by simp [okV])
def okT (xs : List V) : Bool := xs.all okV && (SeqAt.shaped (.tuple (xs.map vD)) && PyData.eqv (.tuple (xs.map vD)) (.tuple (xs.map vD)))
theorem neD_same {p q : Addr} {Q : VK} (h1 : SqT K H p xs) (h2 : SqT K H q xs) (ok : okT xs = true) (k : Q (.bl false) H) : rNeD K (.ref p) (.ref q) H Q := by
  unfold okT at ok
  rw [Bool.and_eq_true, Bool.and_eq_true] at ok
  exact ⟨.tuple (xs.map vD), .tuple (xs.map vD), .tup h1 (dp_ok ok.1), .tup h2 (dp_ok ok.1), ok.2.1, ok.2.1, by rw [ok.2.2]; exact k⟩
theorem et_tup (ha : WQ.EvQ K ta s H xs) (hb : WQ.EvQ K tb s H xs) (ok : okT xs = true) : EvT (tTest (tOp (rNeD K) ta tb)) s H false := fun H1 e Q q => ha H1 e _ fun p H2 e2 hp => hb H2 (e.trans e2) _ fun r H3 e3 hr => neD_same (ex_t e3 hp) hr ok ⟨_, rfl, q H3 (e2.trans e3)⟩
end
end WKn

set_option maxHeartbeats 6400000
/-! set(xs), xs a list of tuples of texts. -/
namespace WTs
open PySem PySem.Spec PyProof.Rows L2
section
variable {P : Program} {w : World} {A : Around} {E : Value → Shared → Prop} {s : Shared}
theorem isK_keep {h h' : Heap} {k : List Str} {b : Addr} (x : IsK P w h k b) (kp : ∀ c o, h.get? c = some o → h'.get? c = some o) : IsK P w h' k b := by
  obtain ⟨o, its, n, get, r⟩ := x
  exact ⟨o, its, n, kp _ _ get, r⟩
theorem Tb.keep {h h' : Heap} {a : Addr} {L : List (Addr × List Str)} {es : Array (Int × Value)} {ep : Nat} {t : SetTable} (R : Tb P w h a L es ep t) (ha : ∀ o, h.get? a = some o → h'.get? a = some o) (tx : ∀ p ∈ L, IsK P w h' p.2 p.1) : Tb P w h' a L es ep t := by
  obtain ⟨o, get, r⟩ := R.at_
  exact ⟨⟨o, ha o get, r⟩, R.rw_, R.ok, R.nd, tx, R.led, R.room, R.few⟩
theorem loop_tp {R : Result → Shared → Prop} {I S : Addr} {fp wr : List Addr} {G : Array GenState → Array GenState → Prop} {n : Nat} {Pv : Nat → Value → Prop} {St : Nat → Shared → Prop} (W : WalksS P w A.in1 I fp wr G n Pv St) (hS : S ∉ fp) {ks : List (Addr × List Str)} {D : List (List Str)} (hn : n = ks.length)
    (hv : ∀ i v, Pv i v → ∃ p, ks[i]? = some p ∧ v = .ref p.1) {h0 : Heap} (old : ∀ p ∈ ks, IsK P w h0 p.2 p.1) (nS : h0.get? S = none) (nw : ∀ b ∈ wr, h0.get? b = none) (hD : ∀ p ∈ ks, p.2 ∈ D) (len : D.length + 1 < 64) (hu : A.in1.units < cLine)
    (hR : ∀ s' L es ep t, Moved (S :: wr) G s s' → Tb P w s'.heap S L es ep t → (∀ y, y ∈ L.map (·.2) ↔ y ∈ ks.map (·.2)) → (∀ p ∈ L, p ∈ ks) → R (.ok (.ret .none)) s') :
    ∀ (m i : Nat) (s1 : Shared) (L : List (Addr × List Str)) (es : Array (Int × Value)) (ep : Nat) (t : SetTable), m + i = n → St i s1 → Moved (S :: wr) G s s1 → (∀ b o, h0.get? b = some o → s1.heap.get? b = some o) → Tb P w s1.heap S L es ep t →
      (∀ y, y ∈ L.map (·.2) ↔ y ∈ (ks.take i).map (·.2)) → (∀ p ∈ L, p ∈ ks) → codeAny (model P w) A (.builtin "set.update.loop" ⟨[.ref S, .ref I], []⟩) R s1 := by
  have out : S ∉ wr := fun z => hS (W.sub _ z)
  have more : ∀ b ∈ wr, b ∈ S :: wr := fun b z => List.mem_cons_of_mem _ z
  intro m
  induction m with
  | zero =>
    intro i s1 L es ep t hm st mv kp tb mem sub
    have e : i = n := by omega
    rw [e] at st mem
    refine codeAny_builtin PyProof.Rows.F.entry_set_update_loop ?_
    rw [Around.under_plainId PyProof.Rows.F.plain_set_update_loop _]
    refine wpAny_bind (m := pyNext (.ref I)) (W.done s1 _ _ st fun s2 mv2 => ?_)
    rw [List.take_of_length_le (Nat.le_of_eq hn.symm)] at mem
    have kp2 : ∀ b o, h0.get? b = some o → s2.heap.get? b = some o := fun b o z => mv2.heap b o (fun q => by rw [nw b q] at z; cases z) (kp b o z)
    exact wpAny_pure (hR s2 L es ep t (mv.trans W.gtrans (mv2.mono more)) (tb.keep (fun o z => mv2.heap S o out z) fun p hp => isK_keep (old p (sub p hp)) kp2) mem sub)
  | succ m ih =>
    intro i s1 L es ep t hm st mv kp tb mem sub
    refine codeAny_builtin PyProof.Rows.F.entry_set_update_loop ?_
    rw [Around.under_plainId PyProof.Rows.F.plain_set_update_loop _]
    refine wpAny_bind (m := pyNext (.ref I)) (W.item i s1 _ _ (by omega) st fun v s2 pv st2 mv2 => ?_)
    obtain ⟨p, hp, rfl⟩ := hv i v pv
    have hpm := List.mem_of_getElem? hp
    have kp2 : ∀ b o, h0.get? b = some o → s2.heap.get? b = some o := fun b o z => mv2.heap b o (fun q => by rw [nw b q] at z; cases z) (kp b o z)
    have tb2 := tb.keep (fun o z => mv2.heap S o out z) fun q hq => isK_keep (old q (sub q hq)) kp2
    have hx : IsK P w s2.heap p.2 p.1 := isK_keep (old p hpm) kp2
    have few : L.length + 1 < 64 := by
      have z := sub_len tb.nd fun y hy => by
        obtain ⟨q, hq, e⟩ := List.mem_map.mp hy
        exact e ▸ hD q (sub q hq)
      rw [List.length_map] at z
      omega
    refine wpAny_bind (m := holding [Value.ref p.1] (setAdd S (.ref p.1))) (wpAny_holding ?_)
    unfold setAdd
    refine wpAny_holding (wpAny_bind (wpAny_pyHash_tuple hu hx ?_))
    refine add (s := { s2 with toks := s2.toks + (p.2.length + 1) }) tb2 hx hu few fun b h' L' es' ep' t' sb tb3 c1 c2 => ?_
    have kp3 : ∀ b o, h0.get? b = some o → h'.get? b = some o := fun b o z => (sb.2 b fun q => by rw [q, nS] at z; cases z).trans (kp2 b o z)
    have sub' : ∀ q ∈ L', q ∈ ks := fun q hq => by
      by_cases c : p.2 ∈ L.map (·.2)
      · exact sub q (c1 c ▸ hq)
      · rcases List.mem_cons.mp ((c2 c).mem_iff.mp hq) with e | z
        · rw [e]; exact hpm
        · exact sub q z
    have mem' : ∀ y, y ∈ L'.map (·.2) ↔ y ∈ (ks.take (i + 1)).map (·.2) := fun y => by
      rw [List.take_add_one, hp, List.map_append, List.mem_append, ← mem y]
      show _ ↔ _ ∨ y ∈ [p.2]
      rw [List.mem_singleton]
      by_cases c : p.2 ∈ L.map (·.2)
      · rw [c1 c]
        exact ⟨.inl, fun z => z.elim id fun e => e ▸ c⟩
      · rw [((c2 c).map (·.2)).mem_iff, List.map_cons, List.mem_cons]
        exact Or.comm
    refine wpAny_pure ⟨plainId_quiet PyProof.Rows.F.plain_set_update_loop _, ih (i + 1) _ L' es' ep' t' (by omega) (W.frame _ s2 _ _ st2 (Nat.le_add_right _ _) fun b hb o z => ?_) ?_ kp3 tb3 mem' sub'⟩
    · rw [sb.2 b fun q => hS (q ▸ hb)]
      exact z
    · refine mv.trans W.gtrans ((mv2.mono more).then_heap (Nat.le_add_right _ _) fun b o hb z => ?_)
      rw [sb.2 b fun q => hb (by rw [q]; exact List.mem_cons_self)]
      exact z
/-- what a filled set is -/
def FilledT (P : Program) (w : World) (s : Shared) (ks : List (Addr × List Str)) (h' : Heap) : Prop :=
  (∃ L es ep t, Tb P w h' s.heap.objs.size L es ep t ∧ (∀ y, y ∈ L.map (·.2) ↔ y ∈ ks.map (·.2)) ∧ ∀ p ∈ L, p ∈ ks) ∧ ∀ b o, s.heap.get? b = some o → h'.get? b = some o
theorem none_past {h : Heap} {b : Addr} (le : h.objs.size ≤ b) : h.get? b = none := by
  cases q : h.get? b with
  | none => rfl
  | some o => exact absurd (Nat.lt_of_lt_of_le (Heap.lt_size q) le) (Nat.lt_irrefl _)
theorem fill_tp {l : Addr} {items : Array Value} {ks : List (Addr × List Str)} {D : List (List Str)} (hh : A.handled = none) (hl : s.heap.IsList l items) (hi : items.toList = ks.map fun p => Value.ref p.1) (old : ∀ p ∈ ks, IsK P w s.heap p.2 p.1) (hD : ∀ p ∈ ks, p.2 ∈ D) (len : D.length + 1 < 64) (hu : A.units + 4 < cLine) :
    ∀ (R : Result → Shared → Prop), (∀ h' tk, FilledT P w s ks h' → R (.ok (.ret .none)) { s with heap := h', toks := tk }) →
      codeAny (model P w) A.in1.in1 (.builtin "set.update.loop" ⟨[.ref s.heap.objs.size, .ref (s.heap.push (newSetO w)).objs.size], []⟩) R
        { s with heap := (s.heap.push (newSetO w)).push { cls := .type "list_iterator", data := .fields #[.ref l, .int 0 0] } } := by
  intro R hR
  obtain ⟨o, ho, oc, on, od⟩ := id hl
  have lt : l < s.heap.objs.size := Heap.lt_size ho
  have z1 : (s.heap.push (newSetO w)).objs.size = s.heap.objs.size + 1 := Heap.size_push ..
  have hl1 : (s.heap.push (newSetO w)).IsList l items := ⟨o, Heap.get?_push_of_some _ ho, oc, on, od⟩
  have hne : l ≠ (s.heap.push (newSetO w)).objs.size := by
    rw [z1]; exact Nat.ne_of_lt (Nat.lt_succ_of_lt lt)
  have hSf : s.heap.objs.size ∉ [(s.heap.push (newSetO w)).objs.size, l] := by
    rw [z1]
    simp only [List.mem_cons, List.not_mem_nil, or_false, not_or]
    exact ⟨Nat.ne_of_lt (Nat.lt_succ_self _), Nat.ne_of_gt lt⟩
  have hsz : items.size = ks.length := by rw [← Array.length_toList, hi, List.length_map]
  have hv : ∀ (i : Nat) (v : Value), items[i]? = some v → ∃ p, ks[i]? = some p ∧ v = .ref p.1 := fun i v e => by
    rw [← Array.getElem?_toList, hi, List.getElem?_map] at e
    cases q : ks[i]? with
    | none => rw [q] at e; cases e
    | some p => rw [q] at e; exact ⟨p, rfl, (Option.some.inj e).symm⟩
  have hget : ((s.heap.push (newSetO w)).push { cls := .type "list_iterator", data := .fields #[.ref l, .int 0 0] }).get? s.heap.objs.size = some (newSetO w) := Heap.get?_push_of_some _ (Heap.get?_push_size _ rfl)
  obtain ⟨es, ep, t, R0⟩ := (tb0_new (P := P) hget).full (fun p hp => by cases hp)
  refine loop_tp (P := P) (A := A.in1.in1) ((Walks.list (A := A.in1.in1.in1) (by simp [hh]) (s.heap.push (newSetO w)).objs.size l hne items).toS) hSf hsz hv old (none_past (Nat.le_refl _)) (fun b hb => none_past (by rw [List.mem_singleton.mp hb, z1]; exact Nat.le_succ _)) hD len (by show A.units + 3 < cLine; omega) (fun s' L es ep t mv tb mem sub => ?_) items.size 0 _ [] es ep t (by omega)
    ⟨⟨_, Heap.get?_push_size _ rfl, rfl, rfl⟩, hl1.push _⟩ (Moved.refl fun _ => rfl) (fun b o e => Heap.get?_push_of_some _ (Heap.get?_push_of_some _ e)) R0 (fun y => by simp) (fun p hp => by cases hp)
  obtain ⟨h', g', d', tk', os'⟩ := s'
  have eg : g' = s.gens := mv.gens
  have ed : d' = s.drawn := mv.drawn
  have eo : os' = s.os := mv.os
  subst eg; subst ed; subst eo
  refine hR h' tk' ⟨⟨L, es, ep, t, tb, mem, sub⟩, fun b o e => mv.heap b o (fun z => ?_) (Heap.get?_push_of_some _ (Heap.get?_push_of_some _ e))⟩
  have hb0 : b < s.heap.objs.size := Heap.lt_size e
  rcases List.mem_cons.mp z with z | z
  · exact Nat.ne_of_lt hb0 z
  · have z2 := List.mem_singleton.mp z
    have : b < (s.heap.push (newSetO w)).objs.size := by rw [z1]; exact Nat.lt_succ_of_lt hb0
    exact Nat.ne_of_lt this z2
theorem call_set_tp {l : Addr} {items : Array Value} {ks : List (Addr × List Str)} {D : List (List Str)} {Q : Value → Shared → Prop} (hh : A.handled = none) (hl : s.heap.IsList l items) (hi : items.toList = ks.map fun p => Value.ref p.1) (old : ∀ p ∈ ks, IsK P w s.heap p.2 p.1) (hD : ∀ p ∈ ks, p.2 ∈ D) (len : D.length + 1 < 64) (hu : A.units + 8 < cLine)
    (h : ∀ (h' : Heap) (tk : Nat), FilledT P w s ks h' → Q (.ref s.heap.objs.size) { s with heap := h', toks := tk }) : wpAny (model P w) A (call (.type "set") [.ref l]) Q E s := by
  obtain ⟨c, tl, hmro⟩ := PySem.F.called_set.mro
  have a1 := PySem.F.called_set.made
  have a2 := PySem.F.called_set.sub
  refine wpAny_call (codeAny_of_tree ?_)
  show wpAny _ _ (callAny (.type "set") _) _ _ _
  refine wpAny_pure ⟨Code.quiet_builtin _ (by decide +kernel), codeAny_builtin PySem.F.entry_type_call ?_⟩
  rw [Around.under_plain (weight_type_call_type "set" [.ref l] []) rfl]
  have a3 := PySem.F.called_set.notType
  have a4 := PySem.F.called_set.canCreate
  have a5 := PySem.F.typeCall_set_1 (.ref l)
  repeat (any_goals (first | assumption | wp_step))
  refine codeAny_mono (code_set_led1 (.ref l) (E := E) (Q₁ := fun u s1 => u = .ref s.heap.objs.size ∧ s1 = { s with heap := s.heap.push (newSetO w) }) ⟨rfl, rfl⟩) fun r s1 hr => ?_
  cases r with
  | error e => exact hr
  | ok fl =>
    cases fl with
    | ret u =>
      obtain ⟨rfl, rfl⟩ := hr
      have hT : Shared.TypeIs { s with heap := s.heap.push (newSetO w) } (.ref s.heap.objs.size) "set" := ⟨_, Heap.get?_push_size _ rfl, rfl⟩
      have b1 := PySem.F.called_set.init.lookup
      have b2 := PySem.F.called_set.init.bind (.ref s.heap.objs.size)
      repeat (any_goals (first | assumption | wp_step))
      refine codeAny_mono (codeAny_call_builtin (R := wants (fun r s2 => r = .none ∧ ∃ h' tk, s2 = { s with heap := h', toks := tk } ∧ FilledT P w s ks h') E) PySem.F.called_set.init.plain PySem.F.entry_set_init (check_set_init_1 hT ?_)) fun r2 s2 hr2 => ?_
      · obtain ⟨⟨oc, odi, oda, osl⟩, hol, hcl, nl, hdl⟩ := id hl
        simp only at hcl hdl
        subst hcl; subst hdl
        have hol' : (s.heap.push (newSetO w)).get? l = some { cls := .type "list", dict := odi, data := .seq items nl, slots := osl } := Heap.get?_push_of_some _ hol
        have c1 := PySem.F.sub_list_set
        have c2 := PySem.F.sub_list_frozenset
        have c3 : (Value.type "list" == Value.type "dict") = false := by decide
        have hl1 : (s.heap.push (newSetO w)).IsList l items := ⟨_, hol', rfl, nl, rfl⟩
        unfold Builtin.«set.__init__» noKeywords Builtin.Frozenset.updateFrom
        generalize hPI : pyIter = PI
        wp_walk
        subst hPI
        refine wpAny_pyIter_list hl1 ?_
        refine wpAny_bind (wpAny_runValue ?_)
        refine fill_tp (by simp [hh]) hl hi old hD len (by show A.units + 4 + 0 < cLine; omega) _ fun h' tk hf => ?_
        show wpAny _ _ _ _ _ _
        refine wpAny_pure ?_
        show wpAny _ _ (ret Value.none) _ _ _
        exact wpAny_pure ⟨rfl, h', tk, rfl, hf⟩
      · cases r2 with
        | error e => exact hr2
        | ok fl2 =>
          cases fl2 with
          | ret r =>
            obtain ⟨rfl, h', tk, rfl, hf⟩ := hr2
            repeat (any_goals (first | assumption | wp_step))
            exact h h' tk hf
          | _ => exact hr2.elim
    | _ => exact hr.elim
end
section
variable {X : Cx}
theorem refs_of : ∀ {N : List (Addr × List Str)} {us : List Value}, Vals (N.map fun q => V.ref q.1) us → us = N.map fun q => Value.ref q.1
  | [], _, .nil => rfl
  | p :: N, _, .cons r t => by
    cases r
    rw [refs_of t]
    rfl
def rSetTx (P : Program) (w : World) (K : PySem.W.Frag) : List V → Hp → VK → Prop := fun vs H Q => ∃ (l : Addr) (N : List (Addr × List Str)) (D : List (List Str)), vs = [V.ref l] ∧ SqL K H l (N.map fun q => V.ref q.1) ∧ (∀ p ∈ N, SqT K H p.1 (p.2.map V.str)) ∧ (∀ p ∈ N, p.2 ∈ D) ∧ D.length + 1 < 64 ∧
  ∀ a L, H a = none → (∀ p ∈ L, p ∈ N) → (L.map (·.2)).Nodup → (∀ y, y ∈ L.map (·.2) ↔ y ∈ N.map (·.2)) → Q (.ref a) (upd H a (TbO P w a L))
theorem cr_setTx (hc : X.calm = true) (hu : X.A.units + 64 < cLine) : CallR X (.type "set") (rSetTx X.prog X.w X.K) := by
  intro pins s σ H vs us Q I r h
  obtain ⟨l, N, D, rfl, hl, tx, hD, len, q⟩ := h
  rw [Vals.ref1 r]
  obtain ⟨its, rv, pl, _⟩ := I.list hl
  have nS : H s.heap.objs.size = none := I.hok.fresh (Nat.le_refl _)
  refine call_set_tp (P := X.prog) (w := X.w) (D := D) (I.ok.hd hc) pl.isList (by simpa using refs_of rv) (fun p hp => isK_of I (tx p hp)) hD len (by omega) fun h' tk hf => ?_
  obtain ⟨⟨L, es, ep, t, tb, mem, sub⟩, kp⟩ := hf
  exact ⟨.ref s.heap.objs.size, upd H s.heap.objs.size (TbO X.prog X.w s.heap.objs.size L), I.laid (t' := tk) kp (Nat.le_refl _) (tbO_ok tb.t0), rfl, q _ L nS sub tb.nd mem⟩
end
end WTs

set_option maxHeartbeats 4000000
namespace KC
open PySem PySem.Spec PyProof.Rows L2 Evl WM WL WLam WX WT WU StX LamX
theorem rv_isN {s : L2.St} {H : Hp} {x : V} : RV (fun x y H Q => y = .non ∧ Q (.bl (decide (x = .non))) H) x .non H (.bl (decide (x = .non))) := fun H1 _ _ q => ⟨rfl, q H1 (Ex.refl H1)⟩
theorem kitAny_no {K : PySem.W.Frag} {n : String} (h1 : kitB n "tuple" = some false) (h2 : kitB n "list" = some false) : PySem.W.kitAny K (.type n) [.type "tuple", .type "list"] = some false :=
  kitAny_cons (b := false) (kit_ty h1) (fun _ => kitAny_cons (b := false) (kit_ty h2) (fun _ => kitAny_nil) (fun z => by cases z)) (fun z => by cases z)
def nm_CONDITIONS : Rl → Str
  | .sumG => "_sum_grouping"
  | .prodG => "_product_grouping"
  | .dist => "_distribution"
  | .dneg => "_negatives"
  | .diff => "_negatives"
  | .addB => "_add_back"
  | .divi => "_division"
  | .remR => "_remainder_range"
  | .negQ => "_negated_quotient"
  | .shift => "_shift"
  | .absV => "_absolute_value"
  | .ordD => "_order_by_difference"
  | .monoS => "_monotone_sum"
  | .aver => "_average"
  | .squa => "_square"
  | .zeroP => "_zero_product"
  | .canc => "_cancellation"
structure Txt (w : World) (K : PySem.W.Frag) (mg : Str → Option Value) : Prop where
  n_isinstance : mg "isinstance" = none
  n_int : mg "int" = none
  n_bool : mg "bool" = none
  n_tuple : mg "tuple" = none
  n_str : mg "str" = none
  n_list : mg "list" = none
  n_len : mg "len" = none
  n_min : mg "min" = none
  n_range : mg "range" = none
  n_sorted : mg "sorted" = none
  n_set : mg "set" = none
  g_LEAST_WIDTH : ∃ t, mg "LEAST_WIDTH" = some (.int 4 t)
  g_GREATEST_WIDTH : ∃ t, mg "GREATEST_WIDTH" = some (.int 64 t)
  g_LEAST_EXPONENT : ∃ t, mg "LEAST_EXPONENT" = some (.int 2 t)
  g_GREATEST_EXPONENT : ∃ t, mg "GREATEST_EXPONENT" = some (.int 64 t)
  g_SIGNS : mg "SIGNS" = some (.ref (He.ga K "SIGNS"))
  t_SIGNS : ∀ H, SqT K H (He.ga K "SIGNS") [.str "symmetric", .str "twos", .str "unsigned"]
  g_OVERFLOWS : mg "OVERFLOWS" = some (.ref (He.ga K "OVERFLOWS"))
  t_OVERFLOWS : ∀ H, SqT K H (He.ga K "OVERFLOWS") [.str "saturate", .str "trap", .str "wrap"]
  g_DIVISIONS : mg "DIVISIONS" = some (.ref (He.ga K "DIVISIONS"))
  t_DIVISIONS : ∀ H, SqT K H (He.ga K "DIVISIONS") [.str "ceiling", .str "euclid", .str "even", .str "floor", .str "zero"]
  g_ARITIES : mg "ARITIES" = some (.ref (He.ga K "ARITIES"))
  k_ARITIES : KDE K w (He.ga K "ARITIES")
  q_ARITIES : ∃ es n, KDict K w (He.ga K "ARITIES") es n ∧ es.toList.map He.keyOf = He.keysIn w.params tk_ARITIES
  v_ARITIES : ∀ r : Rl, KDct K w (He.ga K "ARITIES") (rlS r) (V.int r.ar)
  g_CONDITIONS : mg "CONDITIONS" = some (.ref (He.ga K "CONDITIONS"))
  k_CONDITIONS : KDE K w (He.ga K "CONDITIONS")
  v_CONDITIONS : ∀ r : Rl, KDct K w (He.ga K "CONDITIONS") (rlS r) (.ref (He.ga K (nm_CONDITIONS r)))
local macro_rules | `(tactic| walk_at "ev") => `(tactic| first
  | exact ev_c
  | exact ev_var rfl
  | ((with_reducible apply ev_op); (walk_at "ev"); (walk_at "ev"); (walk_at "rv"))
  | ((with_reducible apply ev_un); (walk_at "ev"); exact ru_neg)
  | ((with_reducible apply ev_notV); (walk_at "ev"))
  | ((with_reducible apply ev_andV); (walk_at "ev"); (intro _; walk_at "ev"))
  | ((with_reducible apply ev_orV); (walk_at "ev"); (intro _; walk_at "ev"))
  | ((with_reducible apply ev_ifT); (walk_at "et"); (exact rfl); (walk_at "ev"))
  | ((with_reducible apply ev_ifF); (walk_at "et"); (exact rfl); (walk_at "ev"))
  | ((with_reducible apply ev_ifB); (walk_at "et"); (intro _; walk_at "ev"); (intro _; walk_at "ev"))
  | ((with_reducible apply ev_chainI); (walk_at "ev"); (walk_at "ev"); (walk_at "ev"))
  | ((with_reducible apply ev_own); (walk_at "ea"); (intro _ _; walk_at "own"))
  | ((with_reducible apply ev_ddS); (walk_at "dp"); (exact Nat.le_of_ble_eq_true rfl); (walk_at "ev"); (exact rfl))
  | ((with_reducible apply ev_isiT); (walk_at "ev"); (walk_at "ea"); (walk_at "isiT"))
  | ((with_reducible apply ev_cb); (walk_at "ea"); (walk_at "rc")))
local macro_rules | `(tactic| walk_at "dp") => `(tactic| first
  | exact Paired.nil
  | ((with_reducible apply dp_cons); (exact ev_c); (walk_at "ev"); (walk_at "dp")))
local macro_rules | `(tactic| walk_at "ea") => `(tactic| first
  | exact ea_nil
  | ((with_reducible apply ea_cons); (walk_at "ev"); (walk_at "ea")))
local macro_rules | `(tactic| walk_at "et") => `(tactic| first
  | ((with_reducible apply et_test); (walk_at "ev"))
  | ((with_reducible apply et_B); (walk_at "ev"))
  | ((with_reducible apply et_not); (walk_at "et"))
  | ((with_reducible apply et_and); (walk_at "et"); (intro _; walk_at "et"))
  | ((with_reducible apply et_or); (walk_at "et"); (intro _; walk_at "et")))
local macro_rules | `(tactic| walk_at "rv") => `(tactic| first
  | exact rv_I0
  | exact rv_eq rfl
  | exact rv_ne rfl
  | exact rv_isT (by assumption) rfl rfl
  | exact rv_niT (by assumption) rfl rfl
  | exact rv_isL (by assumption) rfl rfl
  | exact rv_niL (by assumption) rfl rfl
  | exact rv_ixT (by assumption) rfl
  | exact rv_ixL (by assumption) rfl
  | exact rv_ixL (by assumption) (by assumption)
  | (apply rv_I; (walk_at "side")))
local macro_rules | `(tactic| walk_at "side") => `(tactic| first
  | assumption
  | (refine And.intro ?_ (And.intro ?_ ?_) <;> (try dsimp only) <;> first | omega | decide)
  | (dsimp only; omega)
  | omega)
local macro_rules | `(tactic| walk_at "rc") => `(tactic| first
  | exact rc_abs | exact rc_max2 | exact rc_min2 | exact rc_int | exact rc_intB
  | exact rc_isi_int (b := true) (by decide +kernel)
  | exact rc_isi_int (b := false) (by decide +kernel)
  | exact rc_isi_bl (b := true) (by decide +kernel)
  | exact rc_isi_bl (b := false) (by decide +kernel)
  | exact rc_isi_str (b := true) (by decide +kernel)
  | exact rc_isi_str (b := false) (by decide +kernel)
  | exact rc_isi_T (b := true) (by assumption) (by decide +kernel)
  | exact rc_isi_T (b := false) (by assumption) (by decide +kernel)
  | exact rc_lenT (by assumption)
  | exact rc_lenL (by assumption))
local macro_rules | `(tactic| walk_at "set") => `(tactic| ((with_reducible apply bl_set); (walk_at "ev")))
local macro_rules | `(tactic| walk_at "drop") => `(tactic| ((with_reducible apply bl_drop); (walk_at "ev")))
local macro_rules | `(tactic| walk_at "par") => `(tactic| ((with_reducible apply bl_par); (walk_at "ea")))
local macro_rules | `(tactic| walk_at "if") => `(tactic| ((with_reducible apply bl_when); (walk_at "et")))
local macro_rules | `(tactic| walk_at "no") => `(tactic| ((with_reducible apply bl_when); (walk_at "et"); (intro h; exact absurd (show false = true from h) (by decide)); (intro _)))
local macro_rules | `(tactic| walk_at "yes") => `(tactic| ((with_reducible apply bl_when); (walk_at "et"); rotate_left; (intro h; exact absurd (show true = false from h) (by decide)); (intro _)))
local macro_rules | `(tactic| walk_at "ret") => `(tactic| ((with_reducible apply bl_retE); rotate_left; assumption; rotate_right; (walk_at "ev")))
local macro_rules | `(tactic| walk_at "absurd") => `(tactic| first | exact absurd (show false = true from (by assumption)) (by decide) | exact absurd (show true = false from (by assumption)) (by decide))
local macro_rules | `(tactic| walk_at "rv") => `(tactic| first | exact rv_isN (s := []) | exact rv_notKD (by assumption) | exact rv_inKD (by assumption) | exact rv_ixKD (by assumption))
local macro_rules | `(tactic| walk_at "isiT") => `(tactic| ((exact Nat.le_of_ble_eq_true rfl); (exact .cons (.ty _) (.cons (.ty _) .nil)); (first | exact fun _ _ => .base (.int _) | exact fun _ _ => .base (.bl _) | exact fun _ _ => .base (.str _) | exact fun _ _ => .base .non); (exact kitAny_no (by decide +kernel) (by decide +kernel))))
local macro_rules | `(tactic| walk_at "rc") => `(tactic| first | exact rc_isi_non (b := true) (by decide +kernel) | exact rc_isi_non (b := false) (by decide +kernel))
local macro_rules | `(tactic| walk_at "eu") => `(tactic| first
  | ((with_reducible apply eu_own); (walk_at "ea"); (intro _ _; walk_at "own"))
  | ((with_reducible apply eu_tup); (walk_at "ea"); (exact Nat.le_of_ble_eq_true rfl)))
local macro_rules | `(tactic| walk_at "ev") => `(tactic| ((with_reducible apply ev_own1U); (walk_at "eu"); (walk_at "ea"); (intro _ _ _ _; walk_at "own1")))
local macro_rules | `(tactic| walk_at "isr") => `(tactic| first | with_reducible exact isr_r | with_reducible exact isr_i | ((with_reducible apply isr_if) <;> (walk_at "isr")))
local macro_rules | `(tactic| walk_at "osm") => `(tactic| first | with_reducible assumption | with_reducible exact osm_add | with_reducible exact osm_sub | with_reducible exact osm_mul | with_reducible exact osm_dvo | with_reducible exact osm_neg | with_reducible exact osm_rem | with_reducible exact osm_do | with_reducible exact osm_div | with_reducible exact osm_fit | ((with_reducible apply osm); assumption) | ((with_reducible apply osm); exact (show (0 : Int).natAbs < 2 ^ 70 by decide)) | ((with_reducible apply osm); exact (show (2 : Int).natAbs < 2 ^ 70 by decide)) | ((with_reducible apply osm_if) <;> (walk_at "osm")))
local macro_rules | `(tactic| walk_at "ev") => `(tactic| first
  | ((with_reducible apply ev_inLst); (walk_at "ev"); (walk_at "ea"); (exact Nat.le_of_ble_eq_true rfl); (exact rfl); (first | exact rfl | simp [flatV])))
local macro_rules | `(tactic| walk_at "rv") => `(tactic| first | exact rv_eq scal_rv | exact rv_ne scal_rv | exact rv_eq (scal_rv (y := some _)) | exact rv_ne (scal_rv (y := some _)) | exact rv_eq (scal_rv (y := none)) | exact rv_ne (scal_rv (y := none)))
local macro_rules | `(tactic| walk_at "nz") => `(tactic| first | with_reducible assumption | ((with_reducible apply nz_i); (first | assumption | decide)))
local macro_rules | `(tactic| walk_at "ev") => `(tactic| ((with_reducible apply ev_inU); (walk_at "ev"); (walk_at "eu"); (exact rfl); (exact rfl)))
section
variable {P : Program} {w : World} {K : PySem.W.Frag} {mg : Str → Option Value} {base : Heap}
def R_is_whole (K : PySem.W.Frag) : List V → Hp → V → Prop := fun vs H v => ∃ (u : V) (b : Bool), vs = [u] ∧ (Wh K H u b) ∧ v = .bl b
theorem r_is_whole {K : PySem.W.Frag} {H : Hp} {u : V} {b : Bool} (h0 : Wh K H u b) : R_is_whole K [u] H (.bl b) := ⟨_, _, rfl, h0, rfl⟩
def R_are_choices (K : PySem.W.Frag) : List V → Hp → V → Prop := fun vs H v => ∃ (sg : Sg) (ov : Ov) (dv : Dv), vs = [.str (sgS sg), .str (ovS ov), .str (dvS dv)] ∧ v = .bl true
theorem r_are_choices {K : PySem.W.Frag} {H : Hp} {sg : Sg} {ov : Ov} {dv : Dv}  : R_are_choices K [.str (sgS sg), .str (ovS ov), .str (dvS dv)] H (.bl true) := ⟨_, _, _, rfl, rfl⟩
def R_is_format (K : PySem.W.Frag) : List V → Hp → V → Prop := fun vs H v => ∃ (p : Addr) (f : Fmt), vs = [.ref p] ∧ (SqT K H p (fV f)) ∧ v = .bl true
theorem r_is_format {K : PySem.W.Frag} {H : Hp} {p : Addr} {f : Fmt} (h0 : SqT K H p (fV f)) : R_is_format K [.ref p] H (.bl true) := ⟨_, _, rfl, h0, rfl⟩
def R_check_format (K : PySem.W.Frag) : List V → Hp → V → Prop := fun vs H v => ∃ (p : Addr) (f : Fmt), vs = [.ref p] ∧ (SqT K H p (fV f)) ∧ v = V.non
theorem r_check_format {K : PySem.W.Frag} {H : Hp} {p : Addr} {f : Fmt} (h0 : SqT K H p (fV f)) : R_check_format K [.ref p] H (V.non) := ⟨_, _, rfl, h0, rfl⟩
local macro_rules | `(tactic| walk_at "own") => `(tactic| first
  | exact r_is_whole (by first | assumption | exact .int _ | exact Wh.ex (by assumption) (by assumption))
  | exact r_are_choices 
  | exact r_is_format (ex_t (by assumption) (by assumption))
  | exact r_check_format (ex_t (by assumption) (by assumption)))
abbrev s_is_whole : Stmt := top 6
abbrev N_is_whole : List Str := ["value"]
theorem sc_is_whole : FnScope N_is_whole ["value"] (defScope s_is_whole) := ⟨rfl, rfl, rfl, by decide +kernel, rfl, by decide +kernel, by decide +kernel⟩
theorem ok_is_whole (T : Txt w K mg) (D0 : DefAt K mg "is_whole" s_is_whole)   : Cal P w K mg base CX0 1 "is_whole" ["value"] (Pu (R_is_whole K)) := by
  refine D0.cal sc_is_whole (fun vs H Q E h => by obtain ⟨v, ⟨_, _, rfl, _⟩, _⟩ := h; rfl) (fun _ _ _ _ _ _ us hl => match us, hl with | [_], _ => rfl) (fun f cdv A outer s H vs Q E hr h => ?_)
  obtain ⟨v, ⟨u, b, rfl, hw, rfl⟩, k⟩ := h
  have hu := hu_of hr
  refine ⟨_, (pss_one (ps_ret (pe_and (pe_callB call_isi (by rfl) T.n_isinstance (by decide +kernel) (pa_cons (pv 0) (pa_cons (pe_bltn (v := .ty "int") (by rfl) T.n_int (by decide +kernel) rfl) pa_nil))) (pe_one (pe_not (pe_callB call_isi (by rfl) T.n_isinstance (by decide +kernel) (pa_cons (pv 0) (pa_cons (pe_bltn (v := .ty "bool") (by rfl) T.n_bool (by decide +kernel) rfl) pa_nil)))))))), bl_go ?_⟩
  cases hw <;> (walk_at "ret") <;> rfl
abbrev s_are_choices : Stmt := top 39
abbrev N_are_choices : List Str := ["signs", "overflow", "division"]
theorem sc_are_choices : FnScope N_are_choices ["signs", "overflow", "division"] (defScope s_are_choices) := ⟨rfl, rfl, rfl, by decide +kernel, rfl, by decide +kernel, by decide +kernel⟩
theorem ok_are_choices (T : Txt w K mg) (D0 : DefAt K mg "are_choices" s_are_choices)   : Cal P w K mg base CX0 1 "are_choices" ["signs", "overflow", "division"] (Pu (R_are_choices K)) := by
  refine D0.cal sc_are_choices (fun vs H Q E h => by obtain ⟨v, ⟨_, _, _, rfl, _⟩, _⟩ := h; rfl) (fun _ _ _ _ _ _ us hl => match us, hl with | [_, _, _], _ => rfl) (fun f cdv A outer s H vs Q E hr h => ?_)
  obtain ⟨v, ⟨sg, ov, dv, rfl, rfl⟩, k⟩ := h
  have hu := hu_of hr
  refine ⟨_, (pss_one (ps_ret (pe_and (pe_cmpR op_in_seq (pv 0) (pe_glob (v := .ref _) rfl T.g_SIGNS rfl) (by rfl)) (pe_and (pe_cmpR op_in_seq (pv 1) (pe_glob (v := .ref _) rfl T.g_OVERFLOWS rfl) (by rfl)) (pe_one (pe_cmpR op_in_seq (pv 2) (pe_glob (v := .ref _) rfl T.g_DIVISIONS rfl) (by rfl))))))), bl_go ?_⟩
  have t1 := T.t_SIGNS H
  have t2 := T.t_OVERFLOWS H
  have t3 := T.t_DIVISIONS H
  walk_at "ret"
  rw [in_sg, in_ov, in_dv]
  rfl
abbrev s_is_format : Stmt := top 38
abbrev N_is_format : List Str := ["value", "width", "signs", "overflow", "division"]
theorem sc_is_format : FnScope N_is_format ["value"] (defScope s_is_format) := ⟨rfl, rfl, rfl, by decide +kernel, rfl, by decide +kernel, by decide +kernel⟩
theorem ok_is_format (T : Txt w K mg) (D0 : DefAt K mg "is_format" s_is_format) (c_are_choices : Cal P w K mg base CX0 1 "are_choices" ["signs", "overflow", "division"] (Pu (R_are_choices K))) (c_is_whole : Cal P w K mg base CX0 1 "is_whole" ["value"] (Pu (R_is_whole K)))  : Cal P w K mg base CX0 2 "is_format" ["value"] (Pu (R_is_format K)) := by
  refine D0.cal sc_is_format (fun vs H Q E h => by obtain ⟨v, ⟨_, _, rfl, _⟩, _⟩ := h; rfl) (fun _ _ _ _ _ _ us hl => match us, hl with | [_], _ => rfl) (fun f cdv A outer s H vs Q E hr h => ?_)
  obtain ⟨v, ⟨p, ⟨w0, sg, ov, dv, h4, h64⟩, rfl, hf, rfl⟩, k⟩ := h
  have hu := hu_of hr
  refine ⟨_, (pss_cons (ps_if (PW.pt (pw_or (pt_not (pt_val (pe_callB call_isi (by rfl) T.n_isinstance (by decide +kernel) (pa_cons (pv 0) (pa_cons (pe_bltn (v := .ty "tuple") (by rfl) T.n_tuple (by decide +kernel) rfl) pa_nil))))) (pw_or1 (pt_cmpR op_ne (pe_callB call_len_seq (by rfl) T.n_len (by decide +kernel) (pa_cons (pv 0) pa_nil)) pe_int (nomark _))))) (pss_one (ps_ret pe_bl)) pss_nil)
      (pss_cons (ps_asg (pv 0) (pg_tup (by rfl) (pgs_cons (pg_name (i := 1) sc_is_format.nd rfl (Or.inl rfl)) (pgs_cons (pg_name (i := 2) sc_is_format.nd rfl (Or.inl rfl)) (pgs_cons (pg_name (i := 3) sc_is_format.nd rfl (Or.inl rfl)) (pgs_cons (pg_name (i := 4) sc_is_format.nd rfl (Or.inl rfl)) pgs_nil))))))
      (pss_cons (ps_if (PW.pt (pw_or (pt_not (pt_val (pe_own c_is_whole (hr.mono (by decide)) rfl pass0 (pa_cons (pv 1) pa_nil)))) (pw_or1 (pt_not (pt_chain op_le op_le (pe_globI rfl T.g_LEAST_WIDTH) (pv 1) (pe_globI rfl T.g_GREATEST_WIDTH)))))) (pss_one (ps_ret pe_bl)) pss_nil)
      (pss_one (ps_ret (pe_own c_are_choices (hr.mono (by decide)) rfl pass0 (pa_cons (pv 2) (pa_cons (pv 3) (pa_cons (pv 4) pa_nil))))))))), bl_go ?_⟩
  walk_at "no"
  apply bl_unp4 (hx := hf)
  · walk_at "ev"
  · rfl
  walk_at "if"
  · intro h
    simp only [Bool.or_eq_true, Bool.not_eq_true', Bool.and_eq_false_iff, decide_eq_false_iff_not, Bool.true_eq_false, false_or] at h
    omega
  · intro _
    walk_at "ret"
    rfl
abbrev s_check_format : Stmt := top 42
abbrev N_check_format : List Str := ["form"]
theorem sc_check_format : FnScope N_check_format ["form"] (defScope s_check_format) := ⟨rfl, rfl, rfl, by decide +kernel, rfl, by decide +kernel, by decide +kernel⟩
theorem ok_check_format (T : Txt w K mg) (D0 : DefAt K mg "check_format" s_check_format) (c_is_format : Cal P w K mg base CX0 2 "is_format" ["value"] (Pu (R_is_format K)))  : Cal P w K mg base CX0 3 "check_format" ["form"] (Pu (R_check_format K)) := by
  refine D0.cal sc_check_format (fun vs H Q E h => by obtain ⟨v, ⟨_, _, rfl, _⟩, _⟩ := h; rfl) (fun _ _ _ _ _ _ us hl => match us, hl with | [_], _ => rfl) (fun f cdv A outer s H vs Q E hr h => ?_)
  obtain ⟨v, ⟨p, f, rfl, hf, rfl⟩, k⟩ := h
  have hu := hu_of hr
  refine ⟨_, (pss_one (ps_if (pt_not (pt_val (pe_own c_is_format (hr.mono (by decide)) rfl pass0 (pa_cons (pv 0) pa_nil)))) (pss_one ps_never) pss_nil)), bl_go ?_⟩
  (with_reducible apply bl_ifLast); (walk_at "et")
  · intro h
    walk_at "absurd"
  · intro _ H1 e1
    exact k H1 e1
def R_is_rule (K : PySem.W.Frag) : List V → Hp → V → Prop := fun vs H v => ∃ (r : Rl), vs = [.str (rlS r)] ∧ v = .bl true
theorem r_is_rule {K : PySem.W.Frag} {H : Hp} {r : Rl}  : R_is_rule K [.str (rlS r)] H (.bl true) := ⟨_, rfl, rfl⟩
def R_check_rule (K : PySem.W.Frag) : List V → Hp → V → Prop := fun vs H v => ∃ (r : Rl), vs = [.str (rlS r)] ∧ v = V.non
theorem r_check_rule {K : PySem.W.Frag} {H : Hp} {r : Rl}  : R_check_rule K [.str (rlS r)] H (V.non) := ⟨_, rfl, rfl⟩
def R_rules (K : PySem.W.Frag) : List V → Hp → List V → Prop := fun vs H xs => vs = [] ∧ xs = rlV
theorem r_rules {K : PySem.W.Frag} {H : Hp} : R_rules K [] H rlV := ⟨rfl, rfl⟩
local macro_rules | `(tactic| walk_at "own") => `(tactic| first
  | exact r_is_whole (by first | assumption | exact .int _ | exact Wh.ex (by assumption) (by assumption))
  | exact r_are_choices 
  | exact r_is_format (ex_t (by assumption) (by assumption))
  | exact r_check_format (ex_t (by assumption) (by assumption))
  | exact r_is_rule 
  | exact r_check_rule 
  | exact r_rules)
abbrev s_is_rule : Stmt := top 46
abbrev N_is_rule : List Str := ["value"]
theorem sc_is_rule : FnScope N_is_rule ["value"] (defScope s_is_rule) := ⟨rfl, rfl, rfl, by decide +kernel, rfl, by decide +kernel, by decide +kernel⟩
theorem ok_is_rule (T : Txt w K mg) (D0 : DefAt K mg "is_rule" s_is_rule)   : Cal P w K mg base CX0 1 "is_rule" ["value"] (Pu (R_is_rule K)) := by
  refine D0.cal sc_is_rule (fun vs H Q E h => by obtain ⟨v, ⟨_, rfl, _⟩, _⟩ := h; rfl) (fun _ _ _ _ _ _ us hl => match us, hl with | [_], _ => rfl) (fun f cdv A outer s H vs Q E hr h => ?_)
  obtain ⟨v, ⟨r, rfl, rfl⟩, k⟩ := h
  have hu := hu_of hr
  refine ⟨_, (pss_one (ps_ret (pe_and (pe_callB call_isi (by rfl) T.n_isinstance (by decide +kernel) (pa_cons (pv 0) (pa_cons (pe_bltn (v := .ty "str") (by rfl) T.n_str (by decide +kernel) rfl) pa_nil))) (pe_one (pe_cmpR (op_inKD T.k_ARITIES) (pv 0) (pe_glob (v := .ref _) rfl T.g_ARITIES rfl) (by rfl)))))), bl_go ?_⟩
  have ka := T.v_ARITIES r
  walk_at "ret"
  rfl
abbrev s_check_rule : Stmt := top 47
abbrev N_check_rule : List Str := ["rule"]
theorem sc_check_rule : FnScope N_check_rule ["rule"] (defScope s_check_rule) := ⟨rfl, rfl, rfl, by decide +kernel, rfl, by decide +kernel, by decide +kernel⟩
theorem ok_check_rule (T : Txt w K mg) (D0 : DefAt K mg "check_rule" s_check_rule) (c_is_rule : Cal P w K mg base CX0 1 "is_rule" ["value"] (Pu (R_is_rule K)))  : Cal P w K mg base CX0 2 "check_rule" ["rule"] (Pu (R_check_rule K)) := by
  refine D0.cal sc_check_rule (fun vs H Q E h => by obtain ⟨v, ⟨_, rfl, _⟩, _⟩ := h; rfl) (fun _ _ _ _ _ _ us hl => match us, hl with | [_], _ => rfl) (fun f cdv A outer s H vs Q E hr h => ?_)
  obtain ⟨v, ⟨r, rfl, rfl⟩, k⟩ := h
  have hu := hu_of hr
  refine ⟨_, (pss_one (ps_if (pt_not (pt_val (pe_own c_is_rule (hr.mono (by decide)) rfl pass0 (pa_cons (pv 0) pa_nil)))) (pss_one ps_never) pss_nil)), bl_go ?_⟩
  (with_reducible apply bl_ifLast); (walk_at "et")
  · intro h
    walk_at "absurd"
  · intro _ H1 e1
    exact k H1 e1
def R__check_exponent (K : PySem.W.Frag) : List V → Hp → V → Prop := fun vs H v => ∃ (n : Nat), vs = [.int (n : Int)] ∧ (2 ≤ n) ∧ (n ≤ 64) ∧ v = V.non
theorem r__check_exponent {K : PySem.W.Frag} {H : Hp} {n : Nat} (h0 : 2 ≤ n) (h1 : n ≤ 64) : R__check_exponent K [.int (n : Int)] H (V.non) := ⟨_, rfl, h0, h1, rfl⟩
def R__passes_lucas_lehmer (K : PySem.W.Frag) : List V → Hp → V → Prop := fun vs H v => ∃ (n : Nat), vs = [.int (n : Int)] ∧ (2 ≤ n) ∧ (n ≤ 64) ∧ (n % 2 ≠ 0) ∧ v = .bl (WP.mers n)
theorem r__passes_lucas_lehmer {K : PySem.W.Frag} {H : Hp} {n : Nat} (h0 : 2 ≤ n) (h1 : n ≤ 64) (h2 : n % 2 ≠ 0) : R__passes_lucas_lehmer K [.int (n : Int)] H (.bl (WP.mers n)) := ⟨_, rfl, h0, h1, h2, rfl⟩
def R_is_mersenne (K : PySem.W.Frag) : List V → Hp → V → Prop := fun vs H v => ∃ (n : Nat), vs = [.int (n : Int)] ∧ (2 ≤ n) ∧ (n ≤ 64) ∧ v = .bl (WP.mers n)
theorem r_is_mersenne {K : PySem.W.Frag} {H : Hp} {n : Nat} (h0 : 2 ≤ n) (h1 : n ≤ 64) : R_is_mersenne K [.int (n : Int)] H (.bl (WP.mers n)) := ⟨_, rfl, h0, h1, rfl⟩
def R__sum_grouping (K : PySem.W.Frag) : List V → Hp → V → Prop := fun vs H v => ∃ (f : Fmt), vs = [.int (f.w : Int), .str (sgS f.sg), .str (ovS f.ov), .str (dvS f.dv)] ∧ v = .bl (holdsB f .sumG)
theorem r__sum_grouping {K : PySem.W.Frag} {H : Hp} {f : Fmt}  : R__sum_grouping K [.int (f.w : Int), .str (sgS f.sg), .str (ovS f.ov), .str (dvS f.dv)] H (.bl (holdsB f .sumG)) := ⟨_, rfl, rfl⟩
def R__product_grouping (K : PySem.W.Frag) : List V → Hp → V → Prop := fun vs H v => ∃ (f : Fmt), vs = [.int (f.w : Int), .str (sgS f.sg), .str (ovS f.ov), .str (dvS f.dv)] ∧ v = .bl (holdsB f .prodG)
theorem r__product_grouping {K : PySem.W.Frag} {H : Hp} {f : Fmt}  : R__product_grouping K [.int (f.w : Int), .str (sgS f.sg), .str (ovS f.ov), .str (dvS f.dv)] H (.bl (holdsB f .prodG)) := ⟨_, rfl, rfl⟩
def R__distribution (K : PySem.W.Frag) : List V → Hp → V → Prop := fun vs H v => ∃ (f : Fmt), vs = [.int (f.w : Int), .str (sgS f.sg), .str (ovS f.ov), .str (dvS f.dv)] ∧ v = .bl (holdsB f .dist)
theorem r__distribution {K : PySem.W.Frag} {H : Hp} {f : Fmt}  : R__distribution K [.int (f.w : Int), .str (sgS f.sg), .str (ovS f.ov), .str (dvS f.dv)] H (.bl (holdsB f .dist)) := ⟨_, rfl, rfl⟩
def R__negatives (K : PySem.W.Frag) : List V → Hp → V → Prop := fun vs H v => ∃ (f : Fmt), vs = [.int (f.w : Int), .str (sgS f.sg), .str (ovS f.ov), .str (dvS f.dv)] ∧ v = .bl (holdsB f .dneg)
theorem r__negatives {K : PySem.W.Frag} {H : Hp} {f : Fmt}  : R__negatives K [.int (f.w : Int), .str (sgS f.sg), .str (ovS f.ov), .str (dvS f.dv)] H (.bl (holdsB f .dneg)) := ⟨_, rfl, rfl⟩
def R__add_back (K : PySem.W.Frag) : List V → Hp → V → Prop := fun vs H v => ∃ (f : Fmt), vs = [.int (f.w : Int), .str (sgS f.sg), .str (ovS f.ov), .str (dvS f.dv)] ∧ v = .bl (holdsB f .addB)
theorem r__add_back {K : PySem.W.Frag} {H : Hp} {f : Fmt}  : R__add_back K [.int (f.w : Int), .str (sgS f.sg), .str (ovS f.ov), .str (dvS f.dv)] H (.bl (holdsB f .addB)) := ⟨_, rfl, rfl⟩
def R__division (K : PySem.W.Frag) : List V → Hp → V → Prop := fun vs H v => ∃ (f : Fmt), vs = [.int (f.w : Int), .str (sgS f.sg), .str (ovS f.ov), .str (dvS f.dv)] ∧ v = .bl (holdsB f .divi)
theorem r__division {K : PySem.W.Frag} {H : Hp} {f : Fmt}  : R__division K [.int (f.w : Int), .str (sgS f.sg), .str (ovS f.ov), .str (dvS f.dv)] H (.bl (holdsB f .divi)) := ⟨_, rfl, rfl⟩
def R__remainder_range (K : PySem.W.Frag) : List V → Hp → V → Prop := fun vs H v => ∃ (f : Fmt), vs = [.int (f.w : Int), .str (sgS f.sg), .str (ovS f.ov), .str (dvS f.dv)] ∧ v = .bl (holdsB f .remR)
theorem r__remainder_range {K : PySem.W.Frag} {H : Hp} {f : Fmt}  : R__remainder_range K [.int (f.w : Int), .str (sgS f.sg), .str (ovS f.ov), .str (dvS f.dv)] H (.bl (holdsB f .remR)) := ⟨_, rfl, rfl⟩
def R__negated_quotient (K : PySem.W.Frag) : List V → Hp → V → Prop := fun vs H v => ∃ (f : Fmt), vs = [.int (f.w : Int), .str (sgS f.sg), .str (ovS f.ov), .str (dvS f.dv)] ∧ v = .bl (holdsB f .negQ)
theorem r__negated_quotient {K : PySem.W.Frag} {H : Hp} {f : Fmt}  : R__negated_quotient K [.int (f.w : Int), .str (sgS f.sg), .str (ovS f.ov), .str (dvS f.dv)] H (.bl (holdsB f .negQ)) := ⟨_, rfl, rfl⟩
def R__shift (K : PySem.W.Frag) : List V → Hp → V → Prop := fun vs H v => ∃ (f : Fmt), vs = [.int (f.w : Int), .str (sgS f.sg), .str (ovS f.ov), .str (dvS f.dv)] ∧ v = .bl (holdsB f .shift)
theorem r__shift {K : PySem.W.Frag} {H : Hp} {f : Fmt}  : R__shift K [.int (f.w : Int), .str (sgS f.sg), .str (ovS f.ov), .str (dvS f.dv)] H (.bl (holdsB f .shift)) := ⟨_, rfl, rfl⟩
def R__absolute_value (K : PySem.W.Frag) : List V → Hp → V → Prop := fun vs H v => ∃ (f : Fmt), vs = [.int (f.w : Int), .str (sgS f.sg), .str (ovS f.ov), .str (dvS f.dv)] ∧ v = .bl (holdsB f .absV)
theorem r__absolute_value {K : PySem.W.Frag} {H : Hp} {f : Fmt}  : R__absolute_value K [.int (f.w : Int), .str (sgS f.sg), .str (ovS f.ov), .str (dvS f.dv)] H (.bl (holdsB f .absV)) := ⟨_, rfl, rfl⟩
def R__order_by_difference (K : PySem.W.Frag) : List V → Hp → V → Prop := fun vs H v => ∃ (f : Fmt), vs = [.int (f.w : Int), .str (sgS f.sg), .str (ovS f.ov), .str (dvS f.dv)] ∧ v = .bl (holdsB f .ordD)
theorem r__order_by_difference {K : PySem.W.Frag} {H : Hp} {f : Fmt}  : R__order_by_difference K [.int (f.w : Int), .str (sgS f.sg), .str (ovS f.ov), .str (dvS f.dv)] H (.bl (holdsB f .ordD)) := ⟨_, rfl, rfl⟩
def R__monotone_sum (K : PySem.W.Frag) : List V → Hp → V → Prop := fun vs H v => ∃ (f : Fmt), vs = [.int (f.w : Int), .str (sgS f.sg), .str (ovS f.ov), .str (dvS f.dv)] ∧ v = .bl (holdsB f .monoS)
theorem r__monotone_sum {K : PySem.W.Frag} {H : Hp} {f : Fmt}  : R__monotone_sum K [.int (f.w : Int), .str (sgS f.sg), .str (ovS f.ov), .str (dvS f.dv)] H (.bl (holdsB f .monoS)) := ⟨_, rfl, rfl⟩
def R__average (K : PySem.W.Frag) : List V → Hp → V → Prop := fun vs H v => ∃ (f : Fmt), vs = [.int (f.w : Int), .str (sgS f.sg), .str (ovS f.ov), .str (dvS f.dv)] ∧ v = .bl (holdsB f .aver)
theorem r__average {K : PySem.W.Frag} {H : Hp} {f : Fmt}  : R__average K [.int (f.w : Int), .str (sgS f.sg), .str (ovS f.ov), .str (dvS f.dv)] H (.bl (holdsB f .aver)) := ⟨_, rfl, rfl⟩
def R__square (K : PySem.W.Frag) : List V → Hp → V → Prop := fun vs H v => ∃ (f : Fmt), vs = [.int (f.w : Int), .str (sgS f.sg), .str (ovS f.ov), .str (dvS f.dv)] ∧ v = .bl (holdsB f .squa)
theorem r__square {K : PySem.W.Frag} {H : Hp} {f : Fmt}  : R__square K [.int (f.w : Int), .str (sgS f.sg), .str (ovS f.ov), .str (dvS f.dv)] H (.bl (holdsB f .squa)) := ⟨_, rfl, rfl⟩
def R__zero_product (K : PySem.W.Frag) : List V → Hp → V → Prop := fun vs H v => ∃ (f : Fmt), vs = [.int (f.w : Int), .str (sgS f.sg), .str (ovS f.ov), .str (dvS f.dv)] ∧ v = .bl (holdsB f .zeroP)
theorem r__zero_product {K : PySem.W.Frag} {H : Hp} {f : Fmt}  : R__zero_product K [.int (f.w : Int), .str (sgS f.sg), .str (ovS f.ov), .str (dvS f.dv)] H (.bl (holdsB f .zeroP)) := ⟨_, rfl, rfl⟩
def R__cancellation (K : PySem.W.Frag) : List V → Hp → V → Prop := fun vs H v => ∃ (f : Fmt), vs = [.int (f.w : Int), .str (sgS f.sg), .str (ovS f.ov), .str (dvS f.dv)] ∧ v = .bl (holdsB f .canc)
theorem r__cancellation {K : PySem.W.Frag} {H : Hp} {f : Fmt}  : R__cancellation K [.int (f.w : Int), .str (sgS f.sg), .str (ovS f.ov), .str (dvS f.dv)] H (.bl (holdsB f .canc)) := ⟨_, rfl, rfl⟩
local macro_rules | `(tactic| walk_at "own") => `(tactic| first
  | exact r_is_whole (by first | assumption | exact .int _ | exact Wh.ex (by assumption) (by assumption))
  | exact r_are_choices 
  | exact r_is_format (ex_t (by assumption) (by assumption))
  | exact r_check_format (ex_t (by assumption) (by assumption))
  | exact r_is_rule 
  | exact r_check_rule 
  | exact r_rules
  | exact r__check_exponent (by assumption) (by assumption)
  | exact r__passes_lucas_lehmer (by assumption) (by assumption) (by assumption)
  | exact r_is_mersenne (by assumption) (by assumption)
  | exact r__sum_grouping 
  | exact r__product_grouping 
  | exact r__distribution 
  | exact r__negatives 
  | exact r__add_back 
  | exact r__division 
  | exact r__remainder_range 
  | exact r__negated_quotient 
  | exact r__shift 
  | exact r__absolute_value 
  | exact r__order_by_difference 
  | exact r__monotone_sum 
  | exact r__average 
  | exact r__square 
  | exact r__zero_product 
  | exact r__cancellation )
abbrev s__check_exponent : Stmt := top 11
abbrev N__check_exponent : List Str := ["w"]
theorem sc__check_exponent : FnScope N__check_exponent ["w"] (defScope s__check_exponent) := ⟨rfl, rfl, rfl, by decide +kernel, rfl, by decide +kernel, by decide +kernel⟩
theorem ok__check_exponent (T : Txt w K mg) (D0 : DefAt K mg "_check_exponent" s__check_exponent) (c_is_whole : Cal P w K mg base CX0 1 "is_whole" ["value"] (Pu (R_is_whole K)))  : Cal P w K mg base CX0 2 "_check_exponent" ["w"] (Pu (R__check_exponent K)) := by
  refine D0.cal sc__check_exponent (fun vs H Q E h => by obtain ⟨v, ⟨_, rfl, _⟩, _⟩ := h; rfl) (fun _ _ _ _ _ _ us hl => match us, hl with | [_], _ => rfl) (fun f cdv A outer s H vs Q E hr h => ?_)
  obtain ⟨v, ⟨n, rfl, h2, h64, rfl⟩, k⟩ := h
  have hu := hu_of hr
  refine ⟨_, (pss_one (ps_if (PW.pt (pw_or (pt_not (pt_val (pe_own c_is_whole (hr.mono (by decide)) rfl pass0 (pa_cons (pv 0) pa_nil)))) (pw_or1 (pt_not (pt_chain op_le op_le (pe_globI rfl T.g_LEAST_EXPONENT) (pv 0) (pe_globI rfl T.g_GREATEST_EXPONENT)))))) (pss_one ps_never) pss_nil)), bl_go ?_⟩
  obtain ⟨t1, g1⟩ := T.g_LEAST_EXPONENT
  (with_reducible apply bl_ifLast); (walk_at "et")
  · intro h
    simp only [Bool.or_eq_true, Bool.not_eq_true', Bool.and_eq_false_iff, decide_eq_false_iff_not, Bool.true_eq_false, false_or] at h
    omega
  · intro _ H1 e1
    exact k H1 e1
abbrev s__passes_lucas_lehmer : Stmt := top 12
abbrev N__passes_lucas_lehmer : List Str := ["w", "whole", "found", "_"]
theorem sc__passes_lucas_lehmer : FnScope N__passes_lucas_lehmer ["w"] (defScope s__passes_lucas_lehmer) := ⟨rfl, rfl, rfl, by decide +kernel, rfl, by decide +kernel, by decide +kernel⟩
theorem ok__passes_lucas_lehmer (T : Txt w K mg) (D0 : DefAt K mg "_passes_lucas_lehmer" s__passes_lucas_lehmer)   : Cal P w K mg base CX0 1 "_passes_lucas_lehmer" ["w"] (Pu (R__passes_lucas_lehmer K)) := by
  refine D0.cal sc__passes_lucas_lehmer (fun vs H Q E h => by obtain ⟨v, ⟨_, rfl, _⟩, _⟩ := h; rfl) (fun _ _ _ _ _ _ us hl => match us, hl with | [_], _ => rfl) (fun f cdv A outer s H vs Q E hr h => ?_)
  obtain ⟨v, ⟨n, rfl, h2, h64, ho, rfl⟩, k⟩ := h
  have hu := hu_of hr
  refine ⟨_, (pss_cons (ps_set (i := 1) sc__passes_lucas_lehmer.nd rfl (Or.inl rfl) (pe_op op_sub (pe_op op_shl pe_int (pv 0)) pe_int))
      (pss_cons (ps_set (i := 2) sc__passes_lucas_lehmer.nd rfl (Or.inl rfl) pe_int)
      (pss_cons (ps_for PassesOwn.never (by rfl) (pi_range1 rfl T.n_range (pa_cons (pe_op op_sub (pv 0) pe_int) pa_nil)) (pg_name (i := 3) sc__passes_lucas_lehmer.nd rfl (Or.inl rfl)) (pss_one (ps_set (i := 2) sc__passes_lucas_lehmer.nd rfl (Or.inl rfl) (pe_op op_modN (pe_op op_sub (pe_op op_mulW (pv 2) (pv 2)) pe_int) (pv 1)))))
      (pss_one (ps_ret (pe_cmpR op_eq (pv 2) pe_int (nomark _))))))), bl_go ?_⟩
  obtain ⟨pp1, pp2⟩ := p2_pos h2 h64
  walk_at "set"
  rw [show ((1 : Int) * 2 ^ ((n : Int)).toNat) = p2 n from shl_w]
  walk_at "set"
  intro H0 e0
  apply q_forR1 (n := (n : Int) - 2) (by walk_at "ea") (by omega) (fun i s' H' => ∃ x3, s' = [some (V.int (n : Int)), some (V.int (p2 n - 1)), some (V.int (ll (p2 n - 1) i)), x3] ∧ Ex H H')
  · intro H1 e1
    exact ⟨_, rfl, e0.trans e1⟩
  · rintro i s' H' hi ⟨x3, rfl, e1⟩
    obtain ⟨l0, l1⟩ := ll_in (n := p2 n - 1) pp1 i
    have sl : Sm (ll (p2 n - 1) i) := by
      unfold Sm
      have : 18446744073709551616 < 2 ^ 70 := by decide
      omega
    have m1 : CMulW (ll (p2 n - 1) i) (ll (p2 n - 1) i) := sm_mul sl sl
    have n0 : p2 n - 1 ≠ 0 := by omega
    apply bl_go
    intro H2 e2
    refine s_asg (v := .int (ll (p2 n - 1) (i + 1))) ?_ (fun H3 e3 => ⟨_, rfl, (e1.trans e2).trans e3⟩)
    walk_at "ev"
  · rintro s' H' ⟨x3, rfl, e1⟩
    apply bl_go
    refine bl_retE (v := .bl (decide (V.int (ll (p2 n - 1) (n - 2)) = V.int 0))) ?_ (fun H3 e3 => k H3 (e1.trans e3)) ?_
    · rw [show n - 2 = ((n : Int) - 2).toNat by omega]
      walk_at "ev"
    · rw [dec_i, ll_mers h2 h64 ho]
abbrev s_is_mersenne : Stmt := top 10
abbrev N_is_mersenne : List Str := ["w"]
theorem sc_is_mersenne : FnScope N_is_mersenne ["w"] (defScope s_is_mersenne) := ⟨rfl, rfl, rfl, by decide +kernel, rfl, by decide +kernel, by decide +kernel⟩
theorem ok_is_mersenne (T : Txt w K mg) (D0 : DefAt K mg "is_mersenne" s_is_mersenne) (c__check_exponent : Cal P w K mg base CX0 2 "_check_exponent" ["w"] (Pu (R__check_exponent K))) (c__passes_lucas_lehmer : Cal P w K mg base CX0 1 "_passes_lucas_lehmer" ["w"] (Pu (R__passes_lucas_lehmer K)))  : Cal P w K mg base CX0 3 "is_mersenne" ["w"] (Pu (R_is_mersenne K)) := by
  refine D0.cal sc_is_mersenne (fun vs H Q E h => by obtain ⟨v, ⟨_, rfl, _⟩, _⟩ := h; rfl) (fun _ _ _ _ _ _ us hl => match us, hl with | [_], _ => rfl) (fun f cdv A outer s H vs Q E hr h => ?_)
  obtain ⟨v, ⟨n, rfl, h2, h64, rfl⟩, k⟩ := h
  have hu := hu_of hr
  refine ⟨_, (pss_cons (ps_expr (pe_own c__check_exponent (hr.mono (by decide)) rfl pass0 (pa_cons (pv 0) pa_nil)))
      (pss_cons (ps_if (pt_cmpR op_eq (pe_op op_modN (pv 0) pe_int) pe_int (nomark _)) (pss_one (ps_ret (pe_cmpR op_eq (pv 0) pe_int (nomark _)))) pss_nil)
      (pss_one (ps_ret (pe_own c__passes_lucas_lehmer (hr.mono (by decide)) rfl pass0 (pa_cons (pv 0) pa_nil)))))), bl_go ?_⟩
  walk_at "drop"
  walk_at "if"
  · intro h
    rw [dec_i, decide_eq_true_eq, Int.fmod_eq_emod_of_nonneg _ (by decide)] at h
    walk_at "ret"
    rw [dec_i, mers_even h2 h64 (by omega)]
    exact congrArg V.bl (decide_eq_decide.mpr (by omega))
  · intro h
    rw [dec_i, decide_eq_false_iff_not, Int.fmod_eq_emod_of_nonneg _ (by decide)] at h
    have ho : n % 2 ≠ 0 := by omega
    walk_at "ret"
    rfl
abbrev s__sum_grouping : Stmt := top 15
abbrev N__sum_grouping : List Str := ["width", "signs", "overflow", "division"]
theorem sc__sum_grouping : FnScope N__sum_grouping ["width", "signs", "overflow", "division"] (defScope s__sum_grouping) := ⟨rfl, rfl, rfl, by decide +kernel, rfl, by decide +kernel, by decide +kernel⟩
theorem ok__sum_grouping (T : Txt w K mg) (D0 : DefAt K mg "_sum_grouping" s__sum_grouping)   : Cal P w K mg base CX0 1 "_sum_grouping" ["width", "signs", "overflow", "division"] (Pu (R__sum_grouping K)) := by
  refine D0.cal sc__sum_grouping (fun vs H Q E h => by obtain ⟨v, ⟨_, rfl, _⟩, _⟩ := h; rfl) (fun _ _ _ _ _ _ us hl => match us, hl with | [_, _, _, _], _ => rfl) (fun f cdv A outer s H vs Q E hr h => ?_)
  obtain ⟨v, ⟨⟨w0, sg, ov, dv, h4, h64⟩, rfl, rfl⟩, k⟩ := h
  have hu := hu_of hr
  refine ⟨_, (pss_one (ps_ret (pe_or (pe_cmpR op_eq (pv 2) pe_str (nomark _)) (pe_one (pe_cmpR op_eq (pv 1) pe_str (nomark _)))))), bl_go ?_⟩
  walk_at "ret"
  refine congrArg V.bl ?_
  cases sg <;> cases ov <;> rfl
abbrev s__product_grouping : Stmt := top 16
abbrev N__product_grouping : List Str := ["width", "signs", "overflow", "division"]
theorem sc__product_grouping : FnScope N__product_grouping ["width", "signs", "overflow", "division"] (defScope s__product_grouping) := ⟨rfl, rfl, rfl, by decide +kernel, rfl, by decide +kernel, by decide +kernel⟩
theorem ok__product_grouping (T : Txt w K mg) (D0 : DefAt K mg "_product_grouping" s__product_grouping)   : Cal P w K mg base CX0 1 "_product_grouping" ["width", "signs", "overflow", "division"] (Pu (R__product_grouping K)) := by
  refine D0.cal sc__product_grouping (fun vs H Q E h => by obtain ⟨v, ⟨_, rfl, _⟩, _⟩ := h; rfl) (fun _ _ _ _ _ _ us hl => match us, hl with | [_, _, _, _], _ => rfl) (fun f cdv A outer s H vs Q E hr h => ?_)
  obtain ⟨v, ⟨⟨w0, sg, ov, dv, h4, h64⟩, rfl, rfl⟩, k⟩ := h
  have hu := hu_of hr
  refine ⟨_, (pss_one (ps_ret (pe_or (pe_cmpR op_eq (pv 2) pe_str (nomark _)) (pe_one (pe_and (pe_cmpR op_eq (pv 2) pe_str (nomark _)) (pe_one (pe_cmpR op_ne (pv 1) pe_str (nomark _)))))))), bl_go ?_⟩
  walk_at "ret"
  refine congrArg V.bl ?_
  cases sg <;> cases ov <;> rfl
abbrev s__distribution : Stmt := top 17
abbrev N__distribution : List Str := ["width", "signs", "overflow", "division"]
theorem sc__distribution : FnScope N__distribution ["width", "signs", "overflow", "division"] (defScope s__distribution) := ⟨rfl, rfl, rfl, by decide +kernel, rfl, by decide +kernel, by decide +kernel⟩
theorem ok__distribution (T : Txt w K mg) (D0 : DefAt K mg "_distribution" s__distribution)   : Cal P w K mg base CX0 1 "_distribution" ["width", "signs", "overflow", "division"] (Pu (R__distribution K)) := by
  refine D0.cal sc__distribution (fun vs H Q E h => by obtain ⟨v, ⟨_, rfl, _⟩, _⟩ := h; rfl) (fun _ _ _ _ _ _ us hl => match us, hl with | [_, _, _, _], _ => rfl) (fun f cdv A outer s H vs Q E hr h => ?_)
  obtain ⟨v, ⟨⟨w0, sg, ov, dv, h4, h64⟩, rfl, rfl⟩, k⟩ := h
  have hu := hu_of hr
  refine ⟨_, (pss_one (ps_ret (pe_or (pe_cmpR op_eq (pv 2) pe_str (nomark _)) (pe_one (pe_and (pe_cmpR op_eq (pv 2) pe_str (nomark _)) (pe_one (pe_cmpR op_eq (pv 1) pe_str (nomark _)))))))), bl_go ?_⟩
  walk_at "ret"
  refine congrArg V.bl ?_
  cases sg <;> cases ov <;> rfl
abbrev s__negatives : Stmt := top 18
abbrev N__negatives : List Str := ["width", "signs", "overflow", "division"]
theorem sc__negatives : FnScope N__negatives ["width", "signs", "overflow", "division"] (defScope s__negatives) := ⟨rfl, rfl, rfl, by decide +kernel, rfl, by decide +kernel, by decide +kernel⟩
theorem ok__negatives (T : Txt w K mg) (D0 : DefAt K mg "_negatives" s__negatives)   : Cal P w K mg base CX0 1 "_negatives" ["width", "signs", "overflow", "division"] (Pu (R__negatives K)) := by
  refine D0.cal sc__negatives (fun vs H Q E h => by obtain ⟨v, ⟨_, rfl, _⟩, _⟩ := h; rfl) (fun _ _ _ _ _ _ us hl => match us, hl with | [_, _, _, _], _ => rfl) (fun f cdv A outer s H vs Q E hr h => ?_)
  obtain ⟨v, ⟨⟨w0, sg, ov, dv, h4, h64⟩, rfl, rfl⟩, k⟩ := h
  have hu := hu_of hr
  refine ⟨_, (pss_one (ps_ret (pe_or (pe_cmpR op_eq (pv 1) pe_str (nomark _)) (pe_one (pe_cmpR op_eq (pv 2) pe_str (nomark _)))))), bl_go ?_⟩
  walk_at "ret"
  refine congrArg V.bl ?_
  cases sg <;> cases ov <;> rfl
abbrev s__add_back : Stmt := top 19
abbrev N__add_back : List Str := ["width", "signs", "overflow", "division"]
theorem sc__add_back : FnScope N__add_back ["width", "signs", "overflow", "division"] (defScope s__add_back) := ⟨rfl, rfl, rfl, by decide +kernel, rfl, by decide +kernel, by decide +kernel⟩
theorem ok__add_back (T : Txt w K mg) (D0 : DefAt K mg "_add_back" s__add_back)   : Cal P w K mg base CX0 1 "_add_back" ["width", "signs", "overflow", "division"] (Pu (R__add_back K)) := by
  refine D0.cal sc__add_back (fun vs H Q E h => by obtain ⟨v, ⟨_, rfl, _⟩, _⟩ := h; rfl) (fun _ _ _ _ _ _ us hl => match us, hl with | [_, _, _, _], _ => rfl) (fun f cdv A outer s H vs Q E hr h => ?_)
  obtain ⟨v, ⟨⟨w0, sg, ov, dv, h4, h64⟩, rfl, rfl⟩, k⟩ := h
  have hu := hu_of hr
  refine ⟨_, (pss_one (ps_ret (pe_cmpR op_eq (pv 2) pe_str (nomark _)))), bl_go ?_⟩
  walk_at "ret"
  refine congrArg V.bl ?_
  cases sg <;> cases ov <;> rfl
abbrev s__division : Stmt := top 20
abbrev N__division : List Str := ["width", "signs", "overflow", "division"]
theorem sc__division : FnScope N__division ["width", "signs", "overflow", "division"] (defScope s__division) := ⟨rfl, rfl, rfl, by decide +kernel, rfl, by decide +kernel, by decide +kernel⟩
theorem ok__division (T : Txt w K mg) (D0 : DefAt K mg "_division" s__division)   : Cal P w K mg base CX0 1 "_division" ["width", "signs", "overflow", "division"] (Pu (R__division K)) := by
  refine D0.cal sc__division (fun vs H Q E h => by obtain ⟨v, ⟨_, rfl, _⟩, _⟩ := h; rfl) (fun _ _ _ _ _ _ us hl => match us, hl with | [_, _, _, _], _ => rfl) (fun f cdv A outer s H vs Q E hr h => ?_)
  obtain ⟨v, ⟨⟨w0, sg, ov, dv, h4, h64⟩, rfl, rfl⟩, k⟩ := h
  have hu := hu_of hr
  refine ⟨_, (pss_cons (ps_if (pt_cmpR op_eq (pv 2) pe_str (nomark _)) (pss_one (ps_ret pe_bl)) pss_nil)
      (pss_cons (ps_if (pt_cmpR op_eq (pv 1) pe_str (nomark _)) (pss_one (ps_ret (pe_cmpR op_eq (pv 3) pe_str (nomark _)))) pss_nil)
      (pss_one (ps_ret (pe_and (pe_cmpR op_eq (pv 1) pe_str (nomark _)) (pe_one (pe_cmpR op_in_seq (pv 3) (pe_tup (pa_cons pe_str (pa_cons pe_str (pa_cons pe_str pa_nil)))) (by rfl)))))))), bl_go ?_⟩
  walk_at "if"
  · intro h
    walk_at "ret"
    cases ov <;> first | rfl | exact absurd (show false = true from h) (by decide) | exact absurd (show true = false from h) (by decide)
  intro h
  walk_at "if"
  · intro h2
    walk_at "ret"
    refine congrArg V.bl ?_
    cases sg <;> first | exact absurd (show false = true from h2) (by decide) | exact absurd (show true = false from h2) (by decide) | (cases ov <;> first | exact absurd (show false = true from h) (by decide) | exact absurd (show true = false from h) (by decide) | (cases dv <;> rfl))
  · intro h2
    walk_at "ret"
    refine congrArg V.bl ?_
    cases sg <;> first | exact absurd (show false = true from h2) (by decide) | exact absurd (show true = false from h2) (by decide) | (cases ov <;> first | exact absurd (show false = true from h) (by decide) | exact absurd (show true = false from h) (by decide) | (cases dv <;> rfl))
abbrev s__remainder_range : Stmt := top 21
abbrev N__remainder_range : List Str := ["width", "signs", "overflow", "division"]
theorem sc__remainder_range : FnScope N__remainder_range ["width", "signs", "overflow", "division"] (defScope s__remainder_range) := ⟨rfl, rfl, rfl, by decide +kernel, rfl, by decide +kernel, by decide +kernel⟩
theorem ok__remainder_range (T : Txt w K mg) (D0 : DefAt K mg "_remainder_range" s__remainder_range)   : Cal P w K mg base CX0 1 "_remainder_range" ["width", "signs", "overflow", "division"] (Pu (R__remainder_range K)) := by
  refine D0.cal sc__remainder_range (fun vs H Q E h => by obtain ⟨v, ⟨_, rfl, _⟩, _⟩ := h; rfl) (fun _ _ _ _ _ _ us hl => match us, hl with | [_, _, _, _], _ => rfl) (fun f cdv A outer s H vs Q E hr h => ?_)
  obtain ⟨v, ⟨⟨w0, sg, ov, dv, h4, h64⟩, rfl, rfl⟩, k⟩ := h
  have hu := hu_of hr
  refine ⟨_, (pss_cons (ps_if (pt_cmpR op_eq (pv 3) pe_str (nomark _)) (pss_one (ps_ret pe_bl)) pss_nil)
      (pss_one (ps_ret (pe_and (pe_cmpR op_eq (pv 1) pe_str (nomark _)) (pe_one (pe_or (pe_cmpR op_in_seq (pv 3) (pe_tup (pa_cons pe_str (pa_cons pe_str pa_nil))) (by rfl)) (pe_one (pe_cmpR op_eq (pv 2) pe_str (nomark _))))))))), bl_go ?_⟩
  walk_at "if"
  · intro h
    walk_at "ret"
    cases dv <;> first | rfl | exact absurd (show false = true from h) (by decide) | exact absurd (show true = false from h) (by decide)
  · intro h
    walk_at "ret"
    refine congrArg V.bl ?_
    cases sg <;> cases ov <;> cases dv <;> first | rfl | exact absurd (show false = true from h) (by decide) | exact absurd (show true = false from h) (by decide)
abbrev s__negated_quotient : Stmt := top 22
abbrev N__negated_quotient : List Str := ["width", "signs", "overflow", "division"]
theorem sc__negated_quotient : FnScope N__negated_quotient ["width", "signs", "overflow", "division"] (defScope s__negated_quotient) := ⟨rfl, rfl, rfl, by decide +kernel, rfl, by decide +kernel, by decide +kernel⟩
theorem ok__negated_quotient (T : Txt w K mg) (D0 : DefAt K mg "_negated_quotient" s__negated_quotient)   : Cal P w K mg base CX0 1 "_negated_quotient" ["width", "signs", "overflow", "division"] (Pu (R__negated_quotient K)) := by
  refine D0.cal sc__negated_quotient (fun vs H Q E h => by obtain ⟨v, ⟨_, rfl, _⟩, _⟩ := h; rfl) (fun _ _ _ _ _ _ us hl => match us, hl with | [_, _, _, _], _ => rfl) (fun f cdv A outer s H vs Q E hr h => ?_)
  obtain ⟨v, ⟨⟨w0, sg, ov, dv, h4, h64⟩, rfl, rfl⟩, k⟩ := h
  have hu := hu_of hr
  refine ⟨_, (pss_cons (ps_if (pt_cmpR op_eq (pv 1) pe_str (nomark _)) (pss_one (ps_ret (pe_cmpR op_in_seq (pv 3) (pe_tup (pa_cons pe_str (pa_cons pe_str pa_nil))) (by rfl)))) pss_nil)
      (pss_cons (ps_if (pt_cmpR op_eq (pv 1) pe_str (nomark _)) (pss_one (ps_ret (pe_or (pe_cmpR op_eq (pv 2) pe_str (nomark _)) (pe_one (pe_and (pe_cmpR op_eq (pv 2) pe_str (nomark _)) (pe_one (pe_cmpR op_eq (pv 3) pe_str (nomark _)))))))) pss_nil)
      (pss_one (ps_ret pe_bl)))), bl_go ?_⟩
  walk_at "if"
  · intro h
    walk_at "ret"
    refine congrArg V.bl ?_
    cases sg <;> first | exact absurd (show false = true from h) (by decide) | exact absurd (show true = false from h) (by decide) | (cases ov <;> cases dv <;> rfl)
  intro h
  walk_at "if"
  · intro h2
    walk_at "ret"
    refine congrArg V.bl ?_
    cases sg <;> first | exact absurd (show false = true from h) (by decide) | exact absurd (show true = false from h) (by decide) | exact absurd (show false = true from h2) (by decide) | exact absurd (show true = false from h2) (by decide) | (cases ov <;> cases dv <;> rfl)
  · intro h2
    walk_at "ret"
    refine congrArg V.bl ?_
    cases sg <;> first | exact absurd (show false = true from h) (by decide) | exact absurd (show true = false from h) (by decide) | exact absurd (show false = true from h2) (by decide) | exact absurd (show true = false from h2) (by decide) | (cases ov <;> cases dv <;> rfl)
abbrev s__shift : Stmt := top 23
abbrev N__shift : List Str := ["width", "signs", "overflow", "division"]
theorem sc__shift : FnScope N__shift ["width", "signs", "overflow", "division"] (defScope s__shift) := ⟨rfl, rfl, rfl, by decide +kernel, rfl, by decide +kernel, by decide +kernel⟩
theorem ok__shift (T : Txt w K mg) (D0 : DefAt K mg "_shift" s__shift)   : Cal P w K mg base CX0 1 "_shift" ["width", "signs", "overflow", "division"] (Pu (R__shift K)) := by
  refine D0.cal sc__shift (fun vs H Q E h => by obtain ⟨v, ⟨_, rfl, _⟩, _⟩ := h; rfl) (fun _ _ _ _ _ _ us hl => match us, hl with | [_, _, _, _], _ => rfl) (fun f cdv A outer s H vs Q E hr h => ?_)
  obtain ⟨v, ⟨⟨w0, sg, ov, dv, h4, h64⟩, rfl, rfl⟩, k⟩ := h
  have hu := hu_of hr
  refine ⟨_, (pss_one (ps_ret (pe_or (pe_cmpR op_in_seq (pv 3) (pe_tup (pa_cons pe_str (pa_cons pe_str pa_nil))) (by rfl)) (pe_one (pe_and (pe_cmpR op_eq (pv 1) pe_str (nomark _)) (pe_one (pe_cmpR op_eq (pv 3) pe_str (nomark _)))))))), bl_go ?_⟩
  walk_at "ret"
  refine congrArg V.bl ?_
  cases sg <;> cases dv <;> rfl
abbrev s__absolute_value : Stmt := top 24
abbrev N__absolute_value : List Str := ["width", "signs", "overflow", "division"]
theorem sc__absolute_value : FnScope N__absolute_value ["width", "signs", "overflow", "division"] (defScope s__absolute_value) := ⟨rfl, rfl, rfl, by decide +kernel, rfl, by decide +kernel, by decide +kernel⟩
theorem ok__absolute_value (T : Txt w K mg) (D0 : DefAt K mg "_absolute_value" s__absolute_value)   : Cal P w K mg base CX0 1 "_absolute_value" ["width", "signs", "overflow", "division"] (Pu (R__absolute_value K)) := by
  refine D0.cal sc__absolute_value (fun vs H Q E h => by obtain ⟨v, ⟨_, rfl, _⟩, _⟩ := h; rfl) (fun _ _ _ _ _ _ us hl => match us, hl with | [_, _, _, _], _ => rfl) (fun f cdv A outer s H vs Q E hr h => ?_)
  obtain ⟨v, ⟨⟨w0, sg, ov, dv, h4, h64⟩, rfl, rfl⟩, k⟩ := h
  have hu := hu_of hr
  refine ⟨_, (pss_one (ps_ret (pe_or (pe_cmpR op_ne (pv 1) pe_str (nomark _)) (pe_one (pe_cmpR op_eq (pv 2) pe_str (nomark _)))))), bl_go ?_⟩
  walk_at "ret"
  refine congrArg V.bl ?_
  cases sg <;> cases ov <;> rfl
abbrev s__order_by_difference : Stmt := top 25
abbrev N__order_by_difference : List Str := ["width", "signs", "overflow", "division"]
theorem sc__order_by_difference : FnScope N__order_by_difference ["width", "signs", "overflow", "division"] (defScope s__order_by_difference) := ⟨rfl, rfl, rfl, by decide +kernel, rfl, by decide +kernel, by decide +kernel⟩
theorem ok__order_by_difference (T : Txt w K mg) (D0 : DefAt K mg "_order_by_difference" s__order_by_difference)   : Cal P w K mg base CX0 1 "_order_by_difference" ["width", "signs", "overflow", "division"] (Pu (R__order_by_difference K)) := by
  refine D0.cal sc__order_by_difference (fun vs H Q E h => by obtain ⟨v, ⟨_, rfl, _⟩, _⟩ := h; rfl) (fun _ _ _ _ _ _ us hl => match us, hl with | [_, _, _, _], _ => rfl) (fun f cdv A outer s H vs Q E hr h => ?_)
  obtain ⟨v, ⟨⟨w0, sg, ov, dv, h4, h64⟩, rfl, rfl⟩, k⟩ := h
  have hu := hu_of hr
  refine ⟨_, (pss_one (ps_ret (pe_and (pe_cmpR op_eq (pv 2) pe_str (nomark _)) (pe_one (pe_cmpR op_ne (pv 1) pe_str (nomark _)))))), bl_go ?_⟩
  walk_at "ret"
  refine congrArg V.bl ?_
  cases sg <;> cases ov <;> rfl
abbrev s__monotone_sum : Stmt := top 26
abbrev N__monotone_sum : List Str := ["width", "signs", "overflow", "division"]
theorem sc__monotone_sum : FnScope N__monotone_sum ["width", "signs", "overflow", "division"] (defScope s__monotone_sum) := ⟨rfl, rfl, rfl, by decide +kernel, rfl, by decide +kernel, by decide +kernel⟩
theorem ok__monotone_sum (T : Txt w K mg) (D0 : DefAt K mg "_monotone_sum" s__monotone_sum)   : Cal P w K mg base CX0 1 "_monotone_sum" ["width", "signs", "overflow", "division"] (Pu (R__monotone_sum K)) := by
  refine D0.cal sc__monotone_sum (fun vs H Q E h => by obtain ⟨v, ⟨_, rfl, _⟩, _⟩ := h; rfl) (fun _ _ _ _ _ _ us hl => match us, hl with | [_, _, _, _], _ => rfl) (fun f cdv A outer s H vs Q E hr h => ?_)
  obtain ⟨v, ⟨⟨w0, sg, ov, dv, h4, h64⟩, rfl, rfl⟩, k⟩ := h
  have hu := hu_of hr
  refine ⟨_, (pss_one (ps_ret (pe_cmpR op_eq (pv 2) pe_str (nomark _)))), bl_go ?_⟩
  walk_at "ret"
  refine congrArg V.bl ?_
  cases sg <;> cases ov <;> rfl
abbrev s__average : Stmt := top 27
abbrev N__average : List Str := ["width", "signs", "overflow", "division"]
theorem sc__average : FnScope N__average ["width", "signs", "overflow", "division"] (defScope s__average) := ⟨rfl, rfl, rfl, by decide +kernel, rfl, by decide +kernel, by decide +kernel⟩
theorem ok__average (T : Txt w K mg) (D0 : DefAt K mg "_average" s__average)   : Cal P w K mg base CX0 1 "_average" ["width", "signs", "overflow", "division"] (Pu (R__average K)) := by
  refine D0.cal sc__average (fun vs H Q E h => by obtain ⟨v, ⟨_, rfl, _⟩, _⟩ := h; rfl) (fun _ _ _ _ _ _ us hl => match us, hl with | [_, _, _, _], _ => rfl) (fun f cdv A outer s H vs Q E hr h => ?_)
  obtain ⟨v, ⟨⟨w0, sg, ov, dv, h4, h64⟩, rfl, rfl⟩, k⟩ := h
  have hu := hu_of hr
  refine ⟨_, (pss_one (ps_ret (pe_or (pe_cmpR op_eq (pv 1) pe_str (nomark _)) (pe_one (pe_cmpR op_eq (pv 2) pe_str (nomark _)))))), bl_go ?_⟩
  walk_at "ret"
  refine congrArg V.bl ?_
  cases sg <;> cases ov <;> rfl
abbrev s__square : Stmt := top 28
abbrev N__square : List Str := ["width", "signs", "overflow", "division"]
theorem sc__square : FnScope N__square ["width", "signs", "overflow", "division"] (defScope s__square) := ⟨rfl, rfl, rfl, by decide +kernel, rfl, by decide +kernel, by decide +kernel⟩
theorem ok__square (T : Txt w K mg) (D0 : DefAt K mg "_square" s__square)   : Cal P w K mg base CX0 1 "_square" ["width", "signs", "overflow", "division"] (Pu (R__square K)) := by
  refine D0.cal sc__square (fun vs H Q E h => by obtain ⟨v, ⟨_, rfl, _⟩, _⟩ := h; rfl) (fun _ _ _ _ _ _ us hl => match us, hl with | [_, _, _, _], _ => rfl) (fun f cdv A outer s H vs Q E hr h => ?_)
  obtain ⟨v, ⟨⟨w0, sg, ov, dv, h4, h64⟩, rfl, rfl⟩, k⟩ := h
  have hu := hu_of hr
  refine ⟨_, (pss_one (ps_ret (pe_or (pe_cmpR op_eq (pv 2) pe_str (nomark _)) (pe_one (pe_and (pe_cmpR op_eq (pv 1) pe_str (nomark _)) (pe_one (pe_cmpR op_eq (pv 2) pe_str (nomark _)))))))), bl_go ?_⟩
  walk_at "ret"
  refine congrArg V.bl ?_
  cases sg <;> cases ov <;> rfl
abbrev s__zero_product : Stmt := top 29
abbrev N__zero_product : List Str := ["width", "signs", "overflow", "division"]
theorem sc__zero_product : FnScope N__zero_product ["width", "signs", "overflow", "division"] (defScope s__zero_product) := ⟨rfl, rfl, rfl, by decide +kernel, rfl, by decide +kernel, by decide +kernel⟩
theorem ok__zero_product (T : Txt w K mg) (D0 : DefAt K mg "_zero_product" s__zero_product) (c_is_mersenne : Cal P w K mg base CX0 3 "is_mersenne" ["w"] (Pu (R_is_mersenne K)))  : Cal P w K mg base CX0 4 "_zero_product" ["width", "signs", "overflow", "division"] (Pu (R__zero_product K)) := by
  refine D0.cal sc__zero_product (fun vs H Q E h => by obtain ⟨v, ⟨_, rfl, _⟩, _⟩ := h; rfl) (fun _ _ _ _ _ _ us hl => match us, hl with | [_, _, _, _], _ => rfl) (fun f cdv A outer s H vs Q E hr h => ?_)
  obtain ⟨v, ⟨⟨w0, sg, ov, dv, h4, h64⟩, rfl, rfl⟩, k⟩ := h
  have hu := hu_of hr
  refine ⟨_, (pss_one (ps_ret (pe_or (pe_cmpR op_ne (pv 2) pe_str (nomark _)) (pe_one (pe_and (pe_cmpR op_eq (pv 1) pe_str (nomark _)) (pe_one (pe_own c_is_mersenne (hr.mono (by decide)) rfl pass0 (pa_cons (pv 0) pa_nil)))))))), bl_go ?_⟩
  have w2 : 2 ≤ w0 := by omega
  walk_at "ret"
  refine congrArg V.bl ?_
  cases sg <;> cases ov <;> rfl
abbrev s__cancellation : Stmt := top 30
abbrev N__cancellation : List Str := ["width", "signs", "overflow", "division"]
theorem sc__cancellation : FnScope N__cancellation ["width", "signs", "overflow", "division"] (defScope s__cancellation) := ⟨rfl, rfl, rfl, by decide +kernel, rfl, by decide +kernel, by decide +kernel⟩
theorem ok__cancellation (T : Txt w K mg) (D0 : DefAt K mg "_cancellation" s__cancellation) (c_is_mersenne : Cal P w K mg base CX0 3 "is_mersenne" ["w"] (Pu (R_is_mersenne K)))  : Cal P w K mg base CX0 4 "_cancellation" ["width", "signs", "overflow", "division"] (Pu (R__cancellation K)) := by
  refine D0.cal sc__cancellation (fun vs H Q E h => by obtain ⟨v, ⟨_, rfl, _⟩, _⟩ := h; rfl) (fun _ _ _ _ _ _ us hl => match us, hl with | [_, _, _, _], _ => rfl) (fun f cdv A outer s H vs Q E hr h => ?_)
  obtain ⟨v, ⟨⟨w0, sg, ov, dv, h4, h64⟩, rfl, rfl⟩, k⟩ := h
  have hu := hu_of hr
  refine ⟨_, (pss_one (ps_ret (pe_and (pe_cmpR op_eq (pv 2) pe_str (nomark _)) (pe_and (pe_cmpR op_eq (pv 1) pe_str (nomark _)) (pe_one (pe_own c_is_mersenne (hr.mono (by decide)) rfl pass0 (pa_cons (pv 0) pa_nil))))))), bl_go ?_⟩
  have w2 : 2 ≤ w0 := by omega
  walk_at "ret"
  refine congrArg V.bl ?_
  cases sg <;> cases ov <;> rfl
def R_cond (K : PySem.W.Frag) (r : Rl) : List V → Hp → V → Prop := fun vs H v => ∃ f : Fmt, vs = fV f ∧ v = .bl (holdsB f r)
def fam_CONDITIONS (K : PySem.W.Frag) : V → Sp → Prop := fun y sp => ∃ r : Rl, y = .ref (He.ga K (nm_CONDITIONS r)) ∧ sp = Pu (R_cond K r)
theorem famOk_CONDITIONS (g__sum_grouping : mg "_sum_grouping" = some (.ref (He.ga K "_sum_grouping"))) (g__product_grouping : mg "_product_grouping" = some (.ref (He.ga K "_product_grouping"))) (g__distribution : mg "_distribution" = some (.ref (He.ga K "_distribution"))) (g__negatives : mg "_negatives" = some (.ref (He.ga K "_negatives"))) (g__add_back : mg "_add_back" = some (.ref (He.ga K "_add_back"))) (g__division : mg "_division" = some (.ref (He.ga K "_division"))) (g__remainder_range : mg "_remainder_range" = some (.ref (He.ga K "_remainder_range"))) (g__negated_quotient : mg "_negated_quotient" = some (.ref (He.ga K "_negated_quotient"))) (g__shift : mg "_shift" = some (.ref (He.ga K "_shift"))) (g__absolute_value : mg "_absolute_value" = some (.ref (He.ga K "_absolute_value"))) (g__order_by_difference : mg "_order_by_difference" = some (.ref (He.ga K "_order_by_difference"))) (g__monotone_sum : mg "_monotone_sum" = some (.ref (He.ga K "_monotone_sum"))) (g__average : mg "_average" = some (.ref (He.ga K "_average"))) (g__square : mg "_square" = some (.ref (He.ga K "_square"))) (g__zero_product : mg "_zero_product" = some (.ref (He.ga K "_zero_product"))) (g__cancellation : mg "_cancellation" = some (.ref (He.ga K "_cancellation"))) (c__sum_grouping : Cal P w K mg base CX0 1 "_sum_grouping" ["width", "signs", "overflow", "division"] (Pu (R__sum_grouping K))) (c__product_grouping : Cal P w K mg base CX0 1 "_product_grouping" ["width", "signs", "overflow", "division"] (Pu (R__product_grouping K))) (c__distribution : Cal P w K mg base CX0 1 "_distribution" ["width", "signs", "overflow", "division"] (Pu (R__distribution K))) (c__negatives : Cal P w K mg base CX0 1 "_negatives" ["width", "signs", "overflow", "division"] (Pu (R__negatives K))) (c__add_back : Cal P w K mg base CX0 1 "_add_back" ["width", "signs", "overflow", "division"] (Pu (R__add_back K))) (c__division : Cal P w K mg base CX0 1 "_division" ["width", "signs", "overflow", "division"] (Pu (R__division K))) (c__remainder_range : Cal P w K mg base CX0 1 "_remainder_range" ["width", "signs", "overflow", "division"] (Pu (R__remainder_range K))) (c__negated_quotient : Cal P w K mg base CX0 1 "_negated_quotient" ["width", "signs", "overflow", "division"] (Pu (R__negated_quotient K))) (c__shift : Cal P w K mg base CX0 1 "_shift" ["width", "signs", "overflow", "division"] (Pu (R__shift K))) (c__absolute_value : Cal P w K mg base CX0 1 "_absolute_value" ["width", "signs", "overflow", "division"] (Pu (R__absolute_value K))) (c__order_by_difference : Cal P w K mg base CX0 1 "_order_by_difference" ["width", "signs", "overflow", "division"] (Pu (R__order_by_difference K))) (c__monotone_sum : Cal P w K mg base CX0 1 "_monotone_sum" ["width", "signs", "overflow", "division"] (Pu (R__monotone_sum K))) (c__average : Cal P w K mg base CX0 1 "_average" ["width", "signs", "overflow", "division"] (Pu (R__average K))) (c__square : Cal P w K mg base CX0 1 "_square" ["width", "signs", "overflow", "division"] (Pu (R__square K))) (c__zero_product : Cal P w K mg base CX0 4 "_zero_product" ["width", "signs", "overflow", "division"] (Pu (R__zero_product K))) (c__cancellation : Cal P w K mg base CX0 4 "_cancellation" ["width", "signs", "overflow", "division"] (Pu (R__cancellation K))) : FamOk P w K mg base CX0 4 (fam_CONDITIONS K) := by
  rintro y sp ⟨r, rfl, rfl⟩
  cases r
  · obtain ⟨g, hm, F, hk⟩ := c__sum_grouping.raw
    rw [g__sum_grouping] at hm
    cases hm
    refine ⟨_, rfl, (F.mono (by decide)).imp fun vs H Q E h => ?_, hk⟩
    obtain ⟨v, ⟨f, rfl, rfl⟩, k⟩ := h
    exact ⟨_, ⟨f, rfl, rfl⟩, k⟩
  · obtain ⟨g, hm, F, hk⟩ := c__product_grouping.raw
    rw [g__product_grouping] at hm
    cases hm
    refine ⟨_, rfl, (F.mono (by decide)).imp fun vs H Q E h => ?_, hk⟩
    obtain ⟨v, ⟨f, rfl, rfl⟩, k⟩ := h
    exact ⟨_, ⟨f, rfl, rfl⟩, k⟩
  · obtain ⟨g, hm, F, hk⟩ := c__distribution.raw
    rw [g__distribution] at hm
    cases hm
    refine ⟨_, rfl, (F.mono (by decide)).imp fun vs H Q E h => ?_, hk⟩
    obtain ⟨v, ⟨f, rfl, rfl⟩, k⟩ := h
    exact ⟨_, ⟨f, rfl, rfl⟩, k⟩
  · obtain ⟨g, hm, F, hk⟩ := c__negatives.raw
    rw [g__negatives] at hm
    cases hm
    refine ⟨_, rfl, (F.mono (by decide)).imp fun vs H Q E h => ?_, hk⟩
    obtain ⟨v, ⟨f, rfl, rfl⟩, k⟩ := h
    exact ⟨_, ⟨f, rfl, rfl⟩, k⟩
  · obtain ⟨g, hm, F, hk⟩ := c__negatives.raw
    rw [g__negatives] at hm
    cases hm
    refine ⟨_, rfl, (F.mono (by decide)).imp fun vs H Q E h => ?_, hk⟩
    obtain ⟨v, ⟨f, rfl, rfl⟩, k⟩ := h
    exact ⟨_, ⟨f, rfl, rfl⟩, k⟩
  · obtain ⟨g, hm, F, hk⟩ := c__add_back.raw
    rw [g__add_back] at hm
    cases hm
    refine ⟨_, rfl, (F.mono (by decide)).imp fun vs H Q E h => ?_, hk⟩
    obtain ⟨v, ⟨f, rfl, rfl⟩, k⟩ := h
    exact ⟨_, ⟨f, rfl, rfl⟩, k⟩
  · obtain ⟨g, hm, F, hk⟩ := c__division.raw
    rw [g__division] at hm
    cases hm
    refine ⟨_, rfl, (F.mono (by decide)).imp fun vs H Q E h => ?_, hk⟩
    obtain ⟨v, ⟨f, rfl, rfl⟩, k⟩ := h
    exact ⟨_, ⟨f, rfl, rfl⟩, k⟩
  · obtain ⟨g, hm, F, hk⟩ := c__remainder_range.raw
    rw [g__remainder_range] at hm
    cases hm
    refine ⟨_, rfl, (F.mono (by decide)).imp fun vs H Q E h => ?_, hk⟩
    obtain ⟨v, ⟨f, rfl, rfl⟩, k⟩ := h
    exact ⟨_, ⟨f, rfl, rfl⟩, k⟩
  · obtain ⟨g, hm, F, hk⟩ := c__negated_quotient.raw
    rw [g__negated_quotient] at hm
    cases hm
    refine ⟨_, rfl, (F.mono (by decide)).imp fun vs H Q E h => ?_, hk⟩
    obtain ⟨v, ⟨f, rfl, rfl⟩, k⟩ := h
    exact ⟨_, ⟨f, rfl, rfl⟩, k⟩
  · obtain ⟨g, hm, F, hk⟩ := c__shift.raw
    rw [g__shift] at hm
    cases hm
    refine ⟨_, rfl, (F.mono (by decide)).imp fun vs H Q E h => ?_, hk⟩
    obtain ⟨v, ⟨f, rfl, rfl⟩, k⟩ := h
    exact ⟨_, ⟨f, rfl, rfl⟩, k⟩
  · obtain ⟨g, hm, F, hk⟩ := c__absolute_value.raw
    rw [g__absolute_value] at hm
    cases hm
    refine ⟨_, rfl, (F.mono (by decide)).imp fun vs H Q E h => ?_, hk⟩
    obtain ⟨v, ⟨f, rfl, rfl⟩, k⟩ := h
    exact ⟨_, ⟨f, rfl, rfl⟩, k⟩
  · obtain ⟨g, hm, F, hk⟩ := c__order_by_difference.raw
    rw [g__order_by_difference] at hm
    cases hm
    refine ⟨_, rfl, (F.mono (by decide)).imp fun vs H Q E h => ?_, hk⟩
    obtain ⟨v, ⟨f, rfl, rfl⟩, k⟩ := h
    exact ⟨_, ⟨f, rfl, rfl⟩, k⟩
  · obtain ⟨g, hm, F, hk⟩ := c__monotone_sum.raw
    rw [g__monotone_sum] at hm
    cases hm
    refine ⟨_, rfl, (F.mono (by decide)).imp fun vs H Q E h => ?_, hk⟩
    obtain ⟨v, ⟨f, rfl, rfl⟩, k⟩ := h
    exact ⟨_, ⟨f, rfl, rfl⟩, k⟩
  · obtain ⟨g, hm, F, hk⟩ := c__average.raw
    rw [g__average] at hm
    cases hm
    refine ⟨_, rfl, (F.mono (by decide)).imp fun vs H Q E h => ?_, hk⟩
    obtain ⟨v, ⟨f, rfl, rfl⟩, k⟩ := h
    exact ⟨_, ⟨f, rfl, rfl⟩, k⟩
  · obtain ⟨g, hm, F, hk⟩ := c__square.raw
    rw [g__square] at hm
    cases hm
    refine ⟨_, rfl, (F.mono (by decide)).imp fun vs H Q E h => ?_, hk⟩
    obtain ⟨v, ⟨f, rfl, rfl⟩, k⟩ := h
    exact ⟨_, ⟨f, rfl, rfl⟩, k⟩
  · obtain ⟨g, hm, F, hk⟩ := c__zero_product.raw
    rw [g__zero_product] at hm
    cases hm
    refine ⟨_, rfl, (F.mono (by decide)).imp fun vs H Q E h => ?_, hk⟩
    obtain ⟨v, ⟨f, rfl, rfl⟩, k⟩ := h
    exact ⟨_, ⟨f, rfl, rfl⟩, k⟩
  · obtain ⟨g, hm, F, hk⟩ := c__cancellation.raw
    rw [g__cancellation] at hm
    cases hm
    refine ⟨_, rfl, (F.mono (by decide)).imp fun vs H Q E h => ?_, hk⟩
    obtain ⟨v, ⟨f, rfl, rfl⟩, k⟩ := h
    exact ⟨_, ⟨f, rfl, rfl⟩, k⟩
def R_meets_condition (K : PySem.W.Frag) : List V → Hp → V → Prop := fun vs H v => ∃ (p : Addr) (f : Fmt) (r : Rl), vs = [.ref p, .str (rlS r)] ∧ (SqT K H p (fV f)) ∧ v = .bl (holdsB f r)
theorem r_meets_condition {K : PySem.W.Frag} {H : Hp} {p : Addr} {f : Fmt} {r : Rl} (h0 : SqT K H p (fV f)) : R_meets_condition K [.ref p, .str (rlS r)] H (.bl (holdsB f r)) := ⟨_, _, _, rfl, h0, rfl⟩
def R_profile (K : PySem.W.Frag) : List V → Hp → List V → Prop := fun vs H xs => ∃ (p : Addr) (f : Fmt), vs = [.ref p] ∧ (SqT K H p (fV f)) ∧ xs = WJ.profV f
theorem r_profile {K : PySem.W.Frag} {H : Hp} {p : Addr} {f : Fmt} (h0 : SqT K H p (fV f)) : R_profile K [.ref p] H (WJ.profV f) := ⟨_, _, rfl, h0, rfl⟩
local macro_rules | `(tactic| walk_at "own") => `(tactic| first
  | exact r_is_whole (by first | assumption | exact .int _ | exact Wh.ex (by assumption) (by assumption))
  | exact r_are_choices 
  | exact r_is_format (ex_t (by assumption) (by assumption))
  | exact r_check_format (ex_t (by assumption) (by assumption))
  | exact r_is_rule 
  | exact r_check_rule 
  | exact r_rules
  | exact r__check_exponent (by assumption) (by assumption)
  | exact r__passes_lucas_lehmer (by assumption) (by assumption) (by assumption)
  | exact r_is_mersenne (by assumption) (by assumption)
  | exact r__sum_grouping 
  | exact r__product_grouping 
  | exact r__distribution 
  | exact r__negatives 
  | exact r__add_back 
  | exact r__division 
  | exact r__remainder_range 
  | exact r__negated_quotient 
  | exact r__shift 
  | exact r__absolute_value 
  | exact r__order_by_difference 
  | exact r__monotone_sum 
  | exact r__average 
  | exact r__square 
  | exact r__zero_product 
  | exact r__cancellation 
  | exact r_meets_condition (ex_t (by assumption) (by assumption))
  | exact r_profile (ex_t (by assumption) (by assumption)))
abbrev s_meets_condition : Stmt := top 14
abbrev N_meets_condition : List Str := ["form", "rule", "condition"]
theorem sc_meets_condition : FnScope N_meets_condition ["form", "rule"] (defScope s_meets_condition) := ⟨rfl, rfl, rfl, by decide +kernel, rfl, by decide +kernel, by decide +kernel⟩
theorem ok_meets_condition (T : Txt w K mg) (D0 : DefAt K mg "meets_condition" s_meets_condition)  (F_CONDITIONS : FamOk P w K mg base CX0 4 (fam_CONDITIONS K)) : Cal P w K mg base CX0 5 "meets_condition" ["form", "rule"] (Pu (R_meets_condition K)) := by
  refine D0.cal sc_meets_condition (fun vs H Q E h => by obtain ⟨v, ⟨_, _, _, rfl, _⟩, _⟩ := h; rfl) (fun _ _ _ _ _ _ us hl => match us, hl with | [_, _], _ => rfl) (fun f cdv A outer s H vs Q E hr h => ?_)
  obtain ⟨v, ⟨p, f, r, rfl, hf, rfl⟩, k⟩ := h
  have hu := hu_of hr
  refine ⟨_, (pss_cons (ps_set (i := 2) sc_meets_condition.nd rfl (Or.inl rfl) (pe_ix ix_kdict (pe_glob (v := .ref _) rfl T.g_CONDITIONS rfl) (pv 1) (fun _ _ => rfl)))
      (pss_one (ps_ret (pe_callV1 F_CONDITIONS (hr.mono (by decide)) pass0 (pv 2) (pv 0))))), bl_go ?_⟩
  have kc := T.v_CONDITIONS r
  walk_at "set"
  refine bl_retE (v := .bl (holdsB f r)) (ev_callV (vs := fV f) (ev_var rfl) ⟨r, rfl, rfl⟩ (ea_star1 (ev_var rfl) hf) (fun H2 e2 => ⟨f, rfl, rfl⟩)) k rfl
abbrev s_rules : Stmt := top 45
abbrev N_rules : List Str := []
theorem sc_rules : FnScope N_rules [] (defScope s_rules) := ⟨rfl, rfl, rfl, by decide +kernel, rfl, by decide +kernel, by decide +kernel⟩
theorem ok_rules (T : Txt w K mg) (D0 : DefAt K mg "rules" s_rules)   : Cal P w K mg base CX0 1 "rules" [] (PuT (R_rules K)) := by
  refine D0.cal sc_rules (fun vs H Q E h => by obtain ⟨xs, ⟨rfl, _⟩, _⟩ := h; rfl) (fun _ _ _ _ _ _ us hl => match us, hl with | [], _ => rfl) (fun f cdv A outer s H vs Q E hr h => ?_)
  obtain ⟨xs0, ⟨rfl, rfl⟩, k⟩ := h
  have hu := hu_of hr
  refine ⟨_, (pss_one (ps_ret (pe_callTy (call_tuple_kd (by rfl)) (by rfl) T.n_tuple (by decide +kernel) (pa_cons (pe_glob (v := .ref _) rfl T.g_ARITIES rfl) pa_nil)))), bl_go ?_⟩
  have z := T.q_ARITIES
  refine bl_retUE (eu_keys (ev_c) z (by decide)) k ?_
  rfl
abbrev s_profile : Stmt := top 49
abbrev N_profile : List Str := ["form", "rule"]
theorem sc_profile : FnScope N_profile ["form"] (defScope s_profile) := ⟨rfl, rfl, rfl, by decide +kernel, rfl, by decide +kernel, by decide +kernel⟩
theorem ok_profile (T : Txt w K mg) (D0 : DefAt K mg "profile" s_profile) (c_check_format : Cal P w K mg base CX0 3 "check_format" ["form"] (Pu (R_check_format K))) (c_meets_condition : Cal P w K mg base CX0 5 "meets_condition" ["form", "rule"] (Pu (R_meets_condition K))) (c_rules : Cal P w K mg base CX0 1 "rules" [] (PuT (R_rules K)))  : Cal P w K mg base CX0 6 "profile" ["form"] (PuT (R_profile K)) := by
  refine D0.cal sc_profile (fun vs H Q E h => by obtain ⟨xs, ⟨_, _, rfl, _⟩, _⟩ := h; rfl) (fun _ _ _ _ _ _ us hl => match us, hl with | [_], _ => rfl) (fun f cdv A outer s H vs Q E hr h => ?_)
  obtain ⟨v, ⟨p, f, rfl, hf, rfl⟩, k⟩ := h
  have hu := hu_of hr
  refine ⟨_, (pss_cons (ps_expr (pe_own c_check_format (hr.mono (by decide)) rfl pass0 (pa_cons (pv 0) pa_nil)))
      (pss_one (ps_ret (pe_callTy call_tuple_of (by rfl) T.n_tuple (by decide +kernel) (pa_cons (pe_lc (own := [("rule", 1)]) (g := gName 1) (by rfl) sc_profile.nd (pi_tup (pe_own0 c_rules (hr.mono (by decide)) rfl pass0)) (blkOk_by (own := [("rule", 1)]) (N := N_profile) (sc := defScope s_profile) (by decide +kernel)) (fun _ _ _ _ _ => pg_name (i := 1) sc_profile.nd rfl (Or.inl rfl)) (fun _ _ _ _ _ => pts_one (pt_val (pe_own c_meets_condition (hr.mono (by decide)) rfl pass0 (pa_cons (pv 0) (pa_cons (pv 1) pa_nil))))) (fun _ _ _ _ _ => (pv 1))) pa_nil))))), bl_go ?_⟩
  walk_at "drop"
  refine bl_retUE (eu_tupOf (WU.el_is (WJ.el_lcNT (xs := rlV) (fun i => (allRl[i]?.map fun r => holdsB f r).getD false) (fun i => (allRl[i]?.map fun r => V.str (rlS r)).getD .non) (WL.eu_own ea_nil (fun _ _ => r_rules)) (Nat.le_of_ble_eq_true rfl) (fun x => rfl) (fun i x H1 e1 hi => ?_) (fun i x H1 e1 hi hb => ?_)) ?_)) k rfl
  · obtain ⟨r, hr, rfl⟩ := WJ.at_map hi
    rw [hr]
    exact et_B (ev_own (by walk_at "ea") (fun _ e2 => r_meets_condition (ex_t (e1.trans e2) hf)))
  · obtain ⟨r, hr, rfl⟩ := WJ.at_map hi
    rw [hr]
    exact ev_var rfl
  · exact WJ.given_filt allRl (fun r => holdsB f r) (fun r => V.str (rlS r))
end
end KC

set_option maxHeartbeats 4000000
namespace KC
open PySem PySem.Spec PyProof.Rows L2 Evl WM WL WLam WX WT WU StX LamX
local macro_rules | `(tactic| walk_at "ev") => `(tactic| first
  | exact ev_c
  | exact ev_var rfl
  | ((with_reducible apply ev_op); (walk_at "ev"); (walk_at "ev"); (walk_at "rv"))
  | ((with_reducible apply ev_un); (walk_at "ev"); exact ru_neg)
  | ((with_reducible apply ev_notV); (walk_at "ev"))
  | ((with_reducible apply ev_andV); (walk_at "ev"); (intro _; walk_at "ev"))
  | ((with_reducible apply ev_orV); (walk_at "ev"); (intro _; walk_at "ev"))
  | ((with_reducible apply ev_ifT); (walk_at "et"); (exact rfl); (walk_at "ev"))
  | ((with_reducible apply ev_ifF); (walk_at "et"); (exact rfl); (walk_at "ev"))
  | ((with_reducible apply ev_ifB); (walk_at "et"); (intro _; walk_at "ev"); (intro _; walk_at "ev"))
  | ((with_reducible apply ev_chainI); (walk_at "ev"); (walk_at "ev"); (walk_at "ev"))
  | ((with_reducible apply ev_own); (walk_at "ea"); (intro _ _; walk_at "own"))
  | ((with_reducible apply ev_ddS); (walk_at "dp"); (exact Nat.le_of_ble_eq_true rfl); (walk_at "ev"); (exact rfl))
  | ((with_reducible apply ev_isiT); (walk_at "ev"); (walk_at "ea"); (walk_at "isiT"))
  | ((with_reducible apply ev_cb); (walk_at "ea"); (walk_at "rc")))
local macro_rules | `(tactic| walk_at "dp") => `(tactic| first
  | exact Paired.nil
  | ((with_reducible apply dp_cons); (exact ev_c); (walk_at "ev"); (walk_at "dp")))
local macro_rules | `(tactic| walk_at "ea") => `(tactic| first
  | exact ea_nil
  | ((with_reducible apply ea_cons); (walk_at "ev"); (walk_at "ea")))
local macro_rules | `(tactic| walk_at "et") => `(tactic| first
  | ((with_reducible apply et_test); (walk_at "ev"))
  | ((with_reducible apply et_B); (walk_at "ev"))
  | ((with_reducible apply et_not); (walk_at "et"))
  | ((with_reducible apply et_and); (walk_at "et"); (intro _; walk_at "et"))
  | ((with_reducible apply et_or); (walk_at "et"); (intro _; walk_at "et")))
local macro_rules | `(tactic| walk_at "rv") => `(tactic| first
  | exact rv_I0
  | exact rv_eq rfl
  | exact rv_ne rfl
  | exact rv_isT (by assumption) rfl rfl
  | exact rv_niT (by assumption) rfl rfl
  | exact rv_isL (by assumption) rfl rfl
  | exact rv_niL (by assumption) rfl rfl
  | exact rv_ixT (by assumption) rfl
  | exact rv_ixL (by assumption) rfl
  | exact rv_ixL (by assumption) (by assumption)
  | (apply rv_I; (walk_at "side")))
local macro_rules | `(tactic| walk_at "side") => `(tactic| first
  | assumption
  | (refine And.intro ?_ (And.intro ?_ ?_) <;> (try dsimp only) <;> first | omega | decide)
  | (dsimp only; omega)
  | omega)
local macro_rules | `(tactic| walk_at "rc") => `(tactic| first
  | exact rc_abs | exact rc_max2 | exact rc_min2 | exact rc_int | exact rc_intB
  | exact rc_isi_int (b := true) (by decide +kernel)
  | exact rc_isi_int (b := false) (by decide +kernel)
  | exact rc_isi_bl (b := true) (by decide +kernel)
  | exact rc_isi_bl (b := false) (by decide +kernel)
  | exact rc_isi_str (b := true) (by decide +kernel)
  | exact rc_isi_str (b := false) (by decide +kernel)
  | exact rc_isi_T (b := true) (by assumption) (by decide +kernel)
  | exact rc_isi_T (b := false) (by assumption) (by decide +kernel)
  | exact rc_lenT (by assumption)
  | exact rc_lenL (by assumption))
local macro_rules | `(tactic| walk_at "set") => `(tactic| ((with_reducible apply bl_set); (walk_at "ev")))
local macro_rules | `(tactic| walk_at "drop") => `(tactic| ((with_reducible apply bl_drop); (walk_at "ev")))
local macro_rules | `(tactic| walk_at "par") => `(tactic| ((with_reducible apply bl_par); (walk_at "ea")))
local macro_rules | `(tactic| walk_at "if") => `(tactic| ((with_reducible apply bl_when); (walk_at "et")))
local macro_rules | `(tactic| walk_at "no") => `(tactic| ((with_reducible apply bl_when); (walk_at "et"); (intro h; exact absurd (show false = true from h) (by decide)); (intro _)))
local macro_rules | `(tactic| walk_at "yes") => `(tactic| ((with_reducible apply bl_when); (walk_at "et"); rotate_left; (intro h; exact absurd (show true = false from h) (by decide)); (intro _)))
local macro_rules | `(tactic| walk_at "ret") => `(tactic| ((with_reducible apply bl_retE); rotate_left; assumption; rotate_right; (walk_at "ev")))
local macro_rules | `(tactic| walk_at "absurd") => `(tactic| first | exact absurd (show false = true from (by assumption)) (by decide) | exact absurd (show true = false from (by assumption)) (by decide))
local macro_rules | `(tactic| walk_at "rv") => `(tactic| first | exact rv_isN (s := []) | exact rv_notKD (by assumption) | exact rv_inKD (by assumption) | exact rv_ixKD (by assumption))
local macro_rules | `(tactic| walk_at "isiT") => `(tactic| ((exact Nat.le_of_ble_eq_true rfl); (exact .cons (.ty _) (.cons (.ty _) .nil)); (first | exact fun _ _ => .base (.int _) | exact fun _ _ => .base (.bl _) | exact fun _ _ => .base (.str _) | exact fun _ _ => .base .non); (exact kitAny_no (by decide +kernel) (by decide +kernel))))
local macro_rules | `(tactic| walk_at "rc") => `(tactic| first | exact rc_isi_non (b := true) (by decide +kernel) | exact rc_isi_non (b := false) (by decide +kernel))
local macro_rules | `(tactic| walk_at "eu") => `(tactic| first
  | ((with_reducible apply eu_own); (walk_at "ea"); (intro _ _; walk_at "own"))
  | ((with_reducible apply eu_tup); (walk_at "ea"); (exact Nat.le_of_ble_eq_true rfl)))
local macro_rules | `(tactic| walk_at "ev") => `(tactic| ((with_reducible apply ev_own1U); (walk_at "eu"); (walk_at "ea"); (intro _ _ _ _; walk_at "own1")))
local macro_rules | `(tactic| walk_at "isr") => `(tactic| first | with_reducible exact isr_r | with_reducible exact isr_i | ((with_reducible apply isr_if) <;> (walk_at "isr")))
local macro_rules | `(tactic| walk_at "osm") => `(tactic| first | with_reducible assumption | with_reducible exact osm_add | with_reducible exact osm_sub | with_reducible exact osm_mul | with_reducible exact osm_dvo | with_reducible exact osm_neg | with_reducible exact osm_rem | with_reducible exact osm_do | with_reducible exact osm_div | with_reducible exact osm_fit | ((with_reducible apply osm); assumption) | ((with_reducible apply osm); exact (show (0 : Int).natAbs < 2 ^ 70 by decide)) | ((with_reducible apply osm); exact (show (2 : Int).natAbs < 2 ^ 70 by decide)) | ((with_reducible apply osm_if) <;> (walk_at "osm")))
local macro_rules | `(tactic| walk_at "ev") => `(tactic| first
  | ((with_reducible apply ev_inLst); (walk_at "ev"); (walk_at "ea"); (exact Nat.le_of_ble_eq_true rfl); (exact rfl); (first | exact rfl | simp [flatV])))
local macro_rules | `(tactic| walk_at "rv") => `(tactic| first | exact rv_eq scal_rv | exact rv_ne scal_rv | exact rv_eq (scal_rv (y := some _)) | exact rv_ne (scal_rv (y := some _)) | exact rv_eq (scal_rv (y := none)) | exact rv_ne (scal_rv (y := none)))
local macro_rules | `(tactic| walk_at "nz") => `(tactic| first | with_reducible assumption | ((with_reducible apply nz_i); (first | assumption | decide)))
local macro_rules | `(tactic| walk_at "ev") => `(tactic| ((with_reducible apply ev_inU); (walk_at "ev"); (walk_at "eu"); (exact rfl); (exact rfl)))
section
variable {P : Program} {w : World} {K : PySem.W.Frag} {mg : Str → Option Value} {base : Heap}
local macro_rules | `(tactic| walk_at "own") => `(tactic| first
  | exact r_is_whole (by first | assumption | exact .int _ | exact Wh.ex (by assumption) (by assumption))
  | exact r_are_choices 
  | exact r_is_format (ex_t (by assumption) (by assumption))
  | exact r_check_format (ex_t (by assumption) (by assumption))
  | exact r_is_rule 
  | exact r_check_rule 
  | exact r_rules
  | exact r__check_exponent (by assumption) (by assumption)
  | exact r__passes_lucas_lehmer (by assumption) (by assumption) (by assumption)
  | exact r_is_mersenne (by assumption) (by assumption)
  | exact r__sum_grouping 
  | exact r__product_grouping 
  | exact r__distribution 
  | exact r__negatives 
  | exact r__add_back 
  | exact r__division 
  | exact r__remainder_range 
  | exact r__negated_quotient 
  | exact r__shift 
  | exact r__absolute_value 
  | exact r__order_by_difference 
  | exact r__monotone_sum 
  | exact r__average 
  | exact r__square 
  | exact r__zero_product 
  | exact r__cancellation 
  | exact r_meets_condition (ex_t (by assumption) (by assumption))
  | exact r_profile (ex_t (by assumption) (by assumption)))
abbrev s_all_widths : Stmt := top 40
abbrev N_all_widths : List Str := []
theorem sc_all_widths : FnScope N_all_widths [] (defScope s_all_widths) := ⟨rfl, rfl, rfl, by decide +kernel, rfl, by decide +kernel, by decide +kernel⟩
theorem ok_all_widths (T : Txt w K mg) (D0 : DefAt K mg "all_widths" s_all_widths) : Cal P w K mg base CX0 1 "all_widths" [] (PuL (fun vs _ xs => vs = [] ∧ xs = rgV 4 65)) := by
  refine D0.cal sc_all_widths (fun vs H Q E h => by obtain ⟨v, ⟨rfl, _⟩, _⟩ := h; rfl) (fun _ _ _ _ _ _ us hl => match us, hl with | [], _ => rfl) (fun f cdv A outer s H vs Q E hr h => ?_)
  obtain ⟨xs0, ⟨rfl, rfl⟩, k⟩ := h
  refine ⟨_, (pss_one (ps_ret (pe_listRg (by rfl) (by rfl) T.n_list (prg_2 (by rfl) T.n_range (pe_globI rfl T.g_LEAST_WIDTH) (pe_op op_add (pe_globI rfl T.g_GREATEST_WIDTH) pe_int))))), ?_⟩
  exact ⟨64, 1, rfl, rfl, 4, 65, rfl, rfl, RgOk.of_le (by decide) (by decide) (by decide) (by decide), fun q hq => k q _ hq (Ex.new hq) upd_same⟩
/-- a tuple of rules, each once -/
def RsV (rs : List Rl) : List V := rs.map fun r => V.str (rlS r)
theorem rls_inj {a b : Rl} (h : rlS a = rlS b) : a = b := by cases a <;> cases b <;> first | rfl | exact absurd h (by decide +kernel)
theorem nd_strs : ∀ {rs : List Rl}, rs.Nodup → (rs.map rlS).Nodup
  | [], _ => List.nodup_nil
  | r :: rs, h => by
    obtain ⟨h1, h2⟩ := List.nodup_cons.mp h
    refine List.nodup_cons.mpr ⟨fun z => ?_, nd_strs h2⟩
    obtain ⟨x, hx, e⟩ := List.mem_map.mp z
    exact h1 (rls_inj e ▸ hx)
theorem nd_back : ∀ {rs : List Rl}, (rs.map rlS).Nodup → rs.Nodup
  | [], _ => List.nodup_nil
  | r :: rs, h => by
    obtain ⟨h1, h2⟩ := List.nodup_cons.mp h
    exact List.nodup_cons.mpr ⟨fun z => h1 (List.mem_map.mpr ⟨r, z, rfl⟩), nd_back h2⟩
theorem rs_str (rs : List Rl) : RsV rs = (rs.map rlS).map V.str := by unfold RsV; rw [List.map_map]; rfl
/-- the format of the i-th width -/
def fmW (sg : Sg) (ov : Ov) (dv : Dv) (i : Nat) : Fmt := ⟨4 + i % 61, sg, ov, dv, by omega, by omega⟩
def okW (sg : Sg) (ov : Ov) (dv : Dv) (rs : List Rl) (i : Nat) : Bool := rs.all fun r => holdsB (fmW sg ov dv i) r
def widV (i : Nat) : V := .int (4 + (i : Int))
/-- the widths of the formats in which all wanted rules hold -/
def goodV (sg : Sg) (ov : Ov) (dv : Dv) (rs : List Rl) : List V := given 61 (okW sg ov dv rs) widV
theorem rg_at {i : Nat} {x : V} (h : (rgV 4 65)[i]? = some x) : x = widV i ∧ i < 61 := by
  unfold rgV at h
  obtain ⟨k, hk, rfl⟩ := WJ.at_map h
  obtain ⟨hl, e⟩ := List.getElem?_eq_some_iff.mp hk
  rw [List.getElem_range] at e
  rw [List.length_range] at hl
  subst e
  exact ⟨rfl, hl⟩
theorem fm_val {sg : Sg} {ov : Ov} {dv : Dv} {i : Nat} (h : i < 61) : fV (fmW sg ov dv i) = [widV i, .str (sgS sg), .str (ovS ov), .str (dvS dv)] := by
  have e : i % 61 = i := Nat.mod_eq_of_lt h
  show [V.int ((4 + i % 61 : Nat) : Int), _, _, _] = _
  rw [e]
  unfold widV
  rw [Int.natCast_add]
  rfl
abbrev s_all_formats : Stmt := top 41
abbrev N_all_formats : List Str := ["width", "signs", "overflow", "division"]
theorem sc_all_formats : FnScope N_all_formats [] (defScope s_all_formats) := ⟨rfl, rfl, rfl, by decide +kernel, rfl, by decide +kernel, by decide +kernel⟩
def allSg : List Sg := [.sym, .twos, .uns]
def allOv : List Ov := [.sat, .trap, .wrap]
def allDv : List Dv := [.ceil, .euc, .even, .floor, .zero]
def f3 (i : Nat) (sg : Sg) (ov : Ov) (dv : Dv) : List Fmt := [fmW sg ov dv i]
def f2 (i : Nat) (sg : Sg) (ov : Ov) : List Fmt := allDv.flatMap (f3 i sg ov)
def f1 (i : Nat) (sg : Sg) : List Fmt := allOv.flatMap (f2 i sg)
def f0 (i : Nat) : List Fmt := allSg.flatMap (f1 i)
/-- all formats, in the program's order -/
def allF : List Fmt := (List.range 61).flatMap f0
theorem len_f0 : ∀ i, ((List.range i).flatMap f0).length = 45 * i
  | 0 => rfl
  | i + 1 => by
    rw [List.range_succ, List.flatMap_append, List.length_append, len_f0 i]
    show 45 * i + 45 = _
    omega
theorem take_len {α β : Type} (l : List α) (n : Nat) (f : α → List β) : ((l.take n).flatMap f).length ≤ (l.flatMap f).length := by
  have h := congrArg (fun l => (List.flatMap f l).length) (List.take_append_drop n l)
  try dsimp only at h
  rw [List.flatMap_append, List.length_append] at h
  omega
def IsF (K : PySem.W.Frag) (H : Hp) (v : V) (f : Fmt) : Prop := ∃ p, v = .ref p ∧ SqT K H p (fV f)
structure GotF (K : PySem.W.Frag) (H0 : Hp) (Z : Addr) (fs : List Fmt) (G : Hp) : Prop where
  no : H0 Z = none
  ex : Ex H0 G
  is : ∃ ps, G Z = some (.lst ps) ∧ Paired (IsF K G) ps fs
theorem isF_ex {K : PySem.W.Frag} {G G' : Hp} (e : Ex G G') : ∀ {ps : List V} {fs : List Fmt}, Paired (IsF K G) ps fs → Paired (IsF K G') ps fs
  | _, _, .nil => .nil
  | _, _, .cons ⟨p, h1, h2⟩ r => .cons ⟨p, h1, ex_t e h2⟩ (isF_ex e r)
theorem isF_map {K : PySem.W.Frag} {G G' : Hp} (up : ∀ (q : Addr) (xs : List V), SqT K G q xs → SqT K G' q xs) : ∀ {ps : List V} {fs : List Fmt}, Paired (IsF K G) ps fs → Paired (IsF K G') ps fs
  | _, _, .nil => .nil
  | _, _, .cons ⟨p, h1, h2⟩ r => .cons ⟨p, h1, up _ _ h2⟩ (isF_map up r)
theorem GotF.keep {K : PySem.W.Frag} {H0 G G' : Hp} {Z : Addr} {fs : List Fmt} (h : GotF K H0 Z fs G) (e : Ex G G') : GotF K H0 Z fs G' := by
  obtain ⟨no, ex, ps, h1, h2⟩ := h
  exact ⟨no, ex.trans e, ps, e _ _ h1, isF_ex e h2⟩
theorem GotF.add {K : PySem.W.Frag} {H0 G : Hp} {Z p : Addr} {fs : List Fmt} {f : Fmt} (h : GotF K H0 Z fs G) (hp : SqT K G p (fV f)) : ∃ ps, G Z = some (.lst ps) ∧ ps.length = fs.length ∧ GotF K H0 Z (fs ++ [f]) (upd G Z (.lst (ps ++ [.ref p]))) := by
  obtain ⟨no, ex, ps, h1, h2⟩ := h
  have up : ∀ (q : Addr) (xs : List V), SqT K G q xs → SqT K (upd G Z (.lst (ps ++ [.ref p]))) q xs := fun q xs z => WTs.sqT_upd h1 (fun _ z => by cases z) (fun _ _ z => by cases z) z
  refine ⟨ps, h1, WY.paired_len h2, no, fun b o e => ?_, _, upd_same, WY.paired_app (isF_map up h2) (.cons ⟨p, rfl, up _ _ hp⟩ .nil)⟩
  rw [upd_ne (ne_of_none e no)]
  exact ex b o e
theorem sqL_updL {K : PySem.W.Frag} {G : Hp} {Z a : Addr} {ps qs : List V} {xs : List V} (h : G Z = some (.lst ps)) (x : SqL K G a xs) (ne : a ≠ Z) : SqL K (upd G Z (.lst qs)) a xs := by
  rcases x with (x | ⟨b, x⟩) | x
  · exact .inl (.inl (by rw [upd_ne ne]; exact x))
  · exact .inl (.inr ⟨b, by rw [upd_ne ne]; exact x⟩)
  · exact .inr x
def SpForms (K : PySem.W.Frag) : Sp := fun vs H Q _ => vs = [] ∧ ∀ l G, GotF K H l allF G → Q (.ref l) G
theorem ok_all_formats (T : Txt w K mg) (D0 : DefAt K mg "all_formats" s_all_formats) (c_all_widths : Cal P w K mg base CX0 1 "all_widths" [] (PuL (fun vs _ xs => vs = [] ∧ xs = rgV 4 65))) : Cal P w K mg base CX0 2 "all_formats" [] (SpForms K) := by
  refine D0.cal sc_all_formats (fun vs H Q E h => by obtain ⟨rfl, _⟩ := h; rfl) (fun _ _ _ _ _ _ us hl => match us, hl with | [], _ => rfl) (fun f cdv A outer s H vs Q E hr h => ?_)
  obtain ⟨rfl, k⟩ := h
  have hu := hu_of hr
  refine ⟨_, (pss_one (ps_ret (WNc.pe_lc4 (own := [("width", 0), ("signs", 1), ("overflow", 2), ("division", 3)]) (v1 := [1, 2, 3]) (v2 := [2, 3]) (v3 := [3]) (by rfl) sc_all_formats.nd (pi_list (pe_own0 c_all_widths (hr.mono (by decide)) rfl pass0)) (blkOk_by (own := [("width", 0), ("signs", 1), ("overflow", 2), ("division", 3)]) (N := N_all_formats) (sc := defScope s_all_formats) (by decide +kernel)) (by decide) (by decide) (by decide) (fun _ _ _ _ _ => pg_name (i := 0) sc_all_formats.nd rfl (Or.inl rfl)) (fun _ _ _ _ _ => (by refine pi_tup ?_; exact pe_glob (v := .ref _) rfl T.g_SIGNS rfl : PI _ _ _ (iTup K (tC (.ref (He.ga K "SIGNS")))))) (fun _ _ _ _ _ => pg_name (i := 1) sc_all_formats.nd rfl (Or.inl rfl)) (fun _ _ _ _ _ => (by refine pi_tup ?_; exact pe_glob (v := .ref _) rfl T.g_OVERFLOWS rfl : PI _ _ _ (iTup K (tC (.ref (He.ga K "OVERFLOWS")))))) (fun _ _ _ _ _ => pg_name (i := 2) sc_all_formats.nd rfl (Or.inl rfl)) (fun _ _ _ _ _ => (by refine pi_tup ?_; exact pe_glob (v := .ref _) rfl T.g_DIVISIONS rfl : PI _ _ _ (iTup K (tC (.ref (He.ga K "DIVISIONS")))))) (fun _ _ _ _ _ => pg_name (i := 3) sc_all_formats.nd rfl (Or.inl rfl)) (fun _ _ _ _ _ => pe_tup (pa_cons (pv 0) (pa_cons (pv 1) (pa_cons (pv 2) (pa_cons (pv 3) pa_nil)))))))), ?_⟩
  refine ⟨rgV 4 65, ⟨rfl, rfl⟩, fun a H1 ha e1 hx => ⟨a, rfl, ⟨rgV 4 65, sq_of hx⟩, fun Z hZ => ?_⟩⟩
  have nZ : H Z = none := fresh_back e1 hZ
  have g0 : GotF K H Z [] (upd H1 Z (.lst [])) := ⟨nZ, e1.trans (Ex.new hZ), [], upd_same, .nil⟩
  have sx : SqL K (upd H1 Z (.lst [])) a (rgV 4 65) := ex_l (Ex.new hZ) (sq_of hx)
  refine WNc.over_list (K := K) (a := a) (xs := rgV 4 65) (fun i G => GotF K H Z ((List.range i).flatMap f0) G ∧ SqL K G a (rgV 4 65)) ⟨g0, sx⟩ (fun i G p => p.2) (fun i x G hi p => ?_) (fun G p => ?_)
  · obtain ⟨rfl, hlt⟩ := rg_at hi
    refine ⟨rfl, ?_⟩
    change WNc.tIn _ _ _ _ _ _
    refine WNc.in_all (as := allSg) (enc := fun sg => .str (sgS sg)) (gx := f1 i) (Got := fun l G => GotF K H Z l G ∧ SqL K G a (rgV 4 65)) (pre := (List.range i).flatMap f0) T.t_SIGNS p (fun x => rfl) (fun n1 sg h1 G1 N1 p1 q1 => ?_) (fun G1 p1 => ?_) (fun l G1 G2 h e => ⟨h.1.keep e, ex_l e h.2⟩)
    · refine WNc.in_all (as := allOv) (enc := fun ov => .str (ovS ov)) (gx := f2 i sg) (Got := fun l G => GotF K H Z l G ∧ SqL K G a (rgV 4 65)) T.t_OVERFLOWS p1 (fun x => rfl) (fun n2 ov h2 G2 N2 p2 q2 => ?_) q1 (fun l G1 G2 h e => ⟨h.1.keep e, ex_l e h.2⟩)
      refine WNc.in_all (as := allDv) (enc := fun dv => .str (dvS dv)) (gx := f3 i sg ov) (Got := fun l G => GotF K H Z l G ∧ SqL K G a (rgV 4 65)) T.t_DIVISIONS p2 (fun x => rfl) (fun n3 dv h3 G3 N3 p3 q3 => ?_) q2 (fun l G1 G2 h e => ⟨h.1.keep e, ex_l e h.2⟩)
      refine ⟨_, rfl, _, rfl, _, rfl, _, rfl, sz_of (n := 4) (by decide), fun pt hp => ?_⟩
      obtain ⟨ps, hps, hlen, g4⟩ := (p3.1.keep (Ex.new (o := .tup [widV i, .str (sgS sg), .str (ovS ov), .str (dvS dv)]) hp)).add (p := pt) (f := fmW sg ov dv i) (st_of (by rw [fm_val hlt]; exact upd_same))
      refine ⟨ps, hps, ?_, q3 _ ⟨g4, ?_⟩⟩
      · have b1 := take_len allSg n1 (f1 i)
        have b2 := take_len allOv n2 (f2 i sg)
        have b3 := take_len allDv n3 (f3 i sg ov)
        have c1 : (allSg.flatMap (f1 i)).length = 45 := rfl
        have c2 : (allOv.flatMap (f2 i sg)).length = 15 := rfl
        have c3 : (allDv.flatMap (f3 i sg ov)).length = 5 := rfl
        rw [hlen, List.length_append, List.length_append, List.length_append, len_f0]
        exact sz_lt (by omega)
      · exact sqL_updL hps (ex_l (Ex.new hp) p3.2) (fun z => by rw [z, hZ] at hx; cases hx)
    · refine ⟨?_, p1.2⟩
      rw [List.range_succ, List.flatMap_append]
      exact p1.1
  · rw [show (rgV 4 65).length = 61 by rw [rgV_length]; rfl] at p
    exact k Z G p.1
end
end KC

set_option maxHeartbeats 4000000
namespace KC
open PySem PySem.Spec PyProof.Rows L2 Evl WM WL WLam WX WT WU StX LamX
local macro_rules | `(tactic| walk_at "ev") => `(tactic| first
  | exact ev_c
  | exact ev_var rfl
  | ((with_reducible apply ev_op); (walk_at "ev"); (walk_at "ev"); (walk_at "rv"))
  | ((with_reducible apply ev_un); (walk_at "ev"); exact ru_neg)
  | ((with_reducible apply ev_notV); (walk_at "ev"))
  | ((with_reducible apply ev_andV); (walk_at "ev"); (intro _; walk_at "ev"))
  | ((with_reducible apply ev_orV); (walk_at "ev"); (intro _; walk_at "ev"))
  | ((with_reducible apply ev_ifT); (walk_at "et"); (exact rfl); (walk_at "ev"))
  | ((with_reducible apply ev_ifF); (walk_at "et"); (exact rfl); (walk_at "ev"))
  | ((with_reducible apply ev_ifB); (walk_at "et"); (intro _; walk_at "ev"); (intro _; walk_at "ev"))
  | ((with_reducible apply ev_chainI); (walk_at "ev"); (walk_at "ev"); (walk_at "ev"))
  | ((with_reducible apply ev_own); (walk_at "ea"); (intro _ _; walk_at "own"))
  | ((with_reducible apply ev_ddS); (walk_at "dp"); (exact Nat.le_of_ble_eq_true rfl); (walk_at "ev"); (exact rfl))
  | ((with_reducible apply ev_isiT); (walk_at "ev"); (walk_at "ea"); (walk_at "isiT"))
  | ((with_reducible apply ev_cb); (walk_at "ea"); (walk_at "rc")))
local macro_rules | `(tactic| walk_at "dp") => `(tactic| first
  | exact Paired.nil
  | ((with_reducible apply dp_cons); (exact ev_c); (walk_at "ev"); (walk_at "dp")))
local macro_rules | `(tactic| walk_at "ea") => `(tactic| first
  | exact ea_nil
  | ((with_reducible apply ea_cons); (walk_at "ev"); (walk_at "ea")))
local macro_rules | `(tactic| walk_at "et") => `(tactic| first
  | ((with_reducible apply et_test); (walk_at "ev"))
  | ((with_reducible apply et_B); (walk_at "ev"))
  | ((with_reducible apply et_not); (walk_at "et"))
  | ((with_reducible apply et_and); (walk_at "et"); (intro _; walk_at "et"))
  | ((with_reducible apply et_or); (walk_at "et"); (intro _; walk_at "et")))
local macro_rules | `(tactic| walk_at "rv") => `(tactic| first
  | exact rv_I0
  | exact rv_eq rfl
  | exact rv_ne rfl
  | exact rv_isT (by assumption) rfl rfl
  | exact rv_niT (by assumption) rfl rfl
  | exact rv_isL (by assumption) rfl rfl
  | exact rv_niL (by assumption) rfl rfl
  | exact rv_ixT (by assumption) rfl
  | exact rv_ixL (by assumption) rfl
  | exact rv_ixL (by assumption) (by assumption)
  | (apply rv_I; (walk_at "side")))
local macro_rules | `(tactic| walk_at "side") => `(tactic| first
  | assumption
  | (refine And.intro ?_ (And.intro ?_ ?_) <;> (try dsimp only) <;> first | omega | decide)
  | (dsimp only; omega)
  | omega)
local macro_rules | `(tactic| walk_at "rc") => `(tactic| first
  | exact rc_abs | exact rc_max2 | exact rc_min2 | exact rc_int | exact rc_intB
  | exact rc_isi_int (b := true) (by decide +kernel)
  | exact rc_isi_int (b := false) (by decide +kernel)
  | exact rc_isi_bl (b := true) (by decide +kernel)
  | exact rc_isi_bl (b := false) (by decide +kernel)
  | exact rc_isi_str (b := true) (by decide +kernel)
  | exact rc_isi_str (b := false) (by decide +kernel)
  | exact rc_isi_T (b := true) (by assumption) (by decide +kernel)
  | exact rc_isi_T (b := false) (by assumption) (by decide +kernel)
  | exact rc_lenT (by assumption)
  | exact rc_lenL (by assumption))
local macro_rules | `(tactic| walk_at "set") => `(tactic| ((with_reducible apply bl_set); (walk_at "ev")))
local macro_rules | `(tactic| walk_at "drop") => `(tactic| ((with_reducible apply bl_drop); (walk_at "ev")))
local macro_rules | `(tactic| walk_at "par") => `(tactic| ((with_reducible apply bl_par); (walk_at "ea")))
local macro_rules | `(tactic| walk_at "if") => `(tactic| ((with_reducible apply bl_when); (walk_at "et")))
local macro_rules | `(tactic| walk_at "no") => `(tactic| ((with_reducible apply bl_when); (walk_at "et"); (intro h; exact absurd (show false = true from h) (by decide)); (intro _)))
local macro_rules | `(tactic| walk_at "yes") => `(tactic| ((with_reducible apply bl_when); (walk_at "et"); rotate_left; (intro h; exact absurd (show true = false from h) (by decide)); (intro _)))
local macro_rules | `(tactic| walk_at "ret") => `(tactic| ((with_reducible apply bl_retE); rotate_left; assumption; rotate_right; (walk_at "ev")))
local macro_rules | `(tactic| walk_at "absurd") => `(tactic| first | exact absurd (show false = true from (by assumption)) (by decide) | exact absurd (show true = false from (by assumption)) (by decide))
local macro_rules | `(tactic| walk_at "rv") => `(tactic| first | exact rv_isN (s := []) | exact rv_notKD (by assumption) | exact rv_inKD (by assumption) | exact rv_ixKD (by assumption))
local macro_rules | `(tactic| walk_at "isiT") => `(tactic| ((exact Nat.le_of_ble_eq_true rfl); (exact .cons (.ty _) (.cons (.ty _) .nil)); (first | exact fun _ _ => .base (.int _) | exact fun _ _ => .base (.bl _) | exact fun _ _ => .base (.str _) | exact fun _ _ => .base .non); (exact kitAny_no (by decide +kernel) (by decide +kernel))))
local macro_rules | `(tactic| walk_at "rc") => `(tactic| first | exact rc_isi_non (b := true) (by decide +kernel) | exact rc_isi_non (b := false) (by decide +kernel))
local macro_rules | `(tactic| walk_at "eu") => `(tactic| first
  | ((with_reducible apply eu_own); (walk_at "ea"); (intro _ _; walk_at "own"))
  | ((with_reducible apply eu_tup); (walk_at "ea"); (exact Nat.le_of_ble_eq_true rfl)))
local macro_rules | `(tactic| walk_at "ev") => `(tactic| ((with_reducible apply ev_own1U); (walk_at "eu"); (walk_at "ea"); (intro _ _ _ _; walk_at "own1")))
local macro_rules | `(tactic| walk_at "isr") => `(tactic| first | with_reducible exact isr_r | with_reducible exact isr_i | ((with_reducible apply isr_if) <;> (walk_at "isr")))
local macro_rules | `(tactic| walk_at "osm") => `(tactic| first | with_reducible assumption | with_reducible exact osm_add | with_reducible exact osm_sub | with_reducible exact osm_mul | with_reducible exact osm_dvo | with_reducible exact osm_neg | with_reducible exact osm_rem | with_reducible exact osm_do | with_reducible exact osm_div | with_reducible exact osm_fit | ((with_reducible apply osm); assumption) | ((with_reducible apply osm); exact (show (0 : Int).natAbs < 2 ^ 70 by decide)) | ((with_reducible apply osm); exact (show (2 : Int).natAbs < 2 ^ 70 by decide)) | ((with_reducible apply osm_if) <;> (walk_at "osm")))
local macro_rules | `(tactic| walk_at "ev") => `(tactic| first
  | ((with_reducible apply ev_inLst); (walk_at "ev"); (walk_at "ea"); (exact Nat.le_of_ble_eq_true rfl); (exact rfl); (first | exact rfl | simp [flatV])))
local macro_rules | `(tactic| walk_at "rv") => `(tactic| first | exact rv_eq scal_rv | exact rv_ne scal_rv | exact rv_eq (scal_rv (y := some _)) | exact rv_ne (scal_rv (y := some _)) | exact rv_eq (scal_rv (y := none)) | exact rv_ne (scal_rv (y := none)))
local macro_rules | `(tactic| walk_at "nz") => `(tactic| first | with_reducible assumption | ((with_reducible apply nz_i); (first | assumption | decide)))
local macro_rules | `(tactic| walk_at "ev") => `(tactic| ((with_reducible apply ev_inU); (walk_at "ev"); (walk_at "eu"); (exact rfl); (exact rfl)))
section
variable {P : Program} {w : World} {K : PySem.W.Frag} {mg : Str → Option Value} {base : Heap}
local macro_rules | `(tactic| walk_at "own") => `(tactic| first
  | exact r_is_whole (by first | assumption | exact .int _ | exact Wh.ex (by assumption) (by assumption))
  | exact r_are_choices 
  | exact r_is_format (ex_t (by assumption) (by assumption))
  | exact r_check_format (ex_t (by assumption) (by assumption))
  | exact r_is_rule 
  | exact r_check_rule 
  | exact r_rules
  | exact r__check_exponent (by assumption) (by assumption)
  | exact r__passes_lucas_lehmer (by assumption) (by assumption) (by assumption)
  | exact r_is_mersenne (by assumption) (by assumption)
  | exact r__sum_grouping 
  | exact r__product_grouping 
  | exact r__distribution 
  | exact r__negatives 
  | exact r__add_back 
  | exact r__division 
  | exact r__remainder_range 
  | exact r__negated_quotient 
  | exact r__shift 
  | exact r__absolute_value 
  | exact r__order_by_difference 
  | exact r__monotone_sum 
  | exact r__average 
  | exact r__square 
  | exact r__zero_product 
  | exact r__cancellation 
  | exact r_meets_condition (ex_t (by assumption) (by assumption))
  | exact r_profile (ex_t (by assumption) (by assumption)))
abbrev s_parting : Stmt := top 52
abbrev N_parting : List Str := ["one", "other", "form"]
theorem sc_parting : FnScope N_parting ["one", "other"] (defScope s_parting) := ⟨rfl, rfl, rfl, by decide +kernel, rfl, by decide +kernel, by decide +kernel⟩
theorem paired_l {α β : Type} {F : α → β → Prop} : ∀ {as : List α} {bs : List β} {j : Nat} {a : α}, Paired F as bs → as[j]? = some a → ∃ b, bs[j]? = some b ∧ F a b
  | _, _, _, _, .nil, h => by cases h
  | _, _, 0, _, .cons z r, h => by
    cases h
    exact ⟨_, rfl, z⟩
  | _, _, j + 1, _, .cons z r, h => by
    obtain ⟨x, h1, h2⟩ := paired_l r (j := j) h
    exact ⟨x, h1, h2⟩
theorem find_at {α : Type} {t : α → Bool} : ∀ {l : List α} {i : Nat} {a : α}, (∀ j b, j < i → l[j]? = some b → t b = false) → l[i]? = some a → t a = true → l.find? t = some a
  | [], _, _, _, h, _ => by cases h
  | x :: l, 0, a, _, h, ha => by
    cases h
    rw [List.find?_cons, ha]
  | x :: l, i + 1, a, n, h, ha => by
    rw [List.find?_cons, n 0 x (Nat.succ_pos i) rfl]
    exact find_at (fun j b lt e => n (j + 1) b (Nat.succ_lt_succ lt) e) h ha
/-- the first format in which r holds and q does not -/
def firstP (r q : Rl) : Option Fmt := allF.find? fun f => holdsB f r && !holdsB f q
def SpPart (K : PySem.W.Frag) : Sp := fun vs H Q _ => ∃ r q : Rl, vs = [.str (rlS r), .str (rlS q)] ∧ (∀ f, firstP r q = some f → ∀ p H', Ex H H' → SqT K H' p (fV f) → Q (.ref p) H') ∧ (firstP r q = none → ∀ H', Ex H H' → Q .non H')
theorem ok_parting (T : Txt w K mg) (D0 : DefAt K mg "parting" s_parting) (c_check_rule : Cal P w K mg base CX0 2 "check_rule" ["rule"] (Pu (R_check_rule K))) (c_all_formats : Cal P w K mg base CX0 2 "all_formats" [] (SpForms K)) (c_meets_condition : Cal P w K mg base CX0 5 "meets_condition" ["form", "rule"] (Pu (R_meets_condition K))) : Cal P w K mg base CX0 6 "parting" ["one", "other"] (SpPart K) := by
  refine D0.cal sc_parting (fun vs H Q E h => by obtain ⟨r, q, rfl, _⟩ := h; rfl) (fun _ _ _ _ _ _ us hl => match us, hl with | [_, _], _ => rfl) (fun f cdv A outer s H vs Q E hr h => ?_)
  obtain ⟨r, q, rfl, k1, k0⟩ := h
  have hu := hu_of hr
  refine ⟨_, (pss_cons (ps_expr (pe_own c_check_rule (hr.mono (by decide)) rfl pass0 (pa_cons (pv 0) pa_nil)))
      (pss_cons (ps_expr (pe_own c_check_rule (hr.mono (by decide)) rfl pass0 (pa_cons (pv 1) pa_nil)))
      (pss_cons (ps_for PassesOwn.never (by rfl) (pi_list (pe_own0 c_all_formats (hr.mono (by decide)) rfl pass0)) (pg_name (i := 2) sc_parting.nd rfl (Or.inl rfl)) (pss_one (ps_if (PW.pt (pw_and (pt_val (pe_own c_meets_condition (hr.mono (by decide)) rfl pass0 (pa_cons (pv 2) (pa_cons (pv 0) pa_nil)))) (pw_and1 (pt_not (pt_val (pe_own c_meets_condition (hr.mono (by decide)) rfl pass0 (pa_cons (pv 2) (pa_cons (pv 1) pa_nil)))))))) (pss_one (ps_ret (pv 2))) pss_nil)))
      (pss_one (ps_ret pe_non))))), bl_go ?_⟩
  walk_at "drop"
  walk_at "drop"
  intro H0 e0
  refine ⟨rfl, fun l G g => ?_⟩
  obtain ⟨no, ex, ps, h1, h2⟩ := g
  refine ⟨l, rfl, ⟨ps, sq_of h1⟩, for_list (xs := ps) (fun i s' H' => (∃ u, s' = ([some (.str (rlS r)), some (.str (rlS q)), u] : L2.St)) ∧ Ex G H' ∧ ∀ j f, j < i → allF[j]? = some f → (holdsB f r && !holdsB f q) = false) ⟨⟨_, rfl⟩, Ex.refl G, fun j _ lt => absurd lt (Nat.not_lt_zero j)⟩ (fun i s' H' _ p => sq_of (p.2.1 _ _ h1)) (fun i x s' H' hi p => ?_) (fun s' H' p => ?_)⟩
  · obtain ⟨⟨u, rfl⟩, e1, nos⟩ := p
    obtain ⟨f, hf, pf, rfl, hpf⟩ := paired_l h2 hi
    have hp1 := ex_t e1 hpf
    have a1 : Ev (tVar 2) ([some (.str (rlS r)), some (.str (rlS q)), some (.ref pf)] : L2.St) H' (.ref pf) := ev_var rfl
    change tIfS _ _ _ _ ([some (.str (rlS r)), some (.str (rlS q)), some (.ref pf)] : L2.St) H'
    refine bl_go (bl_ifLast (b := holdsB f r && !holdsB f q) (et_and (a := holdsB f r) (b := !holdsB f q) (et_B (ev_own (by walk_at "ea") (fun _ e => r_meets_condition (ex_t e hp1)))) (fun _ => et_not (et_B (ev_own (by walk_at "ea") (fun _ e => r_meets_condition (ex_t e hp1)))))) (fun hb H2 e2 => ?_) (fun hb H2 e2 => ?_))
    · exact ⟨_, rfl, k1 f (find_at nos hf hb) pf H2 (e0.trans (ex.trans (e1.trans e2))) (ex_t e2 hp1)⟩
    · refine ⟨⟨_, rfl⟩, e1.trans e2, fun j b lt e => ?_⟩
      by_cases z : j = i
      · rw [z, hf] at e
        cases e
        exact hb
      · exact nos j b (by omega) e
  · obtain ⟨⟨u, rfl⟩, e1, nos⟩ := p
    refine k0 ?_ H' (e0.trans (ex.trans e1))
    have len := WY.paired_len h2
    refine List.find?_eq_none.mpr fun f hf => ?_
    obtain ⟨j, hj⟩ := List.getElem?_of_mem hf
    have lt := (List.getElem?_eq_some_iff.mp hj).1
    rw [nos j f (by omega) hj]
    exact Bool.false_ne_true
def R_implies (K : PySem.W.Frag) : List V → Hp → V → Prop := fun vs H v => ∃ (r : Rl) (q : Rl), vs = [.str (rlS r), .str (rlS q)] ∧ v = .bl (firstP r q).isNone
theorem r_implies {K : PySem.W.Frag} {H : Hp} {r : Rl} {q : Rl}  : R_implies K [.str (rlS r), .str (rlS q)] H (.bl (firstP r q).isNone) := ⟨_, _, rfl, rfl⟩
abbrev s_implies : Stmt := top 51
abbrev N_implies : List Str := ["one", "other"]
theorem sc_implies : FnScope N_implies ["one", "other"] (defScope s_implies) := ⟨rfl, rfl, rfl, by decide +kernel, rfl, by decide +kernel, by decide +kernel⟩
theorem ok_implies (T : Txt w K mg) (D0 : DefAt K mg "implies" s_implies) (c_parting : Cal P w K mg base CX0 6 "parting" ["one", "other"] (SpPart K)) : Cal P w K mg base CX0 7 "implies" ["one", "other"] (Pu (R_implies K)) := by
  refine D0.cal sc_implies (fun vs H Q E h => by obtain ⟨v, ⟨r, q, rfl, _⟩, _⟩ := h; rfl) (fun _ _ _ _ _ _ us hl => match us, hl with | [_, _], _ => rfl) (fun f cdv A outer s H vs Q E hr h => ?_)
  obtain ⟨v, ⟨r, q, rfl, rfl⟩, k⟩ := h
  have hu := hu_of hr
  refine ⟨_, (pss_one (ps_ret (pe_cmpR op_isN (pe_own c_parting (hr.mono (by decide)) rfl pass0 (pa_cons (pv 0) (pa_cons (pv 1) pa_nil))) pe_non (nomark _)))), ?_⟩
  refine ⟨_, rfl, _, rfl, r, q, rfl, fun f hf p H' e hp => ?_, fun hn H' e => ?_⟩
  · refine ⟨rfl, ?_⟩
    have z := k H' e
    rw [hf] at z
    exact z
  · refine ⟨rfl, ?_⟩
    have z := k H' e
    rw [hn] at z
    exact z
end
end KC

set_option maxHeartbeats 4000000
namespace KC
open PySem PySem.Spec PyProof.Rows L2 Evl WM WL WLam WX WT WU StX LamX
local macro_rules | `(tactic| walk_at "ev") => `(tactic| first
  | exact ev_c
  | exact ev_var rfl
  | ((with_reducible apply ev_op); (walk_at "ev"); (walk_at "ev"); (walk_at "rv"))
  | ((with_reducible apply ev_un); (walk_at "ev"); exact ru_neg)
  | ((with_reducible apply ev_notV); (walk_at "ev"))
  | ((with_reducible apply ev_andV); (walk_at "ev"); (intro _; walk_at "ev"))
  | ((with_reducible apply ev_orV); (walk_at "ev"); (intro _; walk_at "ev"))
  | ((with_reducible apply ev_ifT); (walk_at "et"); (exact rfl); (walk_at "ev"))
  | ((with_reducible apply ev_ifF); (walk_at "et"); (exact rfl); (walk_at "ev"))
  | ((with_reducible apply ev_ifB); (walk_at "et"); (intro _; walk_at "ev"); (intro _; walk_at "ev"))
  | ((with_reducible apply ev_chainI); (walk_at "ev"); (walk_at "ev"); (walk_at "ev"))
  | ((with_reducible apply ev_own); (walk_at "ea"); (intro _ _; walk_at "own"))
  | ((with_reducible apply ev_ddS); (walk_at "dp"); (exact Nat.le_of_ble_eq_true rfl); (walk_at "ev"); (exact rfl))
  | ((with_reducible apply ev_isiT); (walk_at "ev"); (walk_at "ea"); (walk_at "isiT"))
  | ((with_reducible apply ev_cb); (walk_at "ea"); (walk_at "rc")))
local macro_rules | `(tactic| walk_at "dp") => `(tactic| first
  | exact Paired.nil
  | ((with_reducible apply dp_cons); (exact ev_c); (walk_at "ev"); (walk_at "dp")))
local macro_rules | `(tactic| walk_at "ea") => `(tactic| first
  | exact ea_nil
  | ((with_reducible apply ea_cons); (walk_at "ev"); (walk_at "ea")))
local macro_rules | `(tactic| walk_at "et") => `(tactic| first
  | ((with_reducible apply et_test); (walk_at "ev"))
  | ((with_reducible apply et_B); (walk_at "ev"))
  | ((with_reducible apply et_not); (walk_at "et"))
  | ((with_reducible apply et_and); (walk_at "et"); (intro _; walk_at "et"))
  | ((with_reducible apply et_or); (walk_at "et"); (intro _; walk_at "et")))
local macro_rules | `(tactic| walk_at "rv") => `(tactic| first
  | exact rv_I0
  | exact rv_eq rfl
  | exact rv_ne rfl
  | exact rv_isT (by assumption) rfl rfl
  | exact rv_niT (by assumption) rfl rfl
  | exact rv_isL (by assumption) rfl rfl
  | exact rv_niL (by assumption) rfl rfl
  | exact rv_ixT (by assumption) rfl
  | exact rv_ixL (by assumption) rfl
  | exact rv_ixL (by assumption) (by assumption)
  | (apply rv_I; (walk_at "side")))
local macro_rules | `(tactic| walk_at "side") => `(tactic| first
  | assumption
  | (refine And.intro ?_ (And.intro ?_ ?_) <;> (try dsimp only) <;> first | omega | decide)
  | (dsimp only; omega)
  | omega)
local macro_rules | `(tactic| walk_at "rc") => `(tactic| first
  | exact rc_abs | exact rc_max2 | exact rc_min2 | exact rc_int | exact rc_intB
  | exact rc_isi_int (b := true) (by decide +kernel)
  | exact rc_isi_int (b := false) (by decide +kernel)
  | exact rc_isi_bl (b := true) (by decide +kernel)
  | exact rc_isi_bl (b := false) (by decide +kernel)
  | exact rc_isi_str (b := true) (by decide +kernel)
  | exact rc_isi_str (b := false) (by decide +kernel)
  | exact rc_isi_T (b := true) (by assumption) (by decide +kernel)
  | exact rc_isi_T (b := false) (by assumption) (by decide +kernel)
  | exact rc_lenT (by assumption)
  | exact rc_lenL (by assumption))
local macro_rules | `(tactic| walk_at "set") => `(tactic| ((with_reducible apply bl_set); (walk_at "ev")))
local macro_rules | `(tactic| walk_at "drop") => `(tactic| ((with_reducible apply bl_drop); (walk_at "ev")))
local macro_rules | `(tactic| walk_at "par") => `(tactic| ((with_reducible apply bl_par); (walk_at "ea")))
local macro_rules | `(tactic| walk_at "if") => `(tactic| ((with_reducible apply bl_when); (walk_at "et")))
local macro_rules | `(tactic| walk_at "no") => `(tactic| ((with_reducible apply bl_when); (walk_at "et"); (intro h; exact absurd (show false = true from h) (by decide)); (intro _)))
local macro_rules | `(tactic| walk_at "yes") => `(tactic| ((with_reducible apply bl_when); (walk_at "et"); rotate_left; (intro h; exact absurd (show true = false from h) (by decide)); (intro _)))
local macro_rules | `(tactic| walk_at "ret") => `(tactic| ((with_reducible apply bl_retE); rotate_left; assumption; rotate_right; (walk_at "ev")))
local macro_rules | `(tactic| walk_at "absurd") => `(tactic| first | exact absurd (show false = true from (by assumption)) (by decide) | exact absurd (show true = false from (by assumption)) (by decide))
local macro_rules | `(tactic| walk_at "rv") => `(tactic| first | exact rv_isN (s := []) | exact rv_notKD (by assumption) | exact rv_inKD (by assumption) | exact rv_ixKD (by assumption))
local macro_rules | `(tactic| walk_at "isiT") => `(tactic| ((exact Nat.le_of_ble_eq_true rfl); (exact .cons (.ty _) (.cons (.ty _) .nil)); (first | exact fun _ _ => .base (.int _) | exact fun _ _ => .base (.bl _) | exact fun _ _ => .base (.str _) | exact fun _ _ => .base .non); (exact kitAny_no (by decide +kernel) (by decide +kernel))))
local macro_rules | `(tactic| walk_at "rc") => `(tactic| first | exact rc_isi_non (b := true) (by decide +kernel) | exact rc_isi_non (b := false) (by decide +kernel))
local macro_rules | `(tactic| walk_at "eu") => `(tactic| first
  | ((with_reducible apply eu_own); (walk_at "ea"); (intro _ _; walk_at "own"))
  | ((with_reducible apply eu_tup); (walk_at "ea"); (exact Nat.le_of_ble_eq_true rfl)))
local macro_rules | `(tactic| walk_at "ev") => `(tactic| ((with_reducible apply ev_own1U); (walk_at "eu"); (walk_at "ea"); (intro _ _ _ _; walk_at "own1")))
local macro_rules | `(tactic| walk_at "isr") => `(tactic| first | with_reducible exact isr_r | with_reducible exact isr_i | ((with_reducible apply isr_if) <;> (walk_at "isr")))
local macro_rules | `(tactic| walk_at "osm") => `(tactic| first | with_reducible assumption | with_reducible exact osm_add | with_reducible exact osm_sub | with_reducible exact osm_mul | with_reducible exact osm_dvo | with_reducible exact osm_neg | with_reducible exact osm_rem | with_reducible exact osm_do | with_reducible exact osm_div | with_reducible exact osm_fit | ((with_reducible apply osm); assumption) | ((with_reducible apply osm); exact (show (0 : Int).natAbs < 2 ^ 70 by decide)) | ((with_reducible apply osm); exact (show (2 : Int).natAbs < 2 ^ 70 by decide)) | ((with_reducible apply osm_if) <;> (walk_at "osm")))
local macro_rules | `(tactic| walk_at "ev") => `(tactic| first
  | ((with_reducible apply ev_inLst); (walk_at "ev"); (walk_at "ea"); (exact Nat.le_of_ble_eq_true rfl); (exact rfl); (first | exact rfl | simp [flatV])))
local macro_rules | `(tactic| walk_at "rv") => `(tactic| first | exact rv_eq scal_rv | exact rv_ne scal_rv | exact rv_eq (scal_rv (y := some _)) | exact rv_ne (scal_rv (y := some _)) | exact rv_eq (scal_rv (y := none)) | exact rv_ne (scal_rv (y := none)))
local macro_rules | `(tactic| walk_at "nz") => `(tactic| first | with_reducible assumption | ((with_reducible apply nz_i); (first | assumption | decide)))
local macro_rules | `(tactic| walk_at "ev") => `(tactic| ((with_reducible apply ev_inU); (walk_at "ev"); (walk_at "eu"); (exact rfl); (exact rfl)))
section
variable {P : Program} {w : World} {K : PySem.W.Frag} {mg : Str → Option Value} {base : Heap}
local macro_rules | `(tactic| walk_at "own") => `(tactic| first
  | exact r_is_whole (by first | assumption | exact .int _ | exact Wh.ex (by assumption) (by assumption))
  | exact r_are_choices 
  | exact r_is_format (ex_t (by assumption) (by assumption))
  | exact r_check_format (ex_t (by assumption) (by assumption))
  | exact r_is_rule 
  | exact r_check_rule 
  | exact r_rules
  | exact r__check_exponent (by assumption) (by assumption)
  | exact r__passes_lucas_lehmer (by assumption) (by assumption) (by assumption)
  | exact r_is_mersenne (by assumption) (by assumption)
  | exact r__sum_grouping 
  | exact r__product_grouping 
  | exact r__distribution 
  | exact r__negatives 
  | exact r__add_back 
  | exact r__division 
  | exact r__remainder_range 
  | exact r__negated_quotient 
  | exact r__shift 
  | exact r__absolute_value 
  | exact r__order_by_difference 
  | exact r__monotone_sum 
  | exact r__average 
  | exact r__square 
  | exact r__zero_product 
  | exact r__cancellation 
  | exact r_meets_condition (ex_t (by assumption) (by assumption))
  | exact r_profile (ex_t (by assumption) (by assumption))
  | exact r_implies )
abbrev s_profiles : Stmt := top 50
abbrev N_profiles : List Str := ["form"]
theorem sc_profiles : FnScope N_profiles [] (defScope s_profiles) := ⟨rfl, rfl, rfl, by decide +kernel, rfl, by decide +kernel, by decide +kernel⟩
def keysR (f : Fmt) : List Rl := allRl.filter fun r => holdsB f r
def keyF (f : Fmt) : List Str := (keysR f).map rlS
theorem profV_key (f : Fmt) : WJ.profV f = (keyF f).map V.str := by
  unfold WJ.profV keyF keysR
  rw [List.map_map]
  rfl
theorem holds_rep (f : Fmt) (r : Rl) : holdsB f r = holdsB (fmW f.sg f.ov f.dv (if WP.mers f.w = true then 1 else 0)) r := by
  have m5 : WP.mers (4 + 1 % 61) = true := by decide
  have m4 : WP.mers (4 + 0 % 61) = false := by decide
  cases r <;> first
    | rfl
    | (show (_ || _ || (_ && _)) = (_ || _ || (_ && WP.mers (4 + (if WP.mers f.w = true then 1 else 0) % 61)))
       cases h : WP.mers f.w
       · rw [if_neg Bool.false_ne_true, m4]; rfl
       · rw [if_pos rfl, m5]; rfl)
    | (show (_ && _ && _) = (_ && _ && WP.mers (4 + (if WP.mers f.w = true then 1 else 0) % 61))
       cases h : WP.mers f.w
       · rw [if_neg Bool.false_ne_true, m4]; rfl
       · rw [if_pos rfl, m5]; rfl)
def all90 : List (List Rl) := allSg.flatMap fun sg => allOv.flatMap fun ov => allDv.flatMap fun dv => [keysR (fmW sg ov dv 0), keysR (fmW sg ov dv 1)]
/-- the different ones -/
def profR : List (List Rl) := all90.foldl (fun l x => if x ∈ l then l else l ++ [x]) []
theorem prof_len : profR.length = 34 := by decide +kernel
theorem prof_nd : profR.Nodup := by decide +kernel
theorem prof_all : ∀ k ∈ all90, k ∈ profR := by decide +kernel
theorem prof_is : ∀ k ∈ profR, k ∈ all90 := by decide +kernel
theorem prof_ne : ∀ k ∈ profR, k ≠ [] := by decide +kernel
theorem keys_in (f : Fmt) : keysR f ∈ profR := by
  refine prof_all _ ?_
  have e : keysR f = keysR (fmW f.sg f.ov f.dv (if WP.mers f.w = true then 1 else 0)) := by
    unfold keysR
    exact congrArg (fun p => List.filter p allRl) (funext fun r => holds_rep f r)
  rw [e]
  obtain ⟨w0, sg, ov, dv, h4, h64⟩ := f
  refine List.mem_flatMap.mpr ⟨sg, by cases sg <;> decide, List.mem_flatMap.mpr ⟨ov, by cases ov <;> decide, List.mem_flatMap.mpr ⟨dv, by cases dv <;> decide, ?_⟩⟩⟩
  dsimp only
  split
  · exact List.mem_cons_of_mem _ List.mem_cons_self
  · exact List.mem_cons_self
theorem mem_allF (sg : Sg) (ov : Ov) (dv : Dv) {i : Nat} (hi : i < 61) : fmW sg ov dv i ∈ allF :=
  List.mem_flatMap.mpr ⟨i, List.mem_range.mpr hi, List.mem_flatMap.mpr ⟨sg, by cases sg <;> decide, List.mem_flatMap.mpr ⟨ov, by cases ov <;> decide, List.mem_flatMap.mpr ⟨dv, by cases dv <;> decide, List.mem_singleton.mpr rfl⟩⟩⟩⟩
theorem rlsL_inj : ∀ {a b : List Rl}, a.map rlS = b.map rlS → a = b
  | [], [], _ => rfl
  | [], _ :: _, h => by cases h
  | _ :: _, [], h => by cases h
  | x :: a, y :: b, h => by
    rw [List.map_cons, List.map_cons] at h
    injection h with h1 h2
    rw [rls_inj h1, rlsL_inj h2]
def profS : List (List Str) := profR.map fun k => k.map rlS
theorem nd_map {α β : Type} {f : α → β} (inj : ∀ a b, f a = f b → a = b) : ∀ {l : List α}, l.Nodup → (l.map f).Nodup
  | [], _ => List.nodup_nil
  | x :: l, h => by
    obtain ⟨h1, h2⟩ := List.nodup_cons.mp h
    refine List.nodup_cons.mpr ⟨fun z => ?_, nd_map inj h2⟩
    obtain ⟨y, hy, e⟩ := List.mem_map.mp z
    exact h1 (inj _ _ e ▸ hy)
theorem profS_nd : profS.Nodup := nd_map (fun _ _ e => rlsL_inj e) prof_nd
theorem profS_len : profS.length = 34 := by unfold profS; rw [List.length_map]; exact prof_len
theorem key_in (f : Fmt) : keyF f ∈ profS := List.mem_map.mpr ⟨_, keys_in f, rfl⟩
theorem profS_is {k : List Str} : k ∈ profS ↔ k ∈ allF.map keyF := by
  constructor
  · intro h
    obtain ⟨k0, h0, rfl⟩ := List.mem_map.mp h
    obtain ⟨sg, _, h1⟩ := List.mem_flatMap.mp (prof_is k0 h0)
    obtain ⟨ov, _, h2⟩ := List.mem_flatMap.mp h1
    obtain ⟨dv, _, h3⟩ := List.mem_flatMap.mp h2
    rcases List.mem_cons.mp h3 with rfl | h3
    · exact List.mem_map.mpr ⟨_, mem_allF sg ov dv (by decide), rfl⟩
    · rw [List.mem_singleton.mp h3]
      exact List.mem_map.mpr ⟨_, mem_allF sg ov dv (by decide), rfl⟩
  · intro h
    obtain ⟨f, _, rfl⟩ := List.mem_map.mp h
    exact key_in f
theorem profS_ne : ∀ k ∈ profS, k ≠ [] := fun k h => by
  obtain ⟨k0, h0, rfl⟩ := List.mem_map.mp h
  exact fun z => prof_ne k0 h0 (List.map_eq_nil_iff.mp z)
def SpProfs (P : Program) (w : World) (K : PySem.W.Frag) : Sp := fun vs H Q _ => vs = [] ∧ ∀ p G (N : List (Addr × List Str)), Ex H G → G p = some (.tup (N.map fun q => V.ref q.1)) → (∀ q ∈ N, SqT K G q.1 (q.2.map V.str)) → (N.map (·.2)).Nodup → (∀ k, k ∈ N.map (·.2) ↔ k ∈ profS) →
  N.Pairwise (fun q r => WTs.ltK r.2 q.2 = false) → Q (.ref p) G
theorem ok_profiles (T : Txt w K mg) (D0 : DefAt K mg "profiles" s_profiles) (c_all_formats : Cal P w K mg base CX0 2 "all_formats" [] (SpForms K)) (c_profile : Cal P w K mg base CX0 6 "profile" ["form"] (PuT (R_profile K))) : Cal P w K mg base CX0 7 "profiles" [] (SpProfs P w K) := by
  refine D0.cal sc_profiles (fun vs H Q E h => by obtain ⟨rfl, _⟩ := h; rfl) (fun _ _ _ _ _ _ us hl => match us, hl with | [], _ => rfl) (fun f cdv A outer s H vs Q E hr h => ?_)
  obtain ⟨rfl, k⟩ := h
  have hu := hu_of hr
  refine ⟨_, (pss_one (ps_ret (pe_callTy call_tuple_of (by rfl) T.n_tuple (by decide +kernel) (pa_cons (pe_callB (WTs.cr_sortTx (by rfl)) (by rfl) T.n_sorted (by decide +kernel) (pa_cons (WTs.pe_scT (own := [("form", 0)]) (g := gName 0) (by rfl) hr.units sc_profiles.nd (pi_list (pe_own0 c_all_formats (hr.mono (by decide)) rfl pass0)) (blkOk_by (own := [("form", 0)]) (N := N_profiles) (sc := defScope s_profiles) (by decide +kernel)) (fun _ _ _ _ _ => pg_name (i := 0) sc_profiles.nd rfl (Or.inl rfl)) (fun _ _ _ _ _ => pts_nil) (fun _ _ _ _ _ => pe_own c_profile (hr.mono (by decide)) rfl pass0 (pa_cons (pv 0) pa_nil))) pa_nil)) pa_nil)))), ?_⟩
  refine ⟨rfl, fun l G g => ?_⟩
  obtain ⟨no, ex, ps, h1, h2⟩ := g
  refine ⟨l, rfl, ⟨ps, sq_of h1⟩, fun Z hZ => WNc.over_list (K := K) (a := l) (xs := ps) (fun i G' => WTs.GotK P w K G Z ((allF.take i).map keyF) G') (WTs.GotK.start hZ) (fun i G' p => ex_l p.ex (sq_of h1)) (fun i x G' hi p => ?_) (fun G' p => ?_)⟩
  · obtain ⟨f0, hf, pf, rfl, hpf⟩ := paired_l h2 hi
    have hp1 := ex_t p.ex hpf
    refine ⟨rfl, _, rfl, _, r_profile hp1, fun p2 H2 hp2 e2 hx2 => ?_⟩
    refine (p.keep e2).add (k := keyF f0) (D := profS) (st_of (by rw [← profV_key]; exact hx2)) (fun y hy => ?_) (by rw [profS_len]; decide) (fun G2 g2 => ?_)
    · obtain ⟨f1, _, rfl⟩ := List.mem_map.mp hy
      exact key_in f1
    · have e : (allF.take (i + 1)).map keyF = (allF.take i).map keyF ++ [keyF f0] := by
        rw [List.take_add_one, hf, List.map_append]
        rfl
      show WTs.GotK P w K G Z ((allF.take (i + 1)).map keyF) G2
      rw [e]
      exact g2
  · have len := WY.paired_len h2
    rw [len, List.take_length] at p
    obtain ⟨_, ex2, L, hL, tx, nd, mem⟩ := p
    refine ⟨Z, L, rfl, hL, tx, fun q hq => ?_, fun N p pm nd2 pw hp => ?_⟩
    · have m := (mem q.2).mp (List.mem_map.mpr ⟨q, hq, rfl⟩)
      exact profS_ne _ (profS_is.mpr m)
    · refine ⟨p, _, rfl, .inl ⟨sq_of upd_same, fun t ht => ?_⟩⟩
      have e3 : Ex G' (upd (upd G' p (.lst (N.map fun q => V.ref q.1))) t (.tup (N.map fun q => V.ref q.1))) := (Ex.new hp).trans (Ex.new ht)
      exact k t _ N (ex.trans (ex2.trans e3)) upd_same (fun q hq => ex_t e3 (tx q (pm.mem_iff.mp hq))) nd2 (fun y => by rw [(pm.map (·.2)).mem_iff, mem y]; exact profS_is.symm) pw
end
end KC

set_option maxHeartbeats 4000000
namespace KC
open PySem PySem.Spec PyProof.Rows L2 Evl WM WL WLam WX WT WU StX LamX
local macro_rules | `(tactic| walk_at "ev") => `(tactic| first
  | exact ev_c
  | exact ev_var rfl
  | ((with_reducible apply ev_op); (walk_at "ev"); (walk_at "ev"); (walk_at "rv"))
  | ((with_reducible apply ev_un); (walk_at "ev"); exact ru_neg)
  | ((with_reducible apply ev_notV); (walk_at "ev"))
  | ((with_reducible apply ev_andV); (walk_at "ev"); (intro _; walk_at "ev"))
  | ((with_reducible apply ev_orV); (walk_at "ev"); (intro _; walk_at "ev"))
  | ((with_reducible apply ev_ifT); (walk_at "et"); (exact rfl); (walk_at "ev"))
  | ((with_reducible apply ev_ifF); (walk_at "et"); (exact rfl); (walk_at "ev"))
  | ((with_reducible apply ev_ifB); (walk_at "et"); (intro _; walk_at "ev"); (intro _; walk_at "ev"))
  | ((with_reducible apply ev_chainI); (walk_at "ev"); (walk_at "ev"); (walk_at "ev"))
  | ((with_reducible apply ev_own); (walk_at "ea"); (intro _ _; walk_at "own"))
  | ((with_reducible apply ev_ddS); (walk_at "dp"); (exact Nat.le_of_ble_eq_true rfl); (walk_at "ev"); (exact rfl))
  | ((with_reducible apply ev_isiT); (walk_at "ev"); (walk_at "ea"); (walk_at "isiT"))
  | ((with_reducible apply ev_cb); (walk_at "ea"); (walk_at "rc")))
local macro_rules | `(tactic| walk_at "dp") => `(tactic| first
  | exact Paired.nil
  | ((with_reducible apply dp_cons); (exact ev_c); (walk_at "ev"); (walk_at "dp")))
local macro_rules | `(tactic| walk_at "ea") => `(tactic| first
  | exact ea_nil
  | ((with_reducible apply ea_cons); (walk_at "ev"); (walk_at "ea")))
local macro_rules | `(tactic| walk_at "et") => `(tactic| first
  | ((with_reducible apply et_test); (walk_at "ev"))
  | ((with_reducible apply et_B); (walk_at "ev"))
  | ((with_reducible apply et_not); (walk_at "et"))
  | ((with_reducible apply et_and); (walk_at "et"); (intro _; walk_at "et"))
  | ((with_reducible apply et_or); (walk_at "et"); (intro _; walk_at "et")))
local macro_rules | `(tactic| walk_at "rv") => `(tactic| first
  | exact rv_I0
  | exact rv_eq rfl
  | exact rv_ne rfl
  | exact rv_isT (by assumption) rfl rfl
  | exact rv_niT (by assumption) rfl rfl
  | exact rv_isL (by assumption) rfl rfl
  | exact rv_niL (by assumption) rfl rfl
  | exact rv_ixT (by assumption) rfl
  | exact rv_ixL (by assumption) rfl
  | exact rv_ixL (by assumption) (by assumption)
  | (apply rv_I; (walk_at "side")))
local macro_rules | `(tactic| walk_at "side") => `(tactic| first
  | assumption
  | (refine And.intro ?_ (And.intro ?_ ?_) <;> (try dsimp only) <;> first | omega | decide)
  | (dsimp only; omega)
  | omega)
local macro_rules | `(tactic| walk_at "rc") => `(tactic| first
  | exact rc_abs | exact rc_max2 | exact rc_min2 | exact rc_int | exact rc_intB
  | exact rc_isi_int (b := true) (by decide +kernel)
  | exact rc_isi_int (b := false) (by decide +kernel)
  | exact rc_isi_bl (b := true) (by decide +kernel)
  | exact rc_isi_bl (b := false) (by decide +kernel)
  | exact rc_isi_str (b := true) (by decide +kernel)
  | exact rc_isi_str (b := false) (by decide +kernel)
  | exact rc_isi_T (b := true) (by assumption) (by decide +kernel)
  | exact rc_isi_T (b := false) (by assumption) (by decide +kernel)
  | exact rc_lenT (by assumption)
  | exact rc_lenL (by assumption))
local macro_rules | `(tactic| walk_at "set") => `(tactic| ((with_reducible apply bl_set); (walk_at "ev")))
local macro_rules | `(tactic| walk_at "drop") => `(tactic| ((with_reducible apply bl_drop); (walk_at "ev")))
local macro_rules | `(tactic| walk_at "par") => `(tactic| ((with_reducible apply bl_par); (walk_at "ea")))
local macro_rules | `(tactic| walk_at "if") => `(tactic| ((with_reducible apply bl_when); (walk_at "et")))
local macro_rules | `(tactic| walk_at "no") => `(tactic| ((with_reducible apply bl_when); (walk_at "et"); (intro h; exact absurd (show false = true from h) (by decide)); (intro _)))
local macro_rules | `(tactic| walk_at "yes") => `(tactic| ((with_reducible apply bl_when); (walk_at "et"); rotate_left; (intro h; exact absurd (show true = false from h) (by decide)); (intro _)))
local macro_rules | `(tactic| walk_at "ret") => `(tactic| ((with_reducible apply bl_retE); rotate_left; assumption; rotate_right; (walk_at "ev")))
local macro_rules | `(tactic| walk_at "absurd") => `(tactic| first | exact absurd (show false = true from (by assumption)) (by decide) | exact absurd (show true = false from (by assumption)) (by decide))
local macro_rules | `(tactic| walk_at "rv") => `(tactic| first | exact rv_isN (s := []) | exact rv_notKD (by assumption) | exact rv_inKD (by assumption) | exact rv_ixKD (by assumption))
local macro_rules | `(tactic| walk_at "isiT") => `(tactic| ((exact Nat.le_of_ble_eq_true rfl); (exact .cons (.ty _) (.cons (.ty _) .nil)); (first | exact fun _ _ => .base (.int _) | exact fun _ _ => .base (.bl _) | exact fun _ _ => .base (.str _) | exact fun _ _ => .base .non); (exact kitAny_no (by decide +kernel) (by decide +kernel))))
local macro_rules | `(tactic| walk_at "rc") => `(tactic| first | exact rc_isi_non (b := true) (by decide +kernel) | exact rc_isi_non (b := false) (by decide +kernel))
local macro_rules | `(tactic| walk_at "eu") => `(tactic| first
  | ((with_reducible apply eu_own); (walk_at "ea"); (intro _ _; walk_at "own"))
  | ((with_reducible apply eu_tup); (walk_at "ea"); (exact Nat.le_of_ble_eq_true rfl)))
local macro_rules | `(tactic| walk_at "ev") => `(tactic| ((with_reducible apply ev_own1U); (walk_at "eu"); (walk_at "ea"); (intro _ _ _ _; walk_at "own1")))
local macro_rules | `(tactic| walk_at "isr") => `(tactic| first | with_reducible exact isr_r | with_reducible exact isr_i | ((with_reducible apply isr_if) <;> (walk_at "isr")))
local macro_rules | `(tactic| walk_at "osm") => `(tactic| first | with_reducible assumption | with_reducible exact osm_add | with_reducible exact osm_sub | with_reducible exact osm_mul | with_reducible exact osm_dvo | with_reducible exact osm_neg | with_reducible exact osm_rem | with_reducible exact osm_do | with_reducible exact osm_div | with_reducible exact osm_fit | ((with_reducible apply osm); assumption) | ((with_reducible apply osm); exact (show (0 : Int).natAbs < 2 ^ 70 by decide)) | ((with_reducible apply osm); exact (show (2 : Int).natAbs < 2 ^ 70 by decide)) | ((with_reducible apply osm_if) <;> (walk_at "osm")))
local macro_rules | `(tactic| walk_at "ev") => `(tactic| first
  | ((with_reducible apply ev_inLst); (walk_at "ev"); (walk_at "ea"); (exact Nat.le_of_ble_eq_true rfl); (exact rfl); (first | exact rfl | simp [flatV])))
local macro_rules | `(tactic| walk_at "rv") => `(tactic| first | exact rv_eq scal_rv | exact rv_ne scal_rv | exact rv_eq (scal_rv (y := some _)) | exact rv_ne (scal_rv (y := some _)) | exact rv_eq (scal_rv (y := none)) | exact rv_ne (scal_rv (y := none)))
local macro_rules | `(tactic| walk_at "nz") => `(tactic| first | with_reducible assumption | ((with_reducible apply nz_i); (first | assumption | decide)))
local macro_rules | `(tactic| walk_at "ev") => `(tactic| ((with_reducible apply ev_inU); (walk_at "ev"); (walk_at "eu"); (exact rfl); (exact rfl)))
section
variable {P : Program} {w : World} {K : PySem.W.Frag} {mg : Str → Option Value} {base : Heap}
local macro_rules | `(tactic| walk_at "own") => `(tactic| first
  | exact r__law_do_sub0 (ex_t (by assumption) (by assumption)) (by assumption))
local macro_rules | `(tactic| walk_at "own") => `(tactic| first
  | exact r__law_do_sub0 (ex_t (by assumption) (by assumption)) (by assumption))
abbrev s__law_taken : Stmt := top 54
abbrev N__law_taken : List Str := ["row", "many", "found", "cell"]
theorem sc__law_taken : FnScope N__law_taken ["row", "many"] (defScope s__law_taken) := ⟨rfl, rfl, rfl, by decide +kernel, rfl, by decide +kernel, by decide +kernel⟩
theorem ok__law_taken (T : Txt w K mg) (D0 : DefAt K mg "_law_taken" s__law_taken)   : Cal P w K mg base CX0 1 "_law_taken" ["row", "many"] (SpTaken K) := by
  refine D0.cal sc__law_taken (fun vs H Q E h => by obtain ⟨r, a, ns, m, rfl, _⟩ := h; rfl) (fun _ _ _ _ _ _ us hl => match us, hl with | [_, _], _ => rfl) (fun f cdv A outer s H vs Q E hr h => ?_)
  obtain ⟨r, a, ns, m, rfl, R, hm0, hm, k⟩ := h
  have hu := hu_of hr
  refine ⟨_, (pss_cons (ps_if (pt_cmpR op_gt (pe_ix ix_list (pv 0) pe_int (fun _ _ => rfl)) pe_int (nomark _)) (pss_cons (ps_set (i := 2) sc__law_taken.nd rfl (Or.inl rfl) (pe_op op_modN (pe_callTy call_int1 (by rfl) T.n_int (by decide +kernel) (pa_cons (pe_ix ix_list (pv 0) pe_int (fun _ _ => rfl)) pa_nil)) (pv 1)))
      (pss_cons (ps_asg (pe_op op_fdivB (pe_ix ix_list (pv 0) pe_int (fun _ _ => rfl)) (pv 1)) (pg_sub (pv 0) pe_int set_list))
      (pss_one (ps_ret (pv 2))))) pss_nil)
      (pss_cons (ps_asg (pe_op op_add (pe_ix ix_list (pv 0) pe_int (fun _ _ => rfl)) pe_int) (pg_sub (pv 0) pe_int set_list))
      (pss_cons (ps_if (pt_cmpR op_gt (pe_ix ix_list (pv 0) pe_int (fun _ _ => rfl)) (pe_callB call_len_seq (by rfl) T.n_len (by decide +kernel) (pa_cons (pe_ix ix_list (pv 0) pe_int (fun _ _ => rfl)) pa_nil)) (nomark _)) (pss_cons (ps_asg (pe_op op_modN (pe_callTy call_int1 (by rfl) T.n_int (by decide +kernel) (pa_cons (pe_op op_add (pe_op op_mulW (pe_ix ix_list (pv 0) pe_int (fun _ _ => rfl)) pe_int) pe_int) pa_nil)) pe_int) (pg_sub (pv 0) pe_int set_list))
      (pss_one (ps_ret (pe_op op_modN (pe_callTy call_int1 (by rfl) T.n_int (by decide +kernel) (pa_cons (pe_op op_fdivB (pe_ix ix_list (pv 0) pe_int (fun _ _ => rfl)) pe_int) pa_nil)) (pv 1))))) pss_nil)
      (pss_cons (ps_set (i := 3) sc__law_taken.nd rfl (Or.inl rfl) (pe_ix ix_list (pe_ix ix_list (pv 0) pe_int (fun _ _ => rfl)) (pe_op op_sub (pe_ix ix_list (pv 0) pe_int (fun _ _ => rfl)) pe_int) (fun _ _ => rfl)))
      (pss_cons (ps_asg (pe_op op_modN (pe_callTy call_int1 (by rfl) T.n_int (by decide +kernel) (pa_cons (pe_op op_add (pe_op op_add (pe_op op_mulW (pe_ix ix_list (pv 0) pe_int (fun _ _ => rfl)) pe_int) (pv 3)) pe_int) pa_nil)) pe_int) (pg_sub (pv 0) pe_int set_list))
      (pss_cons (ps_if (pt_cmpR op_ge (pv 3) (pe_op op_pow pe_int pe_int) (nomark _)) (pss_one (ps_asg (pe_op op_fdivB (pv 3) (pv 1)) (pg_sub (pv 0) pe_int set_list))) pss_nil)
      (pss_one (ps_ret (pe_op op_modN (pe_callTy call_int1 (by rfl) T.n_int (by decide +kernel) (pa_cons (pv 3) pa_nil)) (pv 1)))))))))), bl_go ?_⟩
  have scr := R.scr
  have la : (ns.map V.int).length = ns.length := List.length_map ..
  obtain ⟨p, s0, t, hp, hs, hs2, hrow⟩ := R.row
  have hl : SqL K H r [.ref a, .int p, .int s0, .int t] := sq_of hrow
  have m0 : m ≠ 0 := by omega
  have d1 : CDivB t m := sm_div hm m0
  have m1 := mul48271 hs hs2
  walk_at "if"
  · intro h
    walk_at "set"
    apply bl_row (j := 3) hrow
    · walk_at "ev"
    · walk_at "ev"
    · exact ev_c
    · exact Nat.lt_of_sub_eq_succ rfl
    intro H1 e1
    refine bl_go (bl_ret (ev_var rfl) fun H3 e3 => ?_)
    exact k _ H3 (fmod_in t hm0).1 (fmod_in t hm0).2 ((R.upd e1 hp hs hs2).ex e3) ((ExB.upd e1).trans (ExB.of e3))
  · intro _
    apply bl_row (j := 1) hrow
    · walk_at "ev"
    · walk_at "ev"
    · exact ev_c
    · exact Nat.lt_of_sub_eq_succ rfl
    intro H1 e1
    have R1 : RowOK K (upd H1 r (.lst [.ref a, .int (p + 1), .int s0, .int t])) r a ns := R.upd e1 (by omega) hs hs2
    have x1 : ExB r H (upd H1 r (.lst [.ref a, .int (p + 1), .int s0, .int t])) := ExB.upd e1
    change tSeq _ _ _ _ (upd H1 r (.lst [.ref a, .int (p + 1), .int s0, .int t]))
    generalize hH2 : upd H1 r (.lst [.ref a, .int (p + 1), .int s0, .int t]) = H2 at *
    have hrow2 : H2 r = some (.lst [.ref a, .int (p + 1), .int s0, .int t]) := by rw [← hH2]; exact upd_same
    have hl2 : SqL K H2 r [.ref a, .int (p + 1), .int s0, .int t] := sq_of hrow2
    have scr2 : SqL K H2 a (ns.map V.int) := R1.scr
    apply bl_go
    walk_at "if"
    · intro h
      apply bl_row (j := 2) hrow2
      · walk_at "ev"
      · walk_at "ev"
      · exact ev_c
      · exact Nat.lt_of_sub_eq_succ rfl
      intro H3 e3
      have fi := fmod_in (s0 * 48271 + 11) (show (0 : Int) < 2147483647 by decide)
      have R3 : RowOK K (upd H3 r (.lst [.ref a, .int (p + 1), .int ((s0 * 48271 + 11).fmod 2147483647), .int t])) r a ns := R1.upd e3 (by omega) fi.1 fi.2
      have x3 : ExB r H (upd H3 r (.lst [.ref a, .int (p + 1), .int ((s0 * 48271 + 11).fmod 2147483647), .int t])) := x1.trans (ExB.upd e3)
      change tRet _ _ _ (upd H3 r (.lst [.ref a, .int (p + 1), .int ((s0 * 48271 + 11).fmod 2147483647), .int t]))
      generalize hH4 : upd H3 r (.lst [.ref a, .int (p + 1), .int ((s0 * 48271 + 11).fmod 2147483647), .int t]) = H4 at *
      have hl4 : SqL K H4 r [.ref a, .int (p + 1), .int ((s0 * 48271 + 11).fmod 2147483647), .int t] := sq_of (by rw [← hH4]; exact upd_same)
      have d7 : CDivB ((s0 * 48271 + 11).fmod 2147483647) 7 := sm_div (show (7 : Int).natAbs < 2 ^ 70 by decide) (by decide)
      apply bl_go
      (with_reducible apply bl_ret)
      · walk_at "ev"
      · exact fun H5 e5 => k _ H5 (fmod_in _ hm0).1 (fmod_in _ hm0).2 (R3.ex e5) (x3.trans (ExB.of e5))
    · intro h
      have hlen : p + 1 ≤ ns.length := by
        have h' := of_decide_eq_false h
        rw [la] at h'
        omega
      obtain ⟨c, hc⟩ := at_int (ns := ns) (i := p + 1 - 1) (by omega) (by omega)
      have dc : CDivB c m := sm_div hm m0
      walk_at "set"
      apply bl_row (j := 2) hrow2
      · walk_at "ev"
      · walk_at "ev"
      · exact ev_c
      · exact Nat.lt_of_sub_eq_succ rfl
      intro H3 e3
      have fi := fmod_in (s0 * 48271 + c + 11) (show (0 : Int) < 2147483647 by decide)
      have R3 : RowOK K (upd H3 r (.lst [.ref a, .int (p + 1), .int ((s0 * 48271 + c + 11).fmod 2147483647), .int t])) r a ns := R1.upd e3 (by omega) fi.1 fi.2
      have x3 : ExB r H (upd H3 r (.lst [.ref a, .int (p + 1), .int ((s0 * 48271 + c + 11).fmod 2147483647), .int t])) := x1.trans (ExB.upd e3)
      change tSeq _ _ _ _ (upd H3 r (.lst [.ref a, .int (p + 1), .int ((s0 * 48271 + c + 11).fmod 2147483647), .int t]))
      generalize hH4 : upd H3 r (.lst [.ref a, .int (p + 1), .int ((s0 * 48271 + c + 11).fmod 2147483647), .int t]) = H4 at *
      have hrow4 : H4 r = some (.lst [.ref a, .int (p + 1), .int ((s0 * 48271 + c + 11).fmod 2147483647), .int t]) := by rw [← hH4]; exact upd_same
      have hl4 : SqL K H4 r [.ref a, .int (p + 1), .int ((s0 * 48271 + c + 11).fmod 2147483647), .int t] := sq_of hrow4
      apply bl_go
      walk_at "if"
      · intro _
        apply bl_rowE (j := 3) hrow4
        · walk_at "ev"
        · walk_at "ev"
        · exact ev_c
        · exact Nat.lt_of_sub_eq_succ rfl
        intro H5 e5
        have R5 : RowOK K (upd H5 r (.lst [.ref a, .int (p + 1), .int ((s0 * 48271 + c + 11).fmod 2147483647), .int (c.fdiv m)])) r a ns := R3.upd e5 (by omega) fi.1 fi.2
        dsimp only
        apply bl_go
        (with_reducible apply bl_ret)
        · walk_at "ev"
        · exact fun H6 e6 => k _ H6 (fmod_in _ hm0).1 (fmod_in _ hm0).2 (R5.ex e6) ((x3.trans (ExB.upd e5)).trans (ExB.of e6))
      · intro _
        (with_reducible apply bl_ret)
        · walk_at "ev"
        · exact fun H6 e6 => k _ H6 (fmod_in _ hm0).1 (fmod_in _ hm0).2 (R3.ex e6) (x3.trans (ExB.of e6))
abbrev s__law_pick : Stmt := top 55
abbrev N__law_pick : List Str := ["row", "kinds"]
theorem sc__law_pick : FnScope N__law_pick ["row", "kinds"] (defScope s__law_pick) := ⟨rfl, rfl, rfl, by decide +kernel, rfl, by decide +kernel, by decide +kernel⟩
theorem ok__law_pick (T : Txt w K mg) (D0 : DefAt K mg "_law_pick" s__law_pick) (c__law_taken : Cal P w K mg base CX0 1 "_law_taken" ["row", "many"] (SpTaken K))  : Cal P w K mg base CX0 2 "_law_pick" ["row", "kinds"] (SpPick K) := by
  refine D0.cal sc__law_pick (fun vs H Q E h => by obtain ⟨r, a, ns, l, xs, rfl, _⟩ := h; rfl) (fun _ _ _ _ _ _ us hl => match us, hl with | [_, _], _ => rfl) (fun f cdv A outer s H vs Q E hr h => ?_)
  obtain ⟨r, a, ns, l, xs, rfl, R, hl, hlr, hx1, hx2, k⟩ := h
  have hu := hu_of hr
  refine ⟨_, (pss_one (ps_ret (pe_ix ix_list (pv 1) (pe_own c__law_taken (hr.mono (by decide)) rfl pass0 (pa_cons (pv 0) (pa_cons (pe_callB call_len_seq (by rfl) T.n_len (by decide +kernel) (pa_cons (pv 1) pa_nil)) pa_nil))) (fun _ _ => rfl)))), bl_go ?_⟩
  intro H1 e1
  refine ⟨_, rfl, _, rfl, _, rfl, l, xs, rfl, .inl (ex_l e1 hl), r, a, ns, _, rfl, R.ex e1, ?_, sm_nat hx2, fun v H' h0 h1 R' e => ?_⟩
  · have := List.length_pos_iff.mpr hx1
    omega
  obtain ⟨w', hw, hm⟩ := at_mem (xs := xs) h0 h1
  have e2 := (ExB.of (r := r) e1).trans e
  exact ⟨l, xs, v, w', rfl, rfl, exb_l e2 hlr hl, hw, k w' H' hm R' e2⟩
abbrev s__law_format : Stmt := top 57
abbrev N__law_format : List Str := ["row", "most", "w", "signs", "overflow"]
theorem sc__law_format : FnScope N__law_format ["row", "most"] (defScope s__law_format) := ⟨rfl, rfl, rfl, by decide +kernel, rfl, by decide +kernel, by decide +kernel⟩
theorem ok__law_format (T : Txt w K mg) (D0 : DefAt K mg "_law_format" s__law_format) (c__law_pick : Cal P w K mg base CX0 2 "_law_pick" ["row", "kinds"] (SpPick K)) (c__law_taken : Cal P w K mg base CX0 1 "_law_taken" ["row", "many"] (SpTaken K))  : Cal P w K mg base CX0 3 "_law_format" ["row", "most"] (SpFormat K) := by
  refine D0.cal sc__law_format (fun vs H Q E h => by obtain ⟨r, a, ns, m, rfl, _⟩ := h; rfl) (fun _ _ _ _ _ _ us hl => match us, hl with | [_, _], _ => rfl) (fun f cdv A outer s H vs Q E hr h => ?_)
  obtain ⟨r, a, ns, m, rfl, R, hm0, k⟩ := h
  have hu := hu_of hr
  refine ⟨_, (pss_cons (ps_set (i := 2) sc__law_format.nd rfl (Or.inl rfl) (pe_callB (call_min2 rfl) (by rfl) T.n_min (by decide +kernel) (pa_cons (pv 1) (pa_cons (pe_own c__law_pick (hr.mono (by decide)) rfl pass0 (pa_cons (pv 0) (pa_cons (pe_lst (pa_cons pe_int (pa_cons pe_int (pa_cons pe_int (pa_cons pe_int (pa_cons pe_int (pa_cons pe_int (pa_cons pe_int (pa_cons pe_int (pa_cons (pe_op op_add pe_int (pe_own c__law_taken (hr.mono (by decide)) rfl pass0 (pa_cons (pv 0) (pa_cons pe_int pa_nil)))) pa_nil)))))))))) pa_nil))) pa_nil))))
      (pss_cons (ps_par (i := 3) (j := 4) (by rfl) sc__law_format.nd rfl rfl (by decide) rfl rfl (pa_cons (pe_own c__law_pick (hr.mono (by decide)) rfl pass0 (pa_cons (pv 0) (pa_cons (pe_lst (pa_cons pe_str (pa_cons pe_str (pa_cons pe_str pa_nil)))) pa_nil))) (pa_cons (pe_own c__law_pick (hr.mono (by decide)) rfl pass0 (pa_cons (pv 0) (pa_cons (pe_lst (pa_cons pe_str (pa_cons pe_str (pa_cons pe_str pa_nil)))) pa_nil))) pa_nil)) (by rfl))
      (pss_one (ps_ret (pe_tup (pa_cons (pv 2) (pa_cons (pv 3) (pa_cons (pv 4) (pa_cons (pe_own c__law_pick (hr.mono (by decide)) rfl pass0 (pa_cons (pv 0) (pa_cons (pe_lst (pa_cons pe_str (pa_cons pe_str (pa_cons pe_str (pa_cons pe_str (pa_cons pe_str pa_nil)))))) pa_nil))) pa_nil))))))))), bl_go ?_⟩
  intro H0 e0
  have R0 := R.ex e0
  refine ⟨_, rfl, _, rfl, _, rfl, r, a, ns, 61, rfl, R0, by decide, by unfold Sm; decide, fun v1 H1 a1 b1 R1 e1 => ⟨4, v1, rfl, rfl, ?_⟩⟩
  refine ⟨sz_of (n := 9) (by decide), fun l1 hl1 => pick_new (E := E0) R1 hl1 (fun z => by cases z) (Nat.le_of_ble_eq_true rfl) fun v2 H2 hm2 R2 e2 => ?_⟩
  obtain ⟨j, rfl, hj⟩ := mem_ints (is := [4, 5, 5, 6, 7, 8, 13, 64, 4 + v1]) hm2
  have hj2 : 4 ≤ j ∧ j ≤ 64 := by
    simp only [List.mem_cons, List.not_mem_nil, or_false] at hj
    omega
  obtain ⟨w, hw, hw4, hw64, hwm⟩ : ∃ w : Nat, (if j < m then j else m) = (w : Int) ∧ 4 ≤ w ∧ w ≤ 64 ∧ (w : Int) ≤ m := by
    by_cases hc : j < m
    · rw [if_pos hc]
      exact ⟨j.toNat, by omega, by omega, by omega, by omega⟩
    · rw [if_neg hc]
      exact ⟨m.toNat, by omega, by omega, by omega, by omega⟩
  refine ⟨m, j, rfl, ?_⟩
  rw [hw]
  refine ⟨_, rfl, sz_of (n := 3) (by decide), fun l2 hl2 => pick_new (E := E0) R2 hl2 (fun z => by cases z) (Nat.le_of_ble_eq_true rfl) fun v3 H3 hm3 R3 e3 => ?_⟩
  obtain ⟨sg, rfl⟩ := mem_sg hm3
  refine ⟨_, rfl, sz_of (n := 3) (by decide), fun l3 hl3 => pick_new (E := E0) R3 hl3 (fun z => by cases z) (Nat.le_of_ble_eq_true rfl) fun v4 H4 hm4 R4 e4 => ?_⟩
  obtain ⟨ov, rfl⟩ := mem_ov hm4
  refine ⟨_, _, rfl, ?_⟩
  refine ⟨_, rfl, _, rfl, _, rfl, _, rfl, sz_of (n := 5) (by decide), fun l4 hl4 => pick_new (E := E0) R4 hl4 (fun z => by cases z) (Nat.le_of_ble_eq_true rfl) fun v5 H5 hm5 R5 e5 => ?_⟩
  obtain ⟨dv, rfl⟩ := mem_dv hm5
  have e := ((((((ExB.of e0).trans e1).trans e2).trans e3).trans e4).trans e5)
  refine ⟨sz_of (n := 4) (by decide), fun p hp => ?_⟩
  exact k ⟨w, sg, ov, dv, hw4, hw64⟩ p _ hwm (e.back (R5.fresh hp) hp) upd_same (R5.new hp) (e.trans (ExB.of (Ex.new hp)))
end
end KC

set_option maxHeartbeats 4000000
namespace KC
open PySem PySem.Spec PyProof.Rows L2 Evl WM WL WLam WX WT WU StX LamX
local macro_rules | `(tactic| walk_at "ev") => `(tactic| first
  | exact ev_c
  | exact ev_var rfl
  | ((with_reducible apply ev_op); (walk_at "ev"); (walk_at "ev"); (walk_at "rv"))
  | ((with_reducible apply ev_un); (walk_at "ev"); exact ru_neg)
  | ((with_reducible apply ev_notV); (walk_at "ev"))
  | ((with_reducible apply ev_andV); (walk_at "ev"); (intro _; walk_at "ev"))
  | ((with_reducible apply ev_orV); (walk_at "ev"); (intro _; walk_at "ev"))
  | ((with_reducible apply ev_ifT); (walk_at "et"); (exact rfl); (walk_at "ev"))
  | ((with_reducible apply ev_ifF); (walk_at "et"); (exact rfl); (walk_at "ev"))
  | ((with_reducible apply ev_ifB); (walk_at "et"); (intro _; walk_at "ev"); (intro _; walk_at "ev"))
  | ((with_reducible apply ev_chainI); (walk_at "ev"); (walk_at "ev"); (walk_at "ev"))
  | ((with_reducible apply ev_own); (walk_at "ea"); (intro _ _; walk_at "own"))
  | ((with_reducible apply ev_ddS); (walk_at "dp"); (exact Nat.le_of_ble_eq_true rfl); (walk_at "ev"); (exact rfl))
  | ((with_reducible apply ev_isiT); (walk_at "ev"); (walk_at "ea"); (walk_at "isiT"))
  | ((with_reducible apply ev_cb); (walk_at "ea"); (walk_at "rc")))
local macro_rules | `(tactic| walk_at "dp") => `(tactic| first
  | exact Paired.nil
  | ((with_reducible apply dp_cons); (exact ev_c); (walk_at "ev"); (walk_at "dp")))
local macro_rules | `(tactic| walk_at "ea") => `(tactic| first
  | exact ea_nil
  | ((with_reducible apply ea_cons); (walk_at "ev"); (walk_at "ea")))
local macro_rules | `(tactic| walk_at "et") => `(tactic| first
  | ((with_reducible apply et_test); (walk_at "ev"))
  | ((with_reducible apply et_B); (walk_at "ev"))
  | ((with_reducible apply et_not); (walk_at "et"))
  | ((with_reducible apply et_and); (walk_at "et"); (intro _; walk_at "et"))
  | ((with_reducible apply et_or); (walk_at "et"); (intro _; walk_at "et")))
local macro_rules | `(tactic| walk_at "rv") => `(tactic| first
  | exact rv_I0
  | exact rv_eq rfl
  | exact rv_ne rfl
  | exact rv_isT (by assumption) rfl rfl
  | exact rv_niT (by assumption) rfl rfl
  | exact rv_isL (by assumption) rfl rfl
  | exact rv_niL (by assumption) rfl rfl
  | exact rv_ixT (by assumption) rfl
  | exact rv_ixL (by assumption) rfl
  | exact rv_ixL (by assumption) (by assumption)
  | (apply rv_I; (walk_at "side")))
local macro_rules | `(tactic| walk_at "side") => `(tactic| first
  | assumption
  | (refine And.intro ?_ (And.intro ?_ ?_) <;> (try dsimp only) <;> first | omega | decide)
  | (dsimp only; omega)
  | omega)
local macro_rules | `(tactic| walk_at "rc") => `(tactic| first
  | exact rc_abs | exact rc_max2 | exact rc_min2 | exact rc_int | exact rc_intB
  | exact rc_isi_int (b := true) (by decide +kernel)
  | exact rc_isi_int (b := false) (by decide +kernel)
  | exact rc_isi_bl (b := true) (by decide +kernel)
  | exact rc_isi_bl (b := false) (by decide +kernel)
  | exact rc_isi_str (b := true) (by decide +kernel)
  | exact rc_isi_str (b := false) (by decide +kernel)
  | exact rc_isi_T (b := true) (by assumption) (by decide +kernel)
  | exact rc_isi_T (b := false) (by assumption) (by decide +kernel)
  | exact rc_lenT (by assumption)
  | exact rc_lenL (by assumption))
local macro_rules | `(tactic| walk_at "set") => `(tactic| ((with_reducible apply bl_set); (walk_at "ev")))
local macro_rules | `(tactic| walk_at "drop") => `(tactic| ((with_reducible apply bl_drop); (walk_at "ev")))
local macro_rules | `(tactic| walk_at "par") => `(tactic| ((with_reducible apply bl_par); (walk_at "ea")))
local macro_rules | `(tactic| walk_at "if") => `(tactic| ((with_reducible apply bl_when); (walk_at "et")))
local macro_rules | `(tactic| walk_at "no") => `(tactic| ((with_reducible apply bl_when); (walk_at "et"); (intro h; exact absurd (show false = true from h) (by decide)); (intro _)))
local macro_rules | `(tactic| walk_at "yes") => `(tactic| ((with_reducible apply bl_when); (walk_at "et"); rotate_left; (intro h; exact absurd (show true = false from h) (by decide)); (intro _)))
local macro_rules | `(tactic| walk_at "ret") => `(tactic| ((with_reducible apply bl_retE); rotate_left; assumption; rotate_right; (walk_at "ev")))
local macro_rules | `(tactic| walk_at "absurd") => `(tactic| first | exact absurd (show false = true from (by assumption)) (by decide) | exact absurd (show true = false from (by assumption)) (by decide))
local macro_rules | `(tactic| walk_at "rv") => `(tactic| first | exact rv_isN (s := []) | exact rv_notKD (by assumption) | exact rv_inKD (by assumption) | exact rv_ixKD (by assumption))
local macro_rules | `(tactic| walk_at "isiT") => `(tactic| ((exact Nat.le_of_ble_eq_true rfl); (exact .cons (.ty _) (.cons (.ty _) .nil)); (first | exact fun _ _ => .base (.int _) | exact fun _ _ => .base (.bl _) | exact fun _ _ => .base (.str _) | exact fun _ _ => .base .non); (exact kitAny_no (by decide +kernel) (by decide +kernel))))
local macro_rules | `(tactic| walk_at "rc") => `(tactic| first | exact rc_isi_non (b := true) (by decide +kernel) | exact rc_isi_non (b := false) (by decide +kernel))
local macro_rules | `(tactic| walk_at "eu") => `(tactic| first
  | ((with_reducible apply eu_own); (walk_at "ea"); (intro _ _; walk_at "own"))
  | ((with_reducible apply eu_tup); (walk_at "ea"); (exact Nat.le_of_ble_eq_true rfl)))
local macro_rules | `(tactic| walk_at "ev") => `(tactic| ((with_reducible apply ev_own1U); (walk_at "eu"); (walk_at "ea"); (intro _ _ _ _; walk_at "own1")))
local macro_rules | `(tactic| walk_at "isr") => `(tactic| first | with_reducible exact isr_r | with_reducible exact isr_i | ((with_reducible apply isr_if) <;> (walk_at "isr")))
local macro_rules | `(tactic| walk_at "osm") => `(tactic| first | with_reducible assumption | with_reducible exact osm_add | with_reducible exact osm_sub | with_reducible exact osm_mul | with_reducible exact osm_dvo | with_reducible exact osm_neg | with_reducible exact osm_rem | with_reducible exact osm_do | with_reducible exact osm_div | with_reducible exact osm_fit | ((with_reducible apply osm); assumption) | ((with_reducible apply osm); exact (show (0 : Int).natAbs < 2 ^ 70 by decide)) | ((with_reducible apply osm); exact (show (2 : Int).natAbs < 2 ^ 70 by decide)) | ((with_reducible apply osm_if) <;> (walk_at "osm")))
local macro_rules | `(tactic| walk_at "ev") => `(tactic| first
  | ((with_reducible apply ev_inLst); (walk_at "ev"); (walk_at "ea"); (exact Nat.le_of_ble_eq_true rfl); (exact rfl); (first | exact rfl | simp [flatV])))
local macro_rules | `(tactic| walk_at "rv") => `(tactic| first | exact rv_eq scal_rv | exact rv_ne scal_rv | exact rv_eq (scal_rv (y := some _)) | exact rv_ne (scal_rv (y := some _)) | exact rv_eq (scal_rv (y := none)) | exact rv_ne (scal_rv (y := none)))
local macro_rules | `(tactic| walk_at "nz") => `(tactic| first | with_reducible assumption | ((with_reducible apply nz_i); (first | assumption | decide)))
local macro_rules | `(tactic| walk_at "ev") => `(tactic| ((with_reducible apply ev_inU); (walk_at "ev"); (walk_at "eu"); (exact rfl); (exact rfl)))
section
variable {P : Program} {w : World} {K : PySem.W.Frag} {mg : Str → Option Value} {base : Heap}
local macro_rules | `(tactic| walk_at "own") => `(tactic| first
  | exact r__law_do_sub0 (ex_t (by assumption) (by assumption)) (by assumption))
abbrev s__law_rules : Stmt := top 58
abbrev N__law_rules : List Str := ["some"]
theorem sc__law_rules : FnScope N__law_rules [] (defScope s__law_rules) := ⟨rfl, rfl, rfl, by decide +kernel, rfl, by decide +kernel, by decide +kernel⟩
theorem ok__law_rules (T : Txt w K mg) (D0 : DefAt K mg "_law_rules" s__law_rules)   : Cal P w K mg base CX0 1 "_law_rules" [] (PuL (fun vs _ xs => vs = [] ∧ xs = rlV)) := by
  refine D0.cal sc__law_rules (fun vs H Q E h => by obtain ⟨v, ⟨rfl, _⟩, _⟩ := h; rfl) (fun _ _ _ _ _ _ us hl => match us, hl with | [], _ => rfl) (fun f cdv A outer s H vs Q E hr h => ?_)
  obtain ⟨xs0, ⟨rfl, rfl⟩, k⟩ := h
  have hu := hu_of hr
  refine ⟨_, (pss_cons (ps_set (i := 0) sc__law_rules.nd rfl (Or.inl rfl) (pe_lst (pa_cons pe_str (pa_cons pe_str (pa_cons pe_str (pa_cons pe_str (pa_cons pe_str (pa_cons pe_str (pa_cons pe_str pa_nil)))))))))
      (pss_cons (ps_set (i := 0) sc__law_rules.nd rfl (Or.inl rfl) (pe_op op_cat (pv 0) (pe_lst (pa_cons pe_str (pa_cons pe_str (pa_cons pe_str (pa_cons pe_str (pa_cons pe_str (pa_cons pe_str pa_nil)))))))))
      (pss_one (ps_ret (pe_op op_cat (pv 0) (pe_lst (pa_cons pe_str (pa_cons pe_str (pa_cons pe_str (pa_cons pe_str pa_nil)))))))))), bl_go ?_⟩
  apply bl_setL
  · apply el_lst
    · walk_at "ea"
    · exact Nat.le_of_ble_eq_true rfl
  intro l1 H1 _ e1 hl1
  apply bl_setL
  · apply el_cat
    · rfl
    · exact hl1
    · walk_at "ea"
    · exact Nat.le_of_ble_eq_true rfl
    · exact Nat.le_of_ble_eq_true rfl
  intro l2 H2 hn2 e2 hl2
  intro H3 e3
  apply bl_go
  apply bl_retL
  · apply el_cat
    · rfl
    · exact e3 _ _ hl2
    · walk_at "ea"
    · exact Nat.le_of_ble_eq_true rfl
    · exact Nat.le_of_ble_eq_true rfl
  · exact fun q H4 hq e4 hx => k q H4 (fresh_back ((e1.trans e2).trans e3) hq) (((e1.trans e2).trans e3).trans e4) hx
def R__law_prime (K : PySem.W.Frag) : List V → Hp → V → Prop := fun vs H v => ∃ (n : Nat), vs = [.int (n : Int)] ∧ v = .bl (WP.mers n)
theorem r__law_prime {K : PySem.W.Frag} {H : Hp} {n : Nat}  : R__law_prime K [.int (n : Int)] H (.bl (WP.mers n)) := ⟨_, rfl, rfl⟩
theorem in_mers (n : Nat) : inV (.int (n : Int)) [.int 2, .int 3, .int 5, .int 7, .int 13, .int 17, .int 19, .int 31, .int 61] = WP.mers n := by
  have e : ∀ k : Nat, eqV (.int (k : Int)) (.int (n : Int)) = (n == k) := fun k => by
    show ((k : Int) == (n : Int)) = (n == k)
    by_cases h : n = k
    · subst h; rw [beq_self_eq_true, beq_self_eq_true]
    · have : ¬ (k : Int) = (n : Int) := fun z => h (by omega)
      rw [beq_eq_false_iff_ne.mpr this, beq_eq_false_iff_ne.mpr h]
  unfold WP.mers inV
  show (eqV (.int 2) (.int (n : Int)) || (eqV (.int 3) (.int (n : Int)) || (eqV (.int 5) (.int (n : Int)) || (eqV (.int 7) (.int (n : Int)) || (eqV (.int 13) (.int (n : Int)) || (eqV (.int 17) (.int (n : Int)) || (eqV (.int 19) (.int (n : Int)) || (eqV (.int 31) (.int (n : Int)) || (eqV (.int 61) (.int (n : Int)) || false))))))))) = _
  rw [show eqV (.int 2) (.int (n : Int)) = (n == 2) from e 2, show eqV (.int 3) (.int (n : Int)) = (n == 3) from e 3, show eqV (.int 5) (.int (n : Int)) = (n == 5) from e 5, show eqV (.int 7) (.int (n : Int)) = (n == 7) from e 7, show eqV (.int 13) (.int (n : Int)) = (n == 13) from e 13, show eqV (.int 17) (.int (n : Int)) = (n == 17) from e 17, show eqV (.int 19) (.int (n : Int)) = (n == 19) from e 19, show eqV (.int 31) (.int (n : Int)) = (n == 31) from e 31, show eqV (.int 61) (.int (n : Int)) = (n == 61) from e 61]
  rfl
abbrev s__law_prime : Stmt := top 59
abbrev N__law_prime : List Str := ["w"]
theorem sc__law_prime : FnScope N__law_prime ["w"] (defScope s__law_prime) := ⟨rfl, rfl, rfl, by decide +kernel, rfl, by decide +kernel, by decide +kernel⟩
theorem ok__law_prime (T : Txt w K mg) (D0 : DefAt K mg "_law_prime" s__law_prime)   : Cal P w K mg base CX0 1 "_law_prime" ["w"] (Pu (R__law_prime K)) := by
  refine D0.cal sc__law_prime (fun vs H Q E h => by obtain ⟨v, ⟨_, rfl, _⟩, _⟩ := h; rfl) (fun _ _ _ _ _ _ us hl => match us, hl with | [_], _ => rfl) (fun f cdv A outer s H vs Q E hr h => ?_)
  obtain ⟨v, ⟨n, rfl, rfl⟩, k⟩ := h
  have hu := hu_of hr
  refine ⟨_, (pss_one (ps_ret (pe_cmpR op_in_seq (pv 0) (pe_lst (pa_cons pe_int (pa_cons pe_int (pa_cons pe_int (pa_cons pe_int (pa_cons pe_int (pa_cons pe_int (pa_cons pe_int (pa_cons pe_int (pa_cons pe_int pa_nil)))))))))) (by rfl)))), bl_go ?_⟩
  walk_at "ret"
  rw [in_mers]
def R__law_holds (K : PySem.W.Frag) : List V → Hp → V → Prop := fun vs H v => ∃ (p : Addr) (f : Fmt) (r : Rl), vs = [.ref p, .str (rlS r)] ∧ (SqT K H p (fV f)) ∧ v = .bl (holdsB f r)
theorem r__law_holds {K : PySem.W.Frag} {H : Hp} {p : Addr} {f : Fmt} {r : Rl} (h0 : SqT K H p (fV f)) : R__law_holds K [.ref p, .str (rlS r)] H (.bl (holdsB f r)) := ⟨_, _, _, rfl, h0, rfl⟩
local macro_rules | `(tactic| walk_at "own") => `(tactic| first
  | exact r__law_do_sub0 (ex_t (by assumption) (by assumption)) (by assumption)
  | exact r__law_prime 
  | exact r__law_holds (ex_t (by assumption) (by assumption)))
abbrev s__law_holds : Stmt := top 60
abbrev N__law_holds : List Str := ["form", "rule", "w", "signs", "overflow", "division", "plain", "even", "wrap", "full", "found"]
theorem sc__law_holds : FnScope N__law_holds ["form", "rule"] (defScope s__law_holds) := ⟨rfl, rfl, rfl, by decide +kernel, rfl, by decide +kernel, by decide +kernel⟩
theorem ok__law_holds (T : Txt w K mg) (D0 : DefAt K mg "_law_holds" s__law_holds) (c__law_prime : Cal P w K mg base CX0 1 "_law_prime" ["w"] (Pu (R__law_prime K)))  : Cal P w K mg base CX0 2 "_law_holds" ["form", "rule"] (Pu (R__law_holds K)) := by
  refine D0.cal sc__law_holds (fun vs H Q E h => by obtain ⟨v, ⟨_, _, _, rfl, _⟩, _⟩ := h; rfl) (fun _ _ _ _ _ _ us hl => match us, hl with | [_, _], _ => rfl) (fun f cdv A outer s H vs Q E hr h => ?_)
  obtain ⟨v, ⟨p, ⟨w0, sg, ov, dv, h4, h64⟩, r, rfl, hf, rfl⟩, k⟩ := h
  have hu := hu_of hr
  refine ⟨_, (pss_cons (ps_asg (pv 0) (pg_tup (by rfl) (pgs_cons (pg_name (i := 2) sc__law_holds.nd rfl (Or.inl rfl)) (pgs_cons (pg_name (i := 3) sc__law_holds.nd rfl (Or.inl rfl)) (pgs_cons (pg_name (i := 4) sc__law_holds.nd rfl (Or.inl rfl)) (pgs_cons (pg_name (i := 5) sc__law_holds.nd rfl (Or.inl rfl)) pgs_nil))))))
      (pss_cons (ps_asg (pe_tup (pa_cons (pe_cmpR op_eq (pv 3) pe_str (nomark _)) (pa_cons (pe_cmpR op_eq (pv 3) pe_str (nomark _)) (pa_cons (pe_cmpR op_eq (pv 4) pe_str (nomark _)) (pa_cons (pe_cmpR op_eq (pv 4) pe_str (nomark _)) pa_nil))))) (pg_tup (by rfl) (pgs_cons (pg_name (i := 6) sc__law_holds.nd rfl (Or.inl rfl)) (pgs_cons (pg_name (i := 7) sc__law_holds.nd rfl (Or.inl rfl)) (pgs_cons (pg_name (i := 8) sc__law_holds.nd rfl (Or.inl rfl)) (pgs_cons (pg_name (i := 9) sc__law_holds.nd rfl (Or.inl rfl)) pgs_nil))))))
      (pss_cons (ps_set (i := 10) sc__law_holds.nd rfl (Or.inl rfl) (pe_disp (pps_cons pe_str (pe_or (pv 8) (pe_one (pv 6))) (pps_cons pe_str (pe_or (pv 8) (pe_one (pe_and (pv 9) (pe_one (pe_cmpR op_ne (pv 3) pe_str (nomark _)))))) pps_nil)) (by rfl) (by rfl) (fun z => by cases z) (by decide)))
      (pss_cons (ps_asg (pe_tup (pa_cons (pe_or (pv 8) (pe_one (pe_and (pv 9) (pe_one (pv 6))))) (pa_cons (pe_or (pv 7) (pe_one (pv 8))) (pa_cons (pe_or (pv 7) (pe_one (pv 8))) pa_nil)))) (pg_tup (by rfl) (pgs_cons (pg_sub (pv 10) pe_str (L2.set_dict hu)) (pgs_cons (pg_sub (pv 10) pe_str (L2.set_dict hu)) (pgs_cons (pg_sub (pv 10) pe_str (L2.set_dict hu)) pgs_nil)))))
      (pss_cons (ps_asg (pe_tup (pa_cons (pv 8) (pa_cons (pv 9) (pa_cons (pe_or (pv 6) (pe_one (pv 9))) pa_nil)))) (pg_tup (by rfl) (pgs_cons (pg_sub (pv 10) pe_str (L2.set_dict hu)) (pgs_cons (pg_sub (pv 10) pe_str (L2.set_dict hu)) (pgs_cons (pg_sub (pv 10) pe_str (L2.set_dict hu)) pgs_nil)))))
      (pss_cons (ps_dput hu (pv 10) pe_str (pe_or (pv 8) (pe_or (pe_and (pv 7) (pe_one (pe_cmpR op_eq (pv 5) pe_str (nomark _)))) (pe_one (pe_and (pv 6) (pe_one (pe_cmpR op_in_seq (pv 5) (pe_lst (pa_cons pe_str (pa_cons pe_str (pa_cons pe_str pa_nil)))) (by rfl))))))) rfl)
      (pss_cons (ps_dput hu (pv 10) pe_str (pe_or (pe_cmpR op_eq (pv 5) pe_str (nomark _)) (pe_one (pe_and (pv 6) (pe_one (pe_or (pe_cmpR op_in_seq (pv 5) (pe_lst (pa_cons pe_str (pa_cons pe_str pa_nil))) (by rfl)) (pe_one (pv 9))))))) rfl)
      (pss_cons (ps_dput hu (pv 10) pe_str (pe_or (pe_and (pv 7) (pe_one (pe_cmpR op_in_seq (pv 5) (pe_lst (pa_cons pe_str (pa_cons pe_str pa_nil))) (by rfl)))) (pe_one (pe_and (pv 6) (pe_one (pe_or (pv 9) (pe_one (pe_and (pe_cmpR op_eq (pv 4) pe_str (nomark _)) (pe_one (pe_cmpR op_eq (pv 5) pe_str (nomark _)))))))))) rfl)
      (pss_cons (ps_dput hu (pv 10) pe_str (pe_or (pe_cmpR op_in_seq (pv 5) (pe_lst (pa_cons pe_str (pa_cons pe_str pa_nil))) (by rfl)) (pe_one (pe_and (pv 6) (pe_one (pe_cmpR op_eq (pv 5) pe_str (nomark _)))))) rfl)
      (pss_cons (ps_asg (pe_tup (pa_cons (pe_or (pe_cmpR op_ne (pv 3) pe_str (nomark _)) (pe_one (pv 9))) (pa_cons (pe_and (pv 9) (pe_one (pe_not (pv 6)))) pa_nil))) (pg_tup (by rfl) (pgs_cons (pg_sub (pv 10) pe_str (L2.set_dict hu)) (pgs_cons (pg_sub (pv 10) pe_str (L2.set_dict hu)) pgs_nil))))
      (pss_cons (ps_dput hu (pv 10) pe_str (pe_or (pv 9) (pe_one (pe_and (pv 6) (pe_one (pv 8))))) rfl)
      (pss_cons (ps_dput hu (pv 10) pe_str (pe_or (pe_not (pv 8)) (pe_one (pe_and (pv 7) (pe_one (pe_own c__law_prime (hr.mono (by decide)) rfl pass0 (pa_cons (pv 2) pa_nil)))))) rfl)
      (pss_cons (ps_dput hu (pv 10) pe_str (pe_and (pv 8) (pe_and (pv 7) (pe_one (pe_own c__law_prime (hr.mono (by decide)) rfl pass0 (pa_cons (pv 2) pa_nil))))) rfl)
      (pss_one (ps_ret (pe_dget hu (pv 10) (pv 1) (fun _ _ => rfl))))))))))))))))), bl_go ?_⟩
  apply bl_unp4 (hx := hf)
  · walk_at "ev"
  · rfl
  apply bl_asgU
  · apply eu_tup
    · walk_at "ea"
    · exact Nat.le_of_ble_eq_true rfl
  intro q H1 hq e1 hx1
  refine ⟨q, _, rfl, st_of hx1, rfl, _, _, rfl, _, _, rfl, _, _, rfl, _, _, rfl, rfl, ?_⟩
  apply bl_go
  apply bl_setD
  · apply ed_disp
    · walk_at "dp"
    · exact Nat.le_of_ble_eq_true rfl
  intro d H2 hd e2 hx2
  have dn : H d = none := fresh_back e1 hd
  have F0 := Fil.start (H := H) (d := d) (H1 := H2) (ks := ["sum grouping", "product grouping"]) (vs := [_, _]) (e1.trans e2) hx2 (Nat.le_of_ble_eq_true rfl) (fun p hp => by
    rcases List.mem_cons.mp hp with rfl | hp
    · rfl
    · rw [List.mem_singleton.mp hp]; rfl)
  change Bl _ _ ([some (.ref p), some (.str (rlS r)), some (.int (w0 : Int)), some (.str (sgS sg)), some (.str (ovS ov)), some (.str (dvS dv)), some (.bl (decide (V.str (sgS sg) = V.str "unsigned"))), some (.bl (decide (V.str (sgS sg) = V.str "symmetric"))), some (.bl (decide (V.str (ovS ov) = V.str "wrap"))), some (.bl (decide (V.str (ovS ov) = V.str "saturate"))), some (.ref d)] : L2.St) _
  refine bl_fput3 F0 dn rfl (eu_tup (by walk_at "ea") (Nat.le_of_ble_eq_true rfl)) (by decide +kernel) (by decide +kernel) (by decide +kernel) (Nat.lt_of_sub_eq_succ rfl) (fun G1 F1 => ?_)
  refine bl_fput3 F1 dn rfl (eu_tup (by walk_at "ea") (Nat.le_of_ble_eq_true rfl)) (by decide +kernel) (by decide +kernel) (by decide +kernel) (Nat.lt_of_sub_eq_succ rfl) (fun G2 F2 => ?_)
  refine bl_fput F2 dn (by walk_at "ev") (ev_var rfl) ev_c (by decide +kernel) (Nat.lt_of_sub_eq_succ rfl) (fun G3 F3 => ?_)
  refine bl_fput F3 dn (by walk_at "ev") (ev_var rfl) ev_c (by decide +kernel) (Nat.lt_of_sub_eq_succ rfl) (fun G4 F4 => ?_)
  refine bl_fput F4 dn (by walk_at "ev") (ev_var rfl) ev_c (by decide +kernel) (Nat.lt_of_sub_eq_succ rfl) (fun G5 F5 => ?_)
  refine bl_fput F5 dn (by walk_at "ev") (ev_var rfl) ev_c (by decide +kernel) (Nat.lt_of_sub_eq_succ rfl) (fun G6 F6 => ?_)
  refine bl_fput2 F6 dn rfl (eu_tup (by walk_at "ea") (Nat.le_of_ble_eq_true rfl)) (by decide +kernel) (by decide +kernel) (Nat.lt_of_sub_eq_succ rfl) (fun G7 F7 => ?_)
  refine bl_fput F7 dn (by walk_at "ev") (ev_var rfl) ev_c (by decide +kernel) (Nat.lt_of_sub_eq_succ rfl) (fun G8 F8 => ?_)
  refine bl_fput F8 dn (by walk_at "ev") (ev_var rfl) ev_c (by decide +kernel) (Nat.lt_of_sub_eq_succ rfl) (fun G9 F9 => ?_)
  refine bl_fput F9 dn (by walk_at "ev") (ev_var rfl) ev_c (by decide +kernel) (Nat.lt_of_sub_eq_succ rfl) (fun G10 F10 => ?_)
  cases r
  · refine bl_retE (fil_get (z := "sum grouping") F10 (ev_var rfl) (ev_var rfl) (List.mem_of_getElem? (i := 15) rfl)) (fun H3 e3 => k H3 (F10.ex.trans e3)) ?_
    refine congrArg V.bl ?_
    cases sg <;> cases ov <;> rfl
  · refine bl_retE (fil_get (z := "product grouping") F10 (ev_var rfl) (ev_var rfl) (List.mem_of_getElem? (i := 16) rfl)) (fun H3 e3 => k H3 (F10.ex.trans e3)) ?_
    refine congrArg V.bl ?_
    cases sg <;> cases ov <;> rfl
  · refine bl_retE (fil_get (z := "distribution") F10 (ev_var rfl) (ev_var rfl) (List.mem_of_getElem? (i := 14) rfl)) (fun H3 e3 => k H3 (F10.ex.trans e3)) ?_
    refine congrArg V.bl ?_
    cases sg <;> cases ov <;> rfl
  · refine bl_retE (fil_get (z := "double negation") F10 (ev_var rfl) (ev_var rfl) (List.mem_of_getElem? (i := 13) rfl)) (fun H3 e3 => k H3 (F10.ex.trans e3)) ?_
    refine congrArg V.bl ?_
    cases sg <;> cases ov <;> rfl
  · refine bl_retE (fil_get (z := "difference") F10 (ev_var rfl) (ev_var rfl) (List.mem_of_getElem? (i := 12) rfl)) (fun H3 e3 => k H3 (F10.ex.trans e3)) ?_
    refine congrArg V.bl ?_
    cases sg <;> cases ov <;> rfl
  · refine bl_retE (fil_get (z := "add back") F10 (ev_var rfl) (ev_var rfl) (List.mem_of_getElem? (i := 11) rfl)) (fun H3 e3 => k H3 (F10.ex.trans e3)) ?_
    refine congrArg V.bl ?_
    cases sg <;> cases ov <;> rfl
  · refine bl_retE (fil_get (z := "division") F10 (ev_var rfl) (ev_var rfl) (List.mem_of_getElem? (i := 8) rfl)) (fun H3 e3 => k H3 (F10.ex.trans e3)) ?_
    refine congrArg V.bl ?_
    cases sg <;> cases ov <;> cases dv <;> rfl
  · refine bl_retE (fil_get (z := "remainder range") F10 (ev_var rfl) (ev_var rfl) (List.mem_of_getElem? (i := 7) rfl)) (fun H3 e3 => k H3 (F10.ex.trans e3)) ?_
    refine congrArg V.bl ?_
    cases sg <;> cases ov <;> cases dv <;> rfl
  · refine bl_retE (fil_get (z := "negated quotient") F10 (ev_var rfl) (ev_var rfl) (List.mem_of_getElem? (i := 6) rfl)) (fun H3 e3 => k H3 (F10.ex.trans e3)) ?_
    refine congrArg V.bl ?_
    cases sg <;> cases ov <;> cases dv <;> rfl
  · refine bl_retE (fil_get (z := "shift") F10 (ev_var rfl) (ev_var rfl) (List.mem_of_getElem? (i := 5) rfl)) (fun H3 e3 => k H3 (F10.ex.trans e3)) ?_
    refine congrArg V.bl ?_
    cases sg <;> cases ov <;> cases dv <;> rfl
  · refine bl_retE (fil_get (z := "absolute value") F10 (ev_var rfl) (ev_var rfl) (List.mem_of_getElem? (i := 4) rfl)) (fun H3 e3 => k H3 (F10.ex.trans e3)) ?_
    refine congrArg V.bl ?_
    cases sg <;> cases ov <;> rfl
  · refine bl_retE (fil_get (z := "order by difference") F10 (ev_var rfl) (ev_var rfl) (List.mem_of_getElem? (i := 3) rfl)) (fun H3 e3 => k H3 (F10.ex.trans e3)) ?_
    refine congrArg V.bl ?_
    cases sg <;> cases ov <;> rfl
  · refine bl_retE (fil_get (z := "monotone sum") F10 (ev_var rfl) (ev_var rfl) (List.mem_of_getElem? (i := 10) rfl)) (fun H3 e3 => k H3 (F10.ex.trans e3)) ?_
    refine congrArg V.bl ?_
    cases sg <;> cases ov <;> rfl
  · refine bl_retE (fil_get (z := "average") F10 (ev_var rfl) (ev_var rfl) (List.mem_of_getElem? (i := 9) rfl)) (fun H3 e3 => k H3 (F10.ex.trans e3)) ?_
    refine congrArg V.bl ?_
    cases sg <;> cases ov <;> rfl
  · refine bl_retE (fil_get (z := "square") F10 (ev_var rfl) (ev_var rfl) (List.mem_of_getElem? (i := 2) rfl)) (fun H3 e3 => k H3 (F10.ex.trans e3)) ?_
    refine congrArg V.bl ?_
    cases sg <;> cases ov <;> rfl
  · refine bl_retE (fil_get (z := "zero product") F10 (ev_var rfl) (ev_var rfl) (List.mem_of_getElem? (i := 1) rfl)) (fun H3 e3 => k H3 (F10.ex.trans e3)) ?_
    refine congrArg V.bl ?_
    cases sg <;> cases ov <;> rfl
  · refine bl_retE (fil_get (z := "cancellation") F10 (ev_var rfl) (ev_var rfl) (List.mem_of_getElem? (i := 0) rfl)) (fun H3 e3 => k H3 (F10.ex.trans e3)) ?_
    refine congrArg V.bl ?_
    cases sg <;> cases ov <;> rfl

def R__law_alike (K : PySem.W.Frag) : List V → Hp → V → Prop := fun vs H v => ∃ (u : V), vs = [u, u] ∧ (flatV u = true) ∧ v = .bl true
theorem r__law_alike {K : PySem.W.Frag} {H : Hp} {u : V} (h0 : flatV u = true) : R__law_alike K [u, u] H (.bl true) := ⟨_, rfl, h0, rfl⟩
abbrev s__law_alike : Stmt := top 56
abbrev N__law_alike : List Str := ["found", "due", "k"]
theorem sc__law_alike : FnScope N__law_alike ["found", "due"] (defScope s__law_alike) := ⟨rfl, rfl, rfl, by decide +kernel, rfl, by decide +kernel, by decide +kernel⟩
theorem ok__law_alike (T : Txt w K mg) (D0 : DefAt K mg "_law_alike" s__law_alike)   : Cal P w K mg base CX0 1 "_law_alike" ["found", "due"] (Pu (R__law_alike K)) := by
  refine D0.cal sc__law_alike (fun vs H Q E h => by obtain ⟨v, ⟨_, rfl, _⟩, _⟩ := h; rfl) (fun _ _ _ _ _ _ us hl => match us, hl with | [_, _], _ => rfl) (fun f cdv A outer s H vs Q E hr h => ?_)
  obtain ⟨v0, ⟨u, rfl, hv, rfl⟩, k⟩ := h
  have hu := hu_of hr
  refine ⟨_, (pss_cons (ps_if (pt_val (pe_callB call_isiT (by rfl) T.n_isinstance (by decide +kernel) (pa_cons (pv 1) (pa_cons (pe_tup (pa_cons (pe_bltn (v := .ty "tuple") (by rfl) T.n_tuple (by decide +kernel) rfl) (pa_cons (pe_bltn (v := .ty "list") (by rfl) T.n_list (by decide +kernel) rfl) pa_nil))) pa_nil)))) pss_never pss_nil)
      (pss_cons (ps_if (PW.pt (pw_or (pt_cmpR op_isN (pv 1) pe_non (nomark _)) (pw_or1 (pt_val (pe_callB call_isi (by rfl) T.n_isinstance (by decide +kernel) (pa_cons (pv 1) (pa_cons (pe_bltn (v := .ty "str") (by rfl) T.n_str (by decide +kernel) rfl) pa_nil))))))) (pss_one (ps_ret (pe_and (pe_cmpR op_eq (pv 0) (pv 1) (nomark _)) (pe_one (pe_cmpR op_eq (pe_callB call_isi (by rfl) T.n_isinstance (by decide +kernel) (pa_cons (pv 0) (pa_cons (pe_bltn (v := .ty "str") (by rfl) T.n_str (by decide +kernel) rfl) pa_nil))) (pe_callB call_isi (by rfl) T.n_isinstance (by decide +kernel) (pa_cons (pv 1) (pa_cons (pe_bltn (v := .ty "str") (by rfl) T.n_str (by decide +kernel) rfl) pa_nil))) (nomark _)))))) pss_nil)
      (pss_one (ps_ret (pe_and (pe_callB call_isi (by rfl) T.n_isinstance (by decide +kernel) (pa_cons (pv 0) (pa_cons (pe_bltn (v := .ty "int") (by rfl) T.n_int (by decide +kernel) rfl) pa_nil))) (pe_and (pe_cmpR op_eq (pe_callB call_isi (by rfl) T.n_isinstance (by decide +kernel) (pa_cons (pv 0) (pa_cons (pe_bltn (v := .ty "bool") (by rfl) T.n_bool (by decide +kernel) rfl) pa_nil))) (pe_callB call_isi (by rfl) T.n_isinstance (by decide +kernel) (pa_cons (pv 1) (pa_cons (pe_bltn (v := .ty "bool") (by rfl) T.n_bool (by decide +kernel) rfl) pa_nil))) (nomark _)) (pe_one (pe_cmpR op_eq (pv 0) (pv 1) (nomark _))))))))), bl_go ?_⟩
  cases u with
  | non =>
    walk_at "no"
    walk_at "yes"
    walk_at "ret"
    rfl
  | bl b =>
    walk_at "no"
    walk_at "no"
    walk_at "ret"
    simp
  | int i =>
    walk_at "no"
    walk_at "no"
    walk_at "ret"
    simp
  | str z =>
    walk_at "no"
    walk_at "yes"
    walk_at "ret"
    simp
  | _ => cases hv
def R_aliket (K : PySem.W.Frag) : List V → Hp → V → Prop := fun vs H v => ∃ (p q : Addr) (xs : List V), vs = [.ref p, .ref q] ∧ SqT K H p xs ∧ SqT K H q xs ∧ (∀ x ∈ xs, flatV x = true) ∧ xs.length ≤ 40000 ∧ v = .bl true
theorem okt__law_alike (T : Txt w K mg) (D0 : DefAt K mg "_law_alike" s__law_alike) (c__law_alike : Cal P w K mg base CX0 1 "_law_alike" ["found", "due"] (Pu (R__law_alike K))) : Cal P w K mg base CX0 2 "_law_alike" ["found", "due"] (Pu (R_aliket K)) := by
  refine D0.cal sc__law_alike (fun vs H Q E h => by obtain ⟨v, ⟨_, _, _, rfl, _⟩, _⟩ := h; rfl) (fun _ _ _ _ _ _ us hl => match us, hl with | [_, _], _ => rfl) (fun f cdv A outer s H vs Q E hr h => ?_)
  obtain ⟨v, ⟨p, q, xs, rfl, hp, hq, hf, hn, rfl⟩, k⟩ := h
  have hu := hu_of hr
  refine ⟨_, (pss_cons (ps_if (pt_val (pe_callB call_isiT (by rfl) T.n_isinstance (by decide +kernel) (pa_cons (pv 1) (pa_cons (pe_tup (pa_cons (pe_bltn (v := .ty "tuple") (by rfl) T.n_tuple (by decide +kernel) rfl) (pa_cons (pe_bltn (v := .ty "list") (by rfl) T.n_list (by decide +kernel) rfl) pa_nil))) pa_nil)))) (pss_cons (ps_if (PW.pt (pw_or (pt_not (pt_val (pe_callB call_isiT (by rfl) T.n_isinstance (by decide +kernel) (pa_cons (pv 0) (pa_cons (pe_tup (pa_cons (pe_bltn (v := .ty "tuple") (by rfl) T.n_tuple (by decide +kernel) rfl) (pa_cons (pe_bltn (v := .ty "list") (by rfl) T.n_list (by decide +kernel) rfl) pa_nil))) pa_nil))))) (pw_or1 (pt_cmpR op_ne (pe_callB call_isi (by rfl) T.n_isinstance (by decide +kernel) (pa_cons (pv 0) (pa_cons (pe_bltn (v := .ty "list") (by rfl) T.n_list (by decide +kernel) rfl) pa_nil))) (pe_callB call_isi (by rfl) T.n_isinstance (by decide +kernel) (pa_cons (pv 1) (pa_cons (pe_bltn (v := .ty "list") (by rfl) T.n_list (by decide +kernel) rfl) pa_nil))) (nomark _))))) (pss_one (ps_ret pe_bl)) pss_nil)
      (pss_cons (ps_if (pt_cmpR op_ne (pe_callB call_len_seq (by rfl) T.n_len (by decide +kernel) (pa_cons (pv 0) pa_nil)) (pe_callB call_len_seq (by rfl) T.n_len (by decide +kernel) (pa_cons (pv 1) pa_nil)) (nomark _)) (pss_one (ps_ret pe_bl)) pss_nil)
      (pss_one (ps_ret (pe_cmpR (op_eqD hr.units) (pe_lc (own := [("k", 2)]) (g := gName 2) (by rfl) sc__law_alike.nd (pi_range1 rfl T.n_range (pa_cons (pe_callB call_len_seq (by rfl) T.n_len (by decide +kernel) (pa_cons (pv 1) pa_nil)) pa_nil)) (blkOk_by (own := [("k", 2)]) (N := N__law_alike) (sc := defScope s__law_alike) (by decide +kernel)) (fun _ _ _ _ _ => pg_name (i := 2) sc__law_alike.nd rfl (Or.inl rfl)) (fun _ _ _ _ _ => pts_one (pt_not (pt_val (pe_own c__law_alike (hr.mono (by decide)) rfl pass0 (pa_cons (pe_ix (r := rIxT K) ix_tup (pv 0) (pv 2) (fun _ _ => rfl)) (pa_cons (pe_ix (r := rIxT K) ix_tup (pv 1) (pv 2) (fun _ _ => rfl)) pa_nil)))))) (fun _ _ _ _ _ => (pv 2))) (pe_lst pa_nil) (nomark _)))))) pss_nil) pss_never), bl_go ?_⟩
  refine bl_if (b := true) (et_B (ev_isTT (ev_var rfl) hq)) (fun _ => ?_) (fun z => by cases z)
  refine bl_when (b := false) ?_ (fun z => by cases z) (fun _ => ?_)
  · refine et_is (et_or (a := false) (b := false) (et_is (et_not (et_B (ev_isTT (ev_var rfl) hp))) rfl) (fun _ => ?_)) rfl
    walk_at "et"
  refine bl_when (b := false) ?_ (fun z => by cases z) (fun _ => ?_)
  · refine et_is (b := false) (a := !decide (V.int (xs.length : Int) = V.int (xs.length : Int))) (by walk_at "et") (by simp)
  refine bl_retE (v := .bl true) (nil_eq (el_is (el_lcR1 (n := (xs.length : Int)) (fun _ => false) (fun i => .int i) (by walk_at "ea") (by omega) (fun x => rfl) (fun i H1 e1 hi => ?_) (fun i H1 e1 hi z => by cases z)) (given_nil fun i _ => rfl))) k rfl
  have hi' : i < xs.length := by omega
  have ha : atI xs (i : Int) = some xs[i] := atI_nat (List.getElem?_eq_getElem hi')
  have fl : flatV xs[i] = true := hf _ (List.getElem_mem hi')
  have e : EvT (tNot (tB (tCall (Pu (R__law_alike K)) [] E0 (tCons (tOp (rIxT K) (tVar 0) (tVar 2)) (tCons (tOp (rIxT K) (tVar 1) (tVar 2)) tNil))))) [some (.ref p), some (.ref q), some (.int (i : Int))] H1 false :=
    et_is (et_not (et_B (ev_own (ea_cons (ev_op (ev_var rfl) (ev_var rfl) (rv_ixT (ex_t e1 hp) ha)) (ea_cons (ev_op (ev_var rfl) (ev_var rfl) (rv_ixT (ex_t e1 hq) ha)) ea_nil)) (fun H2 e2 => r__law_alike fl)))) rfl
  exact e
end
end KC

set_option maxHeartbeats 4000000
namespace KC
open PySem PySem.Spec PyProof.Rows L2 Evl WM WL WLam WX WT WU StX LamX
local macro_rules | `(tactic| walk_at "ev") => `(tactic| first
  | exact ev_c
  | exact ev_var rfl
  | ((with_reducible apply ev_op); (walk_at "ev"); (walk_at "ev"); (walk_at "rv"))
  | ((with_reducible apply ev_un); (walk_at "ev"); exact ru_neg)
  | ((with_reducible apply ev_notV); (walk_at "ev"))
  | ((with_reducible apply ev_andV); (walk_at "ev"); (intro _; walk_at "ev"))
  | ((with_reducible apply ev_orV); (walk_at "ev"); (intro _; walk_at "ev"))
  | ((with_reducible apply ev_ifT); (walk_at "et"); (exact rfl); (walk_at "ev"))
  | ((with_reducible apply ev_ifF); (walk_at "et"); (exact rfl); (walk_at "ev"))
  | ((with_reducible apply ev_ifB); (walk_at "et"); (intro _; walk_at "ev"); (intro _; walk_at "ev"))
  | ((with_reducible apply ev_chainI); (walk_at "ev"); (walk_at "ev"); (walk_at "ev"))
  | ((with_reducible apply ev_own); (walk_at "ea"); (intro _ _; walk_at "own"))
  | ((with_reducible apply ev_ddS); (walk_at "dp"); (exact Nat.le_of_ble_eq_true rfl); (walk_at "ev"); (exact rfl))
  | ((with_reducible apply ev_isiT); (walk_at "ev"); (walk_at "ea"); (walk_at "isiT"))
  | ((with_reducible apply ev_cb); (walk_at "ea"); (walk_at "rc")))
local macro_rules | `(tactic| walk_at "dp") => `(tactic| first
  | exact Paired.nil
  | ((with_reducible apply dp_cons); (exact ev_c); (walk_at "ev"); (walk_at "dp")))
local macro_rules | `(tactic| walk_at "ea") => `(tactic| first
  | exact ea_nil
  | ((with_reducible apply ea_cons); (walk_at "ev"); (walk_at "ea")))
local macro_rules | `(tactic| walk_at "et") => `(tactic| first
  | ((with_reducible apply et_test); (walk_at "ev"))
  | ((with_reducible apply et_B); (walk_at "ev"))
  | ((with_reducible apply et_not); (walk_at "et"))
  | ((with_reducible apply et_and); (walk_at "et"); (intro _; walk_at "et"))
  | ((with_reducible apply et_or); (walk_at "et"); (intro _; walk_at "et")))
local macro_rules | `(tactic| walk_at "rv") => `(tactic| first
  | exact rv_I0
  | exact rv_eq rfl
  | exact rv_ne rfl
  | exact rv_isT (by assumption) rfl rfl
  | exact rv_niT (by assumption) rfl rfl
  | exact rv_isL (by assumption) rfl rfl
  | exact rv_niL (by assumption) rfl rfl
  | exact rv_ixT (by assumption) rfl
  | exact rv_ixL (by assumption) rfl
  | exact rv_ixL (by assumption) (by assumption)
  | (apply rv_I; (walk_at "side")))
local macro_rules | `(tactic| walk_at "side") => `(tactic| first
  | assumption
  | (refine And.intro ?_ (And.intro ?_ ?_) <;> (try dsimp only) <;> first | omega | decide)
  | (dsimp only; omega)
  | omega)
local macro_rules | `(tactic| walk_at "rc") => `(tactic| first
  | exact rc_abs | exact rc_max2 | exact rc_min2 | exact rc_int | exact rc_intB
  | exact rc_isi_int (b := true) (by decide +kernel)
  | exact rc_isi_int (b := false) (by decide +kernel)
  | exact rc_isi_bl (b := true) (by decide +kernel)
  | exact rc_isi_bl (b := false) (by decide +kernel)
  | exact rc_isi_str (b := true) (by decide +kernel)
  | exact rc_isi_str (b := false) (by decide +kernel)
  | exact rc_isi_T (b := true) (by assumption) (by decide +kernel)
  | exact rc_isi_T (b := false) (by assumption) (by decide +kernel)
  | exact rc_lenT (by assumption)
  | exact rc_lenL (by assumption))
local macro_rules | `(tactic| walk_at "set") => `(tactic| ((with_reducible apply bl_set); (walk_at "ev")))
local macro_rules | `(tactic| walk_at "drop") => `(tactic| ((with_reducible apply bl_drop); (walk_at "ev")))
local macro_rules | `(tactic| walk_at "par") => `(tactic| ((with_reducible apply bl_par); (walk_at "ea")))
local macro_rules | `(tactic| walk_at "if") => `(tactic| ((with_reducible apply bl_when); (walk_at "et")))
local macro_rules | `(tactic| walk_at "no") => `(tactic| ((with_reducible apply bl_when); (walk_at "et"); (intro h; exact absurd (show false = true from h) (by decide)); (intro _)))
local macro_rules | `(tactic| walk_at "yes") => `(tactic| ((with_reducible apply bl_when); (walk_at "et"); rotate_left; (intro h; exact absurd (show true = false from h) (by decide)); (intro _)))
local macro_rules | `(tactic| walk_at "ret") => `(tactic| ((with_reducible apply bl_retE); rotate_left; assumption; rotate_right; (walk_at "ev")))
local macro_rules | `(tactic| walk_at "absurd") => `(tactic| first | exact absurd (show false = true from (by assumption)) (by decide) | exact absurd (show true = false from (by assumption)) (by decide))
local macro_rules | `(tactic| walk_at "rv") => `(tactic| first | exact rv_isN (s := []) | exact rv_notKD (by assumption) | exact rv_inKD (by assumption) | exact rv_ixKD (by assumption))
local macro_rules | `(tactic| walk_at "isiT") => `(tactic| ((exact Nat.le_of_ble_eq_true rfl); (exact .cons (.ty _) (.cons (.ty _) .nil)); (first | exact fun _ _ => .base (.int _) | exact fun _ _ => .base (.bl _) | exact fun _ _ => .base (.str _) | exact fun _ _ => .base .non); (exact kitAny_no (by decide +kernel) (by decide +kernel))))
local macro_rules | `(tactic| walk_at "rc") => `(tactic| first | exact rc_isi_non (b := true) (by decide +kernel) | exact rc_isi_non (b := false) (by decide +kernel))
local macro_rules | `(tactic| walk_at "eu") => `(tactic| first
  | ((with_reducible apply eu_own); (walk_at "ea"); (intro _ _; walk_at "own"))
  | ((with_reducible apply eu_tup); (walk_at "ea"); (exact Nat.le_of_ble_eq_true rfl)))
local macro_rules | `(tactic| walk_at "ev") => `(tactic| ((with_reducible apply ev_own1U); (walk_at "eu"); (walk_at "ea"); (intro _ _ _ _; walk_at "own1")))
local macro_rules | `(tactic| walk_at "isr") => `(tactic| first | with_reducible exact isr_r | with_reducible exact isr_i | ((with_reducible apply isr_if) <;> (walk_at "isr")))
local macro_rules | `(tactic| walk_at "osm") => `(tactic| first | with_reducible assumption | with_reducible exact osm_add | with_reducible exact osm_sub | with_reducible exact osm_mul | with_reducible exact osm_dvo | with_reducible exact osm_neg | with_reducible exact osm_rem | with_reducible exact osm_do | with_reducible exact osm_div | with_reducible exact osm_fit | ((with_reducible apply osm); assumption) | ((with_reducible apply osm); exact (show (0 : Int).natAbs < 2 ^ 70 by decide)) | ((with_reducible apply osm); exact (show (2 : Int).natAbs < 2 ^ 70 by decide)) | ((with_reducible apply osm_if) <;> (walk_at "osm")))
local macro_rules | `(tactic| walk_at "ev") => `(tactic| first
  | ((with_reducible apply ev_inLst); (walk_at "ev"); (walk_at "ea"); (exact Nat.le_of_ble_eq_true rfl); (exact rfl); (first | exact rfl | simp [flatV])))
local macro_rules | `(tactic| walk_at "rv") => `(tactic| first | exact rv_eq scal_rv | exact rv_ne scal_rv | exact rv_eq (scal_rv (y := some _)) | exact rv_ne (scal_rv (y := some _)) | exact rv_eq (scal_rv (y := none)) | exact rv_ne (scal_rv (y := none)))
local macro_rules | `(tactic| walk_at "nz") => `(tactic| first | with_reducible assumption | ((with_reducible apply nz_i); (first | assumption | decide)))
local macro_rules | `(tactic| walk_at "ev") => `(tactic| ((with_reducible apply ev_inU); (walk_at "ev"); (walk_at "eu"); (exact rfl); (exact rfl)))
section
variable {P : Program} {w : World} {K : PySem.W.Frag} {mg : Str → Option Value} {base : Heap}
local macro_rules | `(tactic| walk_at "own") => `(tactic| first
  | exact r_is_whole (by first | assumption | exact .int _ | exact Wh.ex (by assumption) (by assumption))
  | exact r_are_choices 
  | exact r_is_format (ex_t (by assumption) (by assumption))
  | exact r_check_format (ex_t (by assumption) (by assumption))
  | exact r_is_rule 
  | exact r_check_rule 
  | exact r_rules
  | exact r__check_exponent (by assumption) (by assumption)
  | exact r__passes_lucas_lehmer (by assumption) (by assumption) (by assumption)
  | exact r_is_mersenne (by assumption) (by assumption)
  | exact r__sum_grouping 
  | exact r__product_grouping 
  | exact r__distribution 
  | exact r__negatives 
  | exact r__add_back 
  | exact r__division 
  | exact r__remainder_range 
  | exact r__negated_quotient 
  | exact r__shift 
  | exact r__absolute_value 
  | exact r__order_by_difference 
  | exact r__monotone_sum 
  | exact r__average 
  | exact r__square 
  | exact r__zero_product 
  | exact r__cancellation 
  | exact r_meets_condition (ex_t (by assumption) (by assumption))
  | exact r_profile (ex_t (by assumption) (by assumption))
  | exact r_implies 
  | exact r__law_do_sub0 (ex_t (by assumption) (by assumption)) (by assumption)
  | exact r__law_prime 
  | exact r__law_holds (ex_t (by assumption) (by assumption))
  | exact r__law_alike (by assumption))
def R__law_profile (K : PySem.W.Frag) : List V → Hp → List V → Prop := fun vs H xs => ∃ (p : Addr) (f : Fmt), vs = [.ref p] ∧ (SqT K H p (fV f)) ∧ xs = WJ.profV f
theorem r__law_profile {K : PySem.W.Frag} {H : Hp} {p : Addr} {f : Fmt} (h0 : SqT K H p (fV f)) : R__law_profile K [.ref p] H (WJ.profV f) := ⟨_, _, rfl, h0, rfl⟩
local macro_rules | `(tactic| walk_at "own") => `(tactic| first
  | exact r_is_whole (by first | assumption | exact .int _ | exact Wh.ex (by assumption) (by assumption))
  | exact r_are_choices 
  | exact r_is_format (ex_t (by assumption) (by assumption))
  | exact r_check_format (ex_t (by assumption) (by assumption))
  | exact r_is_rule 
  | exact r_check_rule 
  | exact r_rules
  | exact r__check_exponent (by assumption) (by assumption)
  | exact r__passes_lucas_lehmer (by assumption) (by assumption) (by assumption)
  | exact r_is_mersenne (by assumption) (by assumption)
  | exact r__sum_grouping 
  | exact r__product_grouping 
  | exact r__distribution 
  | exact r__negatives 
  | exact r__add_back 
  | exact r__division 
  | exact r__remainder_range 
  | exact r__negated_quotient 
  | exact r__shift 
  | exact r__absolute_value 
  | exact r__order_by_difference 
  | exact r__monotone_sum 
  | exact r__average 
  | exact r__square 
  | exact r__zero_product 
  | exact r__cancellation 
  | exact r_meets_condition (ex_t (by assumption) (by assumption))
  | exact r_profile (ex_t (by assumption) (by assumption))
  | exact r_implies 
  | exact r__law_do_sub0 (ex_t (by assumption) (by assumption)) (by assumption)
  | exact r__law_prime 
  | exact r__law_holds (ex_t (by assumption) (by assumption))
  | exact r__law_alike (by assumption)
  | exact r__law_profile (ex_t (by assumption) (by assumption))
  | exact ⟨rfl, rfl⟩)
abbrev s__law_profile : Stmt := top 62
abbrev N__law_profile : List Str := ["form", "rule"]
theorem sc__law_profile : FnScope N__law_profile ["form"] (defScope s__law_profile) := ⟨rfl, rfl, rfl, by decide +kernel, rfl, by decide +kernel, by decide +kernel⟩
theorem ok__law_profile (T : Txt w K mg) (D0 : DefAt K mg "_law_profile" s__law_profile) (c__law_holds : Cal P w K mg base CX0 2 "_law_holds" ["form", "rule"] (Pu (R__law_holds K))) (c__law_rules : Cal P w K mg base CX0 1 "_law_rules" [] (PuL (fun vs _ xs => vs = [] ∧ xs = rlV)))  : Cal P w K mg base CX0 3 "_law_profile" ["form"] (PuT (R__law_profile K)) := by
  refine D0.cal sc__law_profile (fun vs H Q E h => by obtain ⟨xs, ⟨_, _, rfl, _⟩, _⟩ := h; rfl) (fun _ _ _ _ _ _ us hl => match us, hl with | [_], _ => rfl) (fun f cdv A outer s H vs Q E hr h => ?_)
  obtain ⟨v, ⟨p, f, rfl, hf, rfl⟩, k⟩ := h
  have hu := hu_of hr
  refine ⟨_, (pss_one (ps_ret (pe_callTy call_tuple_of (by rfl) T.n_tuple (by decide +kernel) (pa_cons (pe_lc (own := [("rule", 1)]) (g := gName 1) (by rfl) sc__law_profile.nd (pi_list (pe_own0 c__law_rules (hr.mono (by decide)) rfl pass0)) (blkOk_by (own := [("rule", 1)]) (N := N__law_profile) (sc := defScope s__law_profile) (by decide +kernel)) (fun _ _ _ _ _ => pg_name (i := 1) sc__law_profile.nd rfl (Or.inl rfl)) (fun _ _ _ _ _ => pts_one (pt_val (pe_own c__law_holds (hr.mono (by decide)) rfl pass0 (pa_cons (pv 0) (pa_cons (pv 1) pa_nil))))) (fun _ _ _ _ _ => (pv 1))) pa_nil)))), bl_go ?_⟩
  refine bl_retUE (eu_tupOf (WU.el_is (el_lcNL (xs := rlV) (fun i => (allRl[i]?.map fun r => holdsB f r).getD false) (fun i => (allRl[i]?.map fun r => V.str (rlS r)).getD .non) (el_own ea_nil (fun _ _ => ⟨rfl, rfl⟩)) (Nat.le_of_ble_eq_true rfl) (fun x => rfl) (fun i x H1 e1 hi => ?_) (fun i x H1 e1 hi hb => ?_)) ?_)) k rfl
  · obtain ⟨r, hr, rfl⟩ := WJ.at_map hi
    rw [hr]
    exact et_B (ev_own (by walk_at "ea") (fun _ e2 => r__law_holds (ex_t (e1.trans e2) hf)))
  · obtain ⟨r, hr, rfl⟩ := WJ.at_map hi
    rw [hr]
    exact ev_var rfl
  · exact WJ.given_filt allRl (fun r => holdsB f r) (fun r => V.str (rlS r))
abbrev Tx : Type := Addr × List Str
def rfs (N : List Tx) : List V := N.map fun q => V.ref q.1
def R_aliktt (K : PySem.W.Frag) : List V → Hp → V → Prop := fun vs H v => ∃ (p q : Addr) (N O : List Tx), vs = [.ref p, .ref q] ∧ SqT K H p (rfs N) ∧ SqT K H q (rfs O) ∧ (∀ a ∈ N, SqT K H a.1 (a.2.map V.str)) ∧ (∀ a ∈ O, SqT K H a.1 (a.2.map V.str)) ∧ N.map (·.2) = O.map (·.2) ∧ (∀ a ∈ N, a.2.length ≤ 40000) ∧ N.length ≤ 40000 ∧ v = .bl true
theorem oktt__law_alike (T : Txt w K mg) (D0 : DefAt K mg "_law_alike" s__law_alike) (ct__law_alike : Cal P w K mg base CX0 2 "_law_alike" ["found", "due"] (Pu (R_aliket K))) : Cal P w K mg base CX0 3 "_law_alike" ["found", "due"] (Pu (R_aliktt K)) := by
  refine D0.cal sc__law_alike (fun vs H Q E h => by obtain ⟨v, ⟨_, _, _, _, rfl, _⟩, _⟩ := h; rfl) (fun _ _ _ _ _ _ us hl => match us, hl with | [_, _], _ => rfl) (fun f cdv A outer s H vs Q E hr h => ?_)
  obtain ⟨v, ⟨p, q, N, O, rfl, hp, hq, tN, tO, eq, len, hn, rfl⟩, k⟩ := h
  have hu := hu_of hr
  have l1 : (rfs N).length = N.length := List.length_map ..
  have l2 : (rfs O).length = N.length := by
    have z := congrArg List.length eq
    rw [List.length_map, List.length_map] at z
    unfold rfs
    rw [List.length_map, z]
  refine ⟨_, (pss_cons (ps_if (pt_val (pe_callB call_isiT (by rfl) T.n_isinstance (by decide +kernel) (pa_cons (pv 1) (pa_cons (pe_tup (pa_cons (pe_bltn (v := .ty "tuple") (by rfl) T.n_tuple (by decide +kernel) rfl) (pa_cons (pe_bltn (v := .ty "list") (by rfl) T.n_list (by decide +kernel) rfl) pa_nil))) pa_nil)))) (pss_cons (ps_if (PW.pt (pw_or (pt_not (pt_val (pe_callB call_isiT (by rfl) T.n_isinstance (by decide +kernel) (pa_cons (pv 0) (pa_cons (pe_tup (pa_cons (pe_bltn (v := .ty "tuple") (by rfl) T.n_tuple (by decide +kernel) rfl) (pa_cons (pe_bltn (v := .ty "list") (by rfl) T.n_list (by decide +kernel) rfl) pa_nil))) pa_nil))))) (pw_or1 (pt_cmpR op_ne (pe_callB call_isi (by rfl) T.n_isinstance (by decide +kernel) (pa_cons (pv 0) (pa_cons (pe_bltn (v := .ty "list") (by rfl) T.n_list (by decide +kernel) rfl) pa_nil))) (pe_callB call_isi (by rfl) T.n_isinstance (by decide +kernel) (pa_cons (pv 1) (pa_cons (pe_bltn (v := .ty "list") (by rfl) T.n_list (by decide +kernel) rfl) pa_nil))) (nomark _))))) (pss_one (ps_ret pe_bl)) pss_nil)
      (pss_cons (ps_if (pt_cmpR op_ne (pe_callB call_len_seq (by rfl) T.n_len (by decide +kernel) (pa_cons (pv 0) pa_nil)) (pe_callB call_len_seq (by rfl) T.n_len (by decide +kernel) (pa_cons (pv 1) pa_nil)) (nomark _)) (pss_one (ps_ret pe_bl)) pss_nil)
      (pss_one (ps_ret (pe_cmpR (op_eqD hr.units) (pe_lc (own := [("k", 2)]) (g := gName 2) (by rfl) sc__law_alike.nd (pi_range1 rfl T.n_range (pa_cons (pe_callB call_len_seq (by rfl) T.n_len (by decide +kernel) (pa_cons (pv 1) pa_nil)) pa_nil)) (blkOk_by (own := [("k", 2)]) (N := N__law_alike) (sc := defScope s__law_alike) (by decide +kernel)) (fun _ _ _ _ _ => pg_name (i := 2) sc__law_alike.nd rfl (Or.inl rfl)) (fun _ _ _ _ _ => pts_one (pt_not (pt_val (pe_own ct__law_alike (hr.mono (by decide)) rfl pass0 (pa_cons (pe_ix (r := rIxT K) ix_tup (pv 0) (pv 2) (fun _ _ => rfl)) (pa_cons (pe_ix (r := rIxT K) ix_tup (pv 1) (pv 2) (fun _ _ => rfl)) pa_nil)))))) (fun _ _ _ _ _ => (pv 2))) (pe_lst pa_nil) (nomark _)))))) pss_nil) pss_never), bl_go ?_⟩
  refine bl_if (b := true) (et_B (ev_isTT (ev_var rfl) hq)) (fun _ => ?_) (fun z => by cases z)
  refine bl_when (b := false) ?_ (fun z => by cases z) (fun _ => ?_)
  · refine et_is (et_or (a := false) (b := false) (et_is (et_not (et_B (ev_isTT (ev_var rfl) hp))) rfl) (fun _ => ?_)) rfl
    walk_at "et"
  refine bl_when (b := false) ?_ (fun z => by cases z) (fun _ => ?_)
  · refine et_is (b := false) (a := !decide (V.int ((rfs N).length : Int) = V.int ((rfs O).length : Int))) (by walk_at "et") (by rw [l1, l2]; simp)
  refine bl_retE (v := .bl true) (nil_eq (WU.el_is (el_lcR1 (n := ((rfs O).length : Int)) (fun _ => false) (fun i => .int i) (by walk_at "ea") (by omega) (fun x => rfl) (fun i H1 e1 hi => ?_) (fun i H1 e1 hi z => by cases z)) (given_nil fun i _ => rfl))) k rfl
  have hi1 : i < N.length := by omega
  have hi2 : i < O.length := by
    have z := congrArg List.length eq
    rw [List.length_map, List.length_map] at z
    omega
  have h1 : atI (rfs N) (i : Int) = some (.ref (N[i]).1) := atI_nat (by unfold rfs; rw [List.getElem?_map, List.getElem?_eq_getElem hi1]; rfl)
  have h2 : atI (rfs O) (i : Int) = some (.ref (O[i]).1) := atI_nat (by unfold rfs; rw [List.getElem?_map, List.getElem?_eq_getElem hi2]; rfl)
  have hk : (N[i]).2 = (O[i]).2 := by
    have z := congrArg (fun l => l[i]?) eq
    simp only [List.getElem?_map, List.getElem?_eq_getElem hi1, List.getElem?_eq_getElem hi2, Option.map_some, Option.some.injEq] at z
    exact z
  have a1 := tN _ (List.getElem_mem hi1)
  have a2 := tO _ (List.getElem_mem hi2)
  rw [← hk] at a2
  have e : EvT (tNot (tB (tCall (Pu (R_aliket K)) [] E0 (tCons (tOp (rIxT K) (tVar 0) (tVar 2)) (tCons (tOp (rIxT K) (tVar 1) (tVar 2)) tNil))))) [some (.ref p), some (.ref q), some (.int (i : Int))] H1 false :=
    et_is (et_not (et_B (ev_own (ea_cons (ev_op (ev_var rfl) (ev_var rfl) (rv_ixT (ex_t e1 hp) h1)) (ea_cons (ev_op (ev_var rfl) (ev_var rfl) (rv_ixT (ex_t e1 hq) h2)) ea_nil)) (fun H2 e2 => ⟨_, _, (N[i]).2.map V.str, rfl, ex_t (e1.trans e2) a1, ex_t (e1.trans e2) a2, fun x hx => (by obtain ⟨y, _, rfl⟩ := List.mem_map.mp hx; rfl), (by rw [List.length_map]; exact len _ (List.getElem_mem hi1)), rfl⟩)))) rfl
  exact e
end
end KC

set_option maxHeartbeats 4000000
namespace KC
open PySem PySem.Spec PyProof.Rows L2 Evl WM WL WLam WX WT WU StX LamX
local macro_rules | `(tactic| walk_at "ev") => `(tactic| first
  | exact ev_c
  | exact ev_var rfl
  | ((with_reducible apply ev_op); (walk_at "ev"); (walk_at "ev"); (walk_at "rv"))
  | ((with_reducible apply ev_un); (walk_at "ev"); exact ru_neg)
  | ((with_reducible apply ev_notV); (walk_at "ev"))
  | ((with_reducible apply ev_andV); (walk_at "ev"); (intro _; walk_at "ev"))
  | ((with_reducible apply ev_orV); (walk_at "ev"); (intro _; walk_at "ev"))
  | ((with_reducible apply ev_ifT); (walk_at "et"); (exact rfl); (walk_at "ev"))
  | ((with_reducible apply ev_ifF); (walk_at "et"); (exact rfl); (walk_at "ev"))
  | ((with_reducible apply ev_ifB); (walk_at "et"); (intro _; walk_at "ev"); (intro _; walk_at "ev"))
  | ((with_reducible apply ev_chainI); (walk_at "ev"); (walk_at "ev"); (walk_at "ev"))
  | ((with_reducible apply ev_own); (walk_at "ea"); (intro _ _; walk_at "own"))
  | ((with_reducible apply ev_ddS); (walk_at "dp"); (exact Nat.le_of_ble_eq_true rfl); (walk_at "ev"); (exact rfl))
  | ((with_reducible apply ev_isiT); (walk_at "ev"); (walk_at "ea"); (walk_at "isiT"))
  | ((with_reducible apply ev_cb); (walk_at "ea"); (walk_at "rc")))
local macro_rules | `(tactic| walk_at "dp") => `(tactic| first
  | exact Paired.nil
  | ((with_reducible apply dp_cons); (exact ev_c); (walk_at "ev"); (walk_at "dp")))
local macro_rules | `(tactic| walk_at "ea") => `(tactic| first
  | exact ea_nil
  | ((with_reducible apply ea_cons); (walk_at "ev"); (walk_at "ea")))
local macro_rules | `(tactic| walk_at "et") => `(tactic| first
  | ((with_reducible apply et_test); (walk_at "ev"))
  | ((with_reducible apply et_B); (walk_at "ev"))
  | ((with_reducible apply et_not); (walk_at "et"))
  | ((with_reducible apply et_and); (walk_at "et"); (intro _; walk_at "et"))
  | ((with_reducible apply et_or); (walk_at "et"); (intro _; walk_at "et")))
local macro_rules | `(tactic| walk_at "rv") => `(tactic| first
  | exact rv_I0
  | exact rv_eq rfl
  | exact rv_ne rfl
  | exact rv_isT (by assumption) rfl rfl
  | exact rv_niT (by assumption) rfl rfl
  | exact rv_isL (by assumption) rfl rfl
  | exact rv_niL (by assumption) rfl rfl
  | exact rv_ixT (by assumption) rfl
  | exact rv_ixL (by assumption) rfl
  | exact rv_ixL (by assumption) (by assumption)
  | (apply rv_I; (walk_at "side")))
local macro_rules | `(tactic| walk_at "side") => `(tactic| first
  | assumption
  | (refine And.intro ?_ (And.intro ?_ ?_) <;> (try dsimp only) <;> first | omega | decide)
  | (dsimp only; omega)
  | omega)
local macro_rules | `(tactic| walk_at "rc") => `(tactic| first
  | exact rc_abs | exact rc_max2 | exact rc_min2 | exact rc_int | exact rc_intB
  | exact rc_isi_int (b := true) (by decide +kernel)
  | exact rc_isi_int (b := false) (by decide +kernel)
  | exact rc_isi_bl (b := true) (by decide +kernel)
  | exact rc_isi_bl (b := false) (by decide +kernel)
  | exact rc_isi_str (b := true) (by decide +kernel)
  | exact rc_isi_str (b := false) (by decide +kernel)
  | exact rc_isi_T (b := true) (by assumption) (by decide +kernel)
  | exact rc_isi_T (b := false) (by assumption) (by decide +kernel)
  | exact rc_lenT (by assumption)
  | exact rc_lenL (by assumption))
local macro_rules | `(tactic| walk_at "set") => `(tactic| ((with_reducible apply bl_set); (walk_at "ev")))
local macro_rules | `(tactic| walk_at "drop") => `(tactic| ((with_reducible apply bl_drop); (walk_at "ev")))
local macro_rules | `(tactic| walk_at "par") => `(tactic| ((with_reducible apply bl_par); (walk_at "ea")))
local macro_rules | `(tactic| walk_at "if") => `(tactic| ((with_reducible apply bl_when); (walk_at "et")))
local macro_rules | `(tactic| walk_at "no") => `(tactic| ((with_reducible apply bl_when); (walk_at "et"); (intro h; exact absurd (show false = true from h) (by decide)); (intro _)))
local macro_rules | `(tactic| walk_at "yes") => `(tactic| ((with_reducible apply bl_when); (walk_at "et"); rotate_left; (intro h; exact absurd (show true = false from h) (by decide)); (intro _)))
local macro_rules | `(tactic| walk_at "ret") => `(tactic| ((with_reducible apply bl_retE); rotate_left; assumption; rotate_right; (walk_at "ev")))
local macro_rules | `(tactic| walk_at "absurd") => `(tactic| first | exact absurd (show false = true from (by assumption)) (by decide) | exact absurd (show true = false from (by assumption)) (by decide))
local macro_rules | `(tactic| walk_at "rv") => `(tactic| first | exact rv_isN (s := []) | exact rv_notKD (by assumption) | exact rv_inKD (by assumption) | exact rv_ixKD (by assumption))
local macro_rules | `(tactic| walk_at "isiT") => `(tactic| ((exact Nat.le_of_ble_eq_true rfl); (exact .cons (.ty _) (.cons (.ty _) .nil)); (first | exact fun _ _ => .base (.int _) | exact fun _ _ => .base (.bl _) | exact fun _ _ => .base (.str _) | exact fun _ _ => .base .non); (exact kitAny_no (by decide +kernel) (by decide +kernel))))
local macro_rules | `(tactic| walk_at "rc") => `(tactic| first | exact rc_isi_non (b := true) (by decide +kernel) | exact rc_isi_non (b := false) (by decide +kernel))
local macro_rules | `(tactic| walk_at "eu") => `(tactic| first
  | ((with_reducible apply eu_own); (walk_at "ea"); (intro _ _; walk_at "own"))
  | ((with_reducible apply eu_tup); (walk_at "ea"); (exact Nat.le_of_ble_eq_true rfl)))
local macro_rules | `(tactic| walk_at "ev") => `(tactic| ((with_reducible apply ev_own1U); (walk_at "eu"); (walk_at "ea"); (intro _ _ _ _; walk_at "own1")))
local macro_rules | `(tactic| walk_at "isr") => `(tactic| first | with_reducible exact isr_r | with_reducible exact isr_i | ((with_reducible apply isr_if) <;> (walk_at "isr")))
local macro_rules | `(tactic| walk_at "osm") => `(tactic| first | with_reducible assumption | with_reducible exact osm_add | with_reducible exact osm_sub | with_reducible exact osm_mul | with_reducible exact osm_dvo | with_reducible exact osm_neg | with_reducible exact osm_rem | with_reducible exact osm_do | with_reducible exact osm_div | with_reducible exact osm_fit | ((with_reducible apply osm); assumption) | ((with_reducible apply osm); exact (show (0 : Int).natAbs < 2 ^ 70 by decide)) | ((with_reducible apply osm); exact (show (2 : Int).natAbs < 2 ^ 70 by decide)) | ((with_reducible apply osm_if) <;> (walk_at "osm")))
local macro_rules | `(tactic| walk_at "ev") => `(tactic| first
  | ((with_reducible apply ev_inLst); (walk_at "ev"); (walk_at "ea"); (exact Nat.le_of_ble_eq_true rfl); (exact rfl); (first | exact rfl | simp [flatV])))
local macro_rules | `(tactic| walk_at "rv") => `(tactic| first | exact rv_eq scal_rv | exact rv_ne scal_rv | exact rv_eq (scal_rv (y := some _)) | exact rv_ne (scal_rv (y := some _)) | exact rv_eq (scal_rv (y := none)) | exact rv_ne (scal_rv (y := none)))
local macro_rules | `(tactic| walk_at "nz") => `(tactic| first | with_reducible assumption | ((with_reducible apply nz_i); (first | assumption | decide)))
local macro_rules | `(tactic| walk_at "ev") => `(tactic| ((with_reducible apply ev_inU); (walk_at "ev"); (walk_at "eu"); (exact rfl); (exact rfl)))
section
variable {P : Program} {w : World} {K : PySem.W.Frag} {mg : Str → Option Value} {base : Heap}
local macro_rules | `(tactic| walk_at "own") => `(tactic| first
  | exact r_is_whole (by first | assumption | exact .int _ | exact Wh.ex (by assumption) (by assumption))
  | exact r_are_choices 
  | exact r_is_format (ex_t (by assumption) (by assumption))
  | exact r_check_format (ex_t (by assumption) (by assumption))
  | exact r_is_rule 
  | exact r_check_rule 
  | exact r_rules
  | exact r__check_exponent (by assumption) (by assumption)
  | exact r__passes_lucas_lehmer (by assumption) (by assumption) (by assumption)
  | exact r_is_mersenne (by assumption) (by assumption)
  | exact r__sum_grouping 
  | exact r__product_grouping 
  | exact r__distribution 
  | exact r__negatives 
  | exact r__add_back 
  | exact r__division 
  | exact r__remainder_range 
  | exact r__negated_quotient 
  | exact r__shift 
  | exact r__absolute_value 
  | exact r__order_by_difference 
  | exact r__monotone_sum 
  | exact r__average 
  | exact r__square 
  | exact r__zero_product 
  | exact r__cancellation 
  | exact r_meets_condition (ex_t (by assumption) (by assumption))
  | exact r_profile (ex_t (by assumption) (by assumption))
  | exact r_implies 
  | exact r__law_do_sub0 (ex_t (by assumption) (by assumption)) (by assumption)
  | exact r__law_prime 
  | exact r__law_holds (ex_t (by assumption) (by assumption))
  | exact r__law_alike (by assumption)
  | exact r__law_profile (ex_t (by assumption) (by assumption))
  | exact ⟨rfl, rfl⟩)
abbrev s__law_all : Stmt := top 61
abbrev N__law_all : List Str := ["widths", "found", "w", "signs", "overflow", "division"]
theorem sc__law_all : FnScope N__law_all ["widths"] (defScope s__law_all) := ⟨rfl, rfl, rfl, by decide +kernel, rfl, by decide +kernel, by decide +kernel⟩
def someI : List Nat := [0, 1, 2, 3, 4, 5, 9, 27, 57, 60]
/-- the law's formats -/
def someF : List Fmt := someI.flatMap f0
/-- some formats in a new list -/
def GotL (K : PySem.W.Frag) (H : Hp) (fs : List Fmt) (l : Addr) (G : Hp) : Prop := Ex H G ∧ ∃ ps, G l = some (.lst ps) ∧ Paired (IsF K G) ps fs
theorem GotL.keep {K : PySem.W.Frag} {H G G' : Hp} {fs : List Fmt} {l : Addr} (h : GotL K H fs l G) (e : Ex G G') : GotL K H fs l G' := by
  obtain ⟨ex, ps, h1, h2⟩ := h
  exact ⟨ex.trans e, ps, e _ _ h1, isF_ex e h2⟩
def SpAllL (K : PySem.W.Frag) : Sp := fun vs H Q _ => ∃ a, vs = [.ref a] ∧ SqL K H a (someI.map widV) ∧ ∀ l G, H l = none → GotL K H someF l G → Q (.ref l) G
section
variable {σ : L2.St} {H : Hp} {D : Ends} {tu : TS} {tl : TE} {α : Type} {as : List α} {enc : α → V} {gx : α → List Fmt} {j : Nat} {pre : List Fmt} {Iv : List Fmt → L2.St → Hp → Prop}
theorem for_fm0 {a : Addr} (h : Ev tl σ H (.ref a)) (hx : SqL K H a (as.map enc)) (h0 : ∀ H1, Ex H H1 → Iv pre σ H1)
    (hs : ∀ n b, as[n]? = some b → ∀ σ' G, Iv (pre ++ (as.take n).flatMap gx) σ' G → ∀ D2 : Ends, (∀ σ2 G2, Ex G G2 → Iv (pre ++ (as.take n).flatMap gx ++ gx b) σ2 G2 → D2.nx σ2 G2) → tu D2 (σ'.set j (some (enc b))) G) (hd : ∀ σ' G, Iv (pre ++ as.flatMap gx) σ' G → D.nx σ' G) : tFor (iList K tl) (gName j) tu D σ H := by
  refine h H (Ex.refl H) _ fun H1 e1 => ⟨a, rfl, ⟨_, ex_l e1 hx⟩, for_list (xs := as.map enc) (fun i s' G => Iv (pre ++ (as.take i).flatMap gx) s' G ∧ SqL K G a (as.map enc)) ⟨?_, ex_l e1 hx⟩ (fun i s' G _ p => p.2) (fun i x s' G hi p => ?_) (fun s' G p => ?_)⟩
  · show Iv (pre ++ []) σ H1
    rw [List.append_nil]
    exact h0 H1 e1
  · rw [List.getElem?_map] at hi
    cases hb : as[i]? with
    | none => rw [hb] at hi; cases hi
    | some b =>
      rw [hb] at hi
      cases hi
      refine hs i b hb s' G p.1 _ fun σ2 G2 e2 q => ⟨?_, ex_l e2 p.2⟩
      rw [List.take_add_one, hb, List.flatMap_append, ← List.append_assoc]
      show Iv (pre ++ (as.take i).flatMap gx ++ (gx b ++ [])) σ2 G2
      rw [List.append_nil]
      exact q
  · have q := p.1
    rw [List.length_map, List.take_length] at q
    exact hd s' G q
/-- over a new list -/
theorem for_fm (h : EvL tl σ H (as.map enc)) (h0 : ∀ H1, Ex H H1 → Iv pre σ H1)
    (hs : ∀ n b, as[n]? = some b → ∀ σ' G, Iv (pre ++ (as.take n).flatMap gx) σ' G → ∀ D2 : Ends, (∀ σ2 G2, Ex G G2 → Iv (pre ++ (as.take n).flatMap gx ++ gx b) σ2 G2 → D2.nx σ2 G2) → tu D2 (σ'.set j (some (enc b))) G) (hd : ∀ σ' G, Iv (pre ++ as.flatMap gx) σ' G → D.nx σ' G) : tFor (iList K tl) (gName j) tu D σ H := by
  refine h H (Ex.refl H) _ fun a H1 _ e1 hx => ⟨a, rfl, ⟨_, sq_of hx⟩, for_list (xs := as.map enc) (fun i s' G => Iv (pre ++ (as.take i).flatMap gx) s' G ∧ SqL K G a (as.map enc)) ⟨?_, sq_of hx⟩ (fun i s' G _ p => p.2) (fun i x s' G hi p => ?_) (fun s' G p => ?_)⟩
  · show Iv (pre ++ []) σ H1
    rw [List.append_nil]
    exact h0 H1 e1
  · rw [List.getElem?_map] at hi
    cases hb : as[i]? with
    | none => rw [hb] at hi; cases hi
    | some b =>
      rw [hb] at hi
      cases hi
      refine hs i b hb s' G p.1 _ fun σ2 G2 e2 q => ⟨?_, ex_l e2 p.2⟩
      rw [List.take_add_one, hb, List.flatMap_append, ← List.append_assoc]
      show Iv (pre ++ (as.take i).flatMap gx ++ (gx b ++ [])) σ2 G2
      rw [List.append_nil]
      exact q
  · have q := p.1
    rw [List.length_map, List.take_length] at q
    exact hd s' G q
end
theorem ok__law_all (T : Txt w K mg) (D0 : DefAt K mg "_law_all" s__law_all) : Cal P w K mg base CX0 1 "_law_all" ["widths"] (SpAllL K) := by
  refine D0.cal sc__law_all (fun vs H Q E h => by obtain ⟨a, rfl, _⟩ := h; rfl) (fun _ _ _ _ _ _ us hl => match us, hl with | [_], _ => rfl) (fun f cdv A outer s H vs Q E hr h => ?_)
  obtain ⟨a, rfl, hx, k⟩ := h
  have hu := hu_of hr
  refine ⟨_, (pss_cons (ps_set (i := 1) sc__law_all.nd rfl (Or.inl rfl) (pe_lst pa_nil))
      (pss_cons (ps_for PassesOwn.never (by rfl) (pi_list (pv 0)) (pg_name (i := 2) sc__law_all.nd rfl (Or.inr rfl)) (pss_one (ps_for PassesOwn.never (by rfl) (pi_list (pe_lst (pa_cons pe_str (pa_cons pe_str (pa_cons pe_str pa_nil))))) (pg_name (i := 3) sc__law_all.nd rfl (Or.inr rfl)) (pss_one (ps_for PassesOwn.never (by rfl) (pi_list (pe_lst (pa_cons pe_str (pa_cons pe_str (pa_cons pe_str pa_nil))))) (pg_name (i := 4) sc__law_all.nd rfl (Or.inr rfl)) (pss_one (ps_set (i := 1) sc__law_all.nd rfl (Or.inl rfl) (pe_op op_cat (pv 1) (pe_lc (own := [("division", 5)]) (g := gName 5) (by rfl) sc__law_all.nd (pi_list (pe_lst (pa_cons pe_str (pa_cons pe_str (pa_cons pe_str (pa_cons pe_str (pa_cons pe_str pa_nil))))))) (blkOk_by (own := [("division", 5)]) (N := N__law_all) (sc := defScope s__law_all) (by decide +kernel)) (fun _ _ _ _ _ => pg_name (i := 5) sc__law_all.nd rfl (Or.inl rfl)) (fun _ _ _ _ _ => pts_nil) (fun _ _ _ _ _ => (pe_tup (pa_cons (pv 2) (pa_cons (pv 3) (pa_cons (pv 4) (pa_cons (pv 5) pa_nil)))))))))))))))
      (pss_one (ps_ret (pv 1))))), ?_⟩
  refine seq_asg ?_
  refine ⟨Nat.zero_le _, fun l0 hl0 => ?_⟩
  have e0 := Ex.new (o := .lst []) hl0
  refine for_fm0 (a := a) (as := someI) (enc := widV) (gx := f0) (j := 2) (pre := []) (Iv := fun fs s' G => ∃ l u2 u3 u4, s' = ([some (.ref a), some (.ref l), u2, u3, u4, none] : L2.St) ∧ H l = none ∧ GotL K H fs l G) (ev_var rfl) (ex_l e0 hx) (fun H1 e1 => ⟨l0, none, none, none, rfl, hl0, e0.trans e1, [], e1 _ _ upd_same, .nil⟩) (fun n1 i hi s' G p D2 q => ?_) (fun s' G p => ?_)
  · obtain ⟨l, u2, u3, u4, rfl, hl, g⟩ := p
    have hlt : i < 61 := (show ∀ x ∈ someI, x < 61 by decide) i (List.mem_of_getElem? hi)
    refine for_fm (as := allSg) (enc := fun sg => .str (sgS sg)) (gx := f1 i) (j := 3) (Iv := fun fs s' G' => ∃ l u3 u4, s' = ([some (.ref a), some (.ref l), some (widV i), u3, u4, none] : L2.St) ∧ H l = none ∧ GotL K H fs l G' ∧ Ex G G') (el_lst (ea_cons ev_c (ea_cons ev_c (ea_cons ev_c ea_nil))) (Nat.le_of_ble_eq_true rfl)) (fun H1 e1 => ⟨l, u3, u4, rfl, hl, g.keep e1, e1⟩) (fun n2 sg hsg s2 G2 p2 D3 q2 => ?_) (fun s2 G2 p2 => ?_)
    · obtain ⟨l2, v3, v4, rfl, hl2, g2, y2⟩ := p2
      refine for_fm (as := allOv) (enc := fun ov => .str (ovS ov)) (gx := f2 i sg) (j := 4) (Iv := fun fs s' G' => ∃ l u4, s' = ([some (.ref a), some (.ref l), some (widV i), some (.str (sgS sg)), u4, none] : L2.St) ∧ H l = none ∧ GotL K H fs l G' ∧ Ex G2 G') (el_lst (ea_cons ev_c (ea_cons ev_c (ea_cons ev_c ea_nil))) (Nat.le_of_ble_eq_true rfl)) (fun H1 e1 => ⟨l2, v4, rfl, hl2, g2.keep e1, e1⟩) (fun n3 ov hov s3 G3 p3 D4 q3 => ?_) (fun s3 G3 p3 => ?_)
      · obtain ⟨l3, w4, rfl, hl3, g3, y3⟩ := p3
        obtain ⟨x3, ps3, hps3, pr3⟩ := g3
        have lps := WY.paired_len pr3
        change tAsg _ _ _ ([some (.ref a), some (.ref l3), some (widV i), some (.str (sgS sg)), some (.str (ovS ov)), none] : L2.St) G3
        refine ⟨_, rfl, ?_⟩
        change tLc _ _ _ _ _ _ _ _
        unfold tLc iList
        refine (el_lst (vs := allDv.map fun dv => V.str (dvS dv)) (ea_cons ev_c (ea_cons ev_c (ea_cons ev_c (ea_cons ev_c (ea_cons ev_c ea_nil))))) (Nat.le_of_ble_eq_true rfl) : EvL (tLst (tCons (tC (.str "ceiling")) (tCons (tC (.str "euclid")) (tCons (tC (.str "even")) (tCons (tC (.str "floor")) (tCons (tC (.str "zero")) tNil)))))) _ G3 _) G3 (Ex.refl G3) _ (fun qd G4 hqd e4 hx4 => ⟨qd, rfl, ⟨_, sq_of hx4⟩, fun Z hZ => ?_⟩)
        refine WNc.over_list (K := K) (a := qd) (xs := allDv.map fun dv => V.str (dvS dv)) (fun n4 G5 => GotF K G4 Z ((allDv.take n4).flatMap (f3 i sg ov)) G5) ⟨hZ, Ex.new hZ, [], upd_same, .nil⟩ (fun n4 G5 p => ex_l p.ex (sq_of hx4)) (fun n4 x G5 hi4 p => ?_) (fun G5 p => ?_)
        · rw [List.getElem?_map] at hi4
          cases hb : allDv[n4]? with
          | none => rw [hb] at hi4; cases hi4
          | some dv =>
            rw [hb] at hi4
            cases hi4
            refine ⟨rfl, _, rfl, _, rfl, _, rfl, _, rfl, sz_of (n := 4) (by decide), fun pt hp => ?_⟩
            obtain ⟨ps, hps, hlen, g5⟩ := (p.keep (Ex.new (o := .tup [widV i, .str (sgS sg), .str (ovS ov), .str (dvS dv)]) hp)).add (p := pt) (f := fmW sg ov dv i) (st_of (by rw [fm_val hlt]; exact upd_same))
            refine ⟨ps, hps, ?_, ?_⟩
            · have b3 := take_len allDv n4 (f3 i sg ov)
              have c3 : (allDv.flatMap (f3 i sg ov)).length = 5 := rfl
              rw [hlen]
              exact sz_lt (by omega)
            · rw [List.take_add_one, hb, List.flatMap_append]
              exact g5
        · rw [show (allDv.map fun dv => V.str (dvS dv)).length = 5 from rfl] at p
          obtain ⟨_, x5, ps5, hps5, pr5⟩ := p
          have l5 := WY.paired_len pr5
          have x35 : Ex G3 G5 := e4.trans x5
          refine ⟨l3, Z, ps3, ps5, rfl, rfl, x35 _ _ hps3, hps5, ?_, fun m hm => ?_⟩
          · have b1 := take_len someI n1 f0
            have b2 := take_len allSg n2 (f1 i)
            have b3 := take_len allOv n3 (f2 i sg)
            have c1 : (someI.flatMap f0).length = 450 := rfl
            have c2 : (allSg.flatMap (f1 i)).length = 45 := rfl
            have c3 : (allOv.flatMap (f2 i sg)).length = 15 := rfl
            have c4 : ((allDv.take 5).flatMap (f3 i sg ov)).length = 5 := rfl
            rw [List.length_append, List.length_append, List.length_append, List.length_nil] at lps
            exact sz_of (n := ps3.length + ps5.length) (by omega)
          · have eN : Ex G3 (upd G5 m (.lst (ps3 ++ ps5))) := x35.trans (Ex.new hm)
            exact q3 _ _ eN ⟨m, _, rfl, fresh_back (x3.trans x35) hm, ⟨x3.trans eN, ps3 ++ ps5, upd_same, WY.paired_app (isF_ex eN pr3) (isF_ex (Ex.new hm) pr5)⟩, y3.trans eN⟩
      · obtain ⟨l3, w4, rfl, hl3, g3, y3⟩ := p3
        exact q2 _ _ y3 ⟨l3, _, _, rfl, hl3, g3, y2.trans y3⟩
    · obtain ⟨l2, v3, v4, rfl, hl2, g2, y2⟩ := p2
      exact q _ _ y2 ⟨l2, _, _, _, rfl, hl2, g2⟩
  · obtain ⟨l, u2, u3, u4, rfl, hl, g⟩ := p
    exact ⟨_, rfl, k l G hl g⟩
end
end KC

set_option maxHeartbeats 4000000
namespace KC
open PySem PySem.Spec PyProof.Rows L2 Evl WM WL WLam WX WT WU StX LamX
local macro_rules | `(tactic| walk_at "ev") => `(tactic| first
  | exact ev_c
  | exact ev_var rfl
  | ((with_reducible apply ev_op); (walk_at "ev"); (walk_at "ev"); (walk_at "rv"))
  | ((with_reducible apply ev_un); (walk_at "ev"); exact ru_neg)
  | ((with_reducible apply ev_notV); (walk_at "ev"))
  | ((with_reducible apply ev_andV); (walk_at "ev"); (intro _; walk_at "ev"))
  | ((with_reducible apply ev_orV); (walk_at "ev"); (intro _; walk_at "ev"))
  | ((with_reducible apply ev_ifT); (walk_at "et"); (exact rfl); (walk_at "ev"))
  | ((with_reducible apply ev_ifF); (walk_at "et"); (exact rfl); (walk_at "ev"))
  | ((with_reducible apply ev_ifB); (walk_at "et"); (intro _; walk_at "ev"); (intro _; walk_at "ev"))
  | ((with_reducible apply ev_chainI); (walk_at "ev"); (walk_at "ev"); (walk_at "ev"))
  | ((with_reducible apply ev_own); (walk_at "ea"); (intro _ _; walk_at "own"))
  | ((with_reducible apply ev_ddS); (walk_at "dp"); (exact Nat.le_of_ble_eq_true rfl); (walk_at "ev"); (exact rfl))
  | ((with_reducible apply ev_isiT); (walk_at "ev"); (walk_at "ea"); (walk_at "isiT"))
  | ((with_reducible apply ev_cb); (walk_at "ea"); (walk_at "rc")))
local macro_rules | `(tactic| walk_at "dp") => `(tactic| first
  | exact Paired.nil
  | ((with_reducible apply dp_cons); (exact ev_c); (walk_at "ev"); (walk_at "dp")))
local macro_rules | `(tactic| walk_at "ea") => `(tactic| first
  | exact ea_nil
  | ((with_reducible apply ea_cons); (walk_at "ev"); (walk_at "ea")))
local macro_rules | `(tactic| walk_at "et") => `(tactic| first
  | ((with_reducible apply et_test); (walk_at "ev"))
  | ((with_reducible apply et_B); (walk_at "ev"))
  | ((with_reducible apply et_not); (walk_at "et"))
  | ((with_reducible apply et_and); (walk_at "et"); (intro _; walk_at "et"))
  | ((with_reducible apply et_or); (walk_at "et"); (intro _; walk_at "et")))
local macro_rules | `(tactic| walk_at "rv") => `(tactic| first
  | exact rv_I0
  | exact rv_eq rfl
  | exact rv_ne rfl
  | exact rv_isT (by assumption) rfl rfl
  | exact rv_niT (by assumption) rfl rfl
  | exact rv_isL (by assumption) rfl rfl
  | exact rv_niL (by assumption) rfl rfl
  | exact rv_ixT (by assumption) rfl
  | exact rv_ixL (by assumption) rfl
  | exact rv_ixL (by assumption) (by assumption)
  | (apply rv_I; (walk_at "side")))
local macro_rules | `(tactic| walk_at "side") => `(tactic| first
  | assumption
  | (refine And.intro ?_ (And.intro ?_ ?_) <;> (try dsimp only) <;> first | omega | decide)
  | (dsimp only; omega)
  | omega)
local macro_rules | `(tactic| walk_at "rc") => `(tactic| first
  | exact rc_abs | exact rc_max2 | exact rc_min2 | exact rc_int | exact rc_intB
  | exact rc_isi_int (b := true) (by decide +kernel)
  | exact rc_isi_int (b := false) (by decide +kernel)
  | exact rc_isi_bl (b := true) (by decide +kernel)
  | exact rc_isi_bl (b := false) (by decide +kernel)
  | exact rc_isi_str (b := true) (by decide +kernel)
  | exact rc_isi_str (b := false) (by decide +kernel)
  | exact rc_isi_T (b := true) (by assumption) (by decide +kernel)
  | exact rc_isi_T (b := false) (by assumption) (by decide +kernel)
  | exact rc_lenT (by assumption)
  | exact rc_lenL (by assumption))
local macro_rules | `(tactic| walk_at "set") => `(tactic| ((with_reducible apply bl_set); (walk_at "ev")))
local macro_rules | `(tactic| walk_at "drop") => `(tactic| ((with_reducible apply bl_drop); (walk_at "ev")))
local macro_rules | `(tactic| walk_at "par") => `(tactic| ((with_reducible apply bl_par); (walk_at "ea")))
local macro_rules | `(tactic| walk_at "if") => `(tactic| ((with_reducible apply bl_when); (walk_at "et")))
local macro_rules | `(tactic| walk_at "no") => `(tactic| ((with_reducible apply bl_when); (walk_at "et"); (intro h; exact absurd (show false = true from h) (by decide)); (intro _)))
local macro_rules | `(tactic| walk_at "yes") => `(tactic| ((with_reducible apply bl_when); (walk_at "et"); rotate_left; (intro h; exact absurd (show true = false from h) (by decide)); (intro _)))
local macro_rules | `(tactic| walk_at "ret") => `(tactic| ((with_reducible apply bl_retE); rotate_left; assumption; rotate_right; (walk_at "ev")))
local macro_rules | `(tactic| walk_at "absurd") => `(tactic| first | exact absurd (show false = true from (by assumption)) (by decide) | exact absurd (show true = false from (by assumption)) (by decide))
local macro_rules | `(tactic| walk_at "rv") => `(tactic| first | exact rv_isN (s := []) | exact rv_notKD (by assumption) | exact rv_inKD (by assumption) | exact rv_ixKD (by assumption))
local macro_rules | `(tactic| walk_at "isiT") => `(tactic| ((exact Nat.le_of_ble_eq_true rfl); (exact .cons (.ty _) (.cons (.ty _) .nil)); (first | exact fun _ _ => .base (.int _) | exact fun _ _ => .base (.bl _) | exact fun _ _ => .base (.str _) | exact fun _ _ => .base .non); (exact kitAny_no (by decide +kernel) (by decide +kernel))))
local macro_rules | `(tactic| walk_at "rc") => `(tactic| first | exact rc_isi_non (b := true) (by decide +kernel) | exact rc_isi_non (b := false) (by decide +kernel))
local macro_rules | `(tactic| walk_at "eu") => `(tactic| first
  | ((with_reducible apply eu_own); (walk_at "ea"); (intro _ _; walk_at "own"))
  | ((with_reducible apply eu_tup); (walk_at "ea"); (exact Nat.le_of_ble_eq_true rfl)))
local macro_rules | `(tactic| walk_at "ev") => `(tactic| ((with_reducible apply ev_own1U); (walk_at "eu"); (walk_at "ea"); (intro _ _ _ _; walk_at "own1")))
local macro_rules | `(tactic| walk_at "isr") => `(tactic| first | with_reducible exact isr_r | with_reducible exact isr_i | ((with_reducible apply isr_if) <;> (walk_at "isr")))
local macro_rules | `(tactic| walk_at "osm") => `(tactic| first | with_reducible assumption | with_reducible exact osm_add | with_reducible exact osm_sub | with_reducible exact osm_mul | with_reducible exact osm_dvo | with_reducible exact osm_neg | with_reducible exact osm_rem | with_reducible exact osm_do | with_reducible exact osm_div | with_reducible exact osm_fit | ((with_reducible apply osm); assumption) | ((with_reducible apply osm); exact (show (0 : Int).natAbs < 2 ^ 70 by decide)) | ((with_reducible apply osm); exact (show (2 : Int).natAbs < 2 ^ 70 by decide)) | ((with_reducible apply osm_if) <;> (walk_at "osm")))
local macro_rules | `(tactic| walk_at "ev") => `(tactic| first
  | ((with_reducible apply ev_inLst); (walk_at "ev"); (walk_at "ea"); (exact Nat.le_of_ble_eq_true rfl); (exact rfl); (first | exact rfl | simp [flatV])))
local macro_rules | `(tactic| walk_at "rv") => `(tactic| first | exact rv_eq scal_rv | exact rv_ne scal_rv | exact rv_eq (scal_rv (y := some _)) | exact rv_ne (scal_rv (y := some _)) | exact rv_eq (scal_rv (y := none)) | exact rv_ne (scal_rv (y := none)))
local macro_rules | `(tactic| walk_at "nz") => `(tactic| first | with_reducible assumption | ((with_reducible apply nz_i); (first | assumption | decide)))
local macro_rules | `(tactic| walk_at "ev") => `(tactic| ((with_reducible apply ev_inU); (walk_at "ev"); (walk_at "eu"); (exact rfl); (exact rfl)))
section
variable {P : Program} {w : World} {K : PySem.W.Frag} {mg : Str → Option Value} {base : Heap}

theorem mem_f0 (sg : Sg) (ov : Ov) (dv : Dv) (i : Nat) : fmW sg ov dv i ∈ f0 i :=
  List.mem_flatMap.mpr ⟨sg, by cases sg <;> decide, List.mem_flatMap.mpr ⟨ov, by cases ov <;> decide, List.mem_flatMap.mpr ⟨dv, by cases dv <;> decide, List.mem_singleton.mpr rfl⟩⟩⟩
theorem find_two {t : Fmt → Bool} {L M : List Nat} (e : L = 0 :: 1 :: M) (h : ∀ f, t f = t (fmW f.sg f.ov f.dv (if WP.mers f.w = true then 1 else 0))) : (L.flatMap f0).find? t = (f0 0 ++ f0 1).find? t := by
  rw [e, List.flatMap_cons, List.flatMap_cons, ← List.append_assoc, List.find?_append]
  cases c : (f0 0 ++ f0 1).find? t with
  | some f => rfl
  | none =>
    have no := List.find?_eq_none.mp c
    have all : ∀ f, ¬ t f = true := fun f => by
      rw [h f]
      split
      · exact no _ (List.mem_append_right _ (mem_f0 ..))
      · exact no _ (List.mem_append_left _ (mem_f0 ..))
    show (none : Option Fmt).or _ = none
    rw [List.find?_eq_none.mpr fun f _ => all f]
    rfl
/-- the law's formats and the program's have the same first one that parts two rules -/
theorem first_some (r q : Rl) : firstP r q = someF.find? fun f => holdsB f r && !holdsB f q := by
  have h : ∀ f : Fmt, (holdsB f r && !holdsB f q) = (holdsB (fmW f.sg f.ov f.dv (if WP.mers f.w = true then 1 else 0)) r && !holdsB (fmW f.sg f.ov f.dv (if WP.mers f.w = true then 1 else 0)) q) := fun f => by rw [holds_rep f r, holds_rep f q]
  unfold firstP someF allF
  rw [find_two (L := List.range 61) (M := (List.range 61).drop 2) (by decide) h, find_two (L := someI) (M := someI.drop 2) (by decide) h]
def dueF (r q : Rl) : List Fmt := someF.filter fun f => holdsB f r && !holdsB f q
theorem due_first (r q : Rl) : (dueF r q).head? = firstP r q := by
  rw [first_some, dueF, List.head?_filter]
theorem keyF_rep : ∀ k, k ∈ someF.map keyF ↔ k ∈ profS := fun k => by
  constructor
  · intro h
    obtain ⟨f, _, rfl⟩ := List.mem_map.mp h
    exact key_in f
  · intro h
    obtain ⟨k0, h0, rfl⟩ := List.mem_map.mp h
    obtain ⟨sg, _, h1⟩ := List.mem_flatMap.mp (prof_is k0 h0)
    obtain ⟨ov, _, h2⟩ := List.mem_flatMap.mp h1
    obtain ⟨dv, _, h3⟩ := List.mem_flatMap.mp h2
    rcases List.mem_cons.mp h3 with rfl | h3
    · exact List.mem_map.mpr ⟨_, List.mem_flatMap.mpr ⟨0, by decide, mem_f0 sg ov dv 0⟩, rfl⟩
    · rw [List.mem_singleton.mp h3]
      exact List.mem_map.mpr ⟨_, List.mem_flatMap.mpr ⟨1, by decide, mem_f0 sg ov dv 1⟩, rfl⟩
theorem ordK_inj : ∀ {a b : List Str}, WTs.ordK a = WTs.ordK b → a = b
  | [], [], _ => rfl
  | [], _ :: _, h => nomatch h
  | _ :: _, [], h => nomatch h
  | x :: a, y :: b, h => by
    have h1 : (Sum.inr x.cps.toList : Int ⊕ List Nat) = Sum.inr y.cps.toList := (List.cons.inj h).1
    have h2 : x.cps.toList = y.cps.toList := Sum.inr.inj h1
    have h3 : x = y := by
      cases x; cases y
      simp only [Str.mk.injEq] at h2 ⊢
      exact Array.ext' h2
    rw [h3, ordK_inj (List.cons.inj h).2]
theorem sorted_same : ∀ {a b : List (List Str)}, a.Nodup → b.Nodup → (∀ k, k ∈ a ↔ k ∈ b) → a.Pairwise (fun x y => WTs.ltK y x = false) → b.Pairwise (fun x y => WTs.ltK y x = false) → a = b := by
  intro a b na nb m sa sb
  refine List.Perm.eq_of_pairwise ?_ sa sb ((List.perm_ext_iff_of_nodup na nb).mpr m)
  intro x y _ _ h1 h2
  exact ordK_inj (PyProof.Rows.lex_total _ _ h2 h1)
end
end KC

set_option maxHeartbeats 4000000
namespace KC
open PySem PySem.Spec PyProof.Rows L2 Evl WM WL WLam WX WT WU StX LamX
local macro_rules | `(tactic| walk_at "ev") => `(tactic| first
  | exact ev_c
  | exact ev_var rfl
  | ((with_reducible apply ev_op); (walk_at "ev"); (walk_at "ev"); (walk_at "rv"))
  | ((with_reducible apply ev_un); (walk_at "ev"); exact ru_neg)
  | ((with_reducible apply ev_notV); (walk_at "ev"))
  | ((with_reducible apply ev_andV); (walk_at "ev"); (intro _; walk_at "ev"))
  | ((with_reducible apply ev_orV); (walk_at "ev"); (intro _; walk_at "ev"))
  | ((with_reducible apply ev_ifT); (walk_at "et"); (exact rfl); (walk_at "ev"))
  | ((with_reducible apply ev_ifF); (walk_at "et"); (exact rfl); (walk_at "ev"))
  | ((with_reducible apply ev_ifB); (walk_at "et"); (intro _; walk_at "ev"); (intro _; walk_at "ev"))
  | ((with_reducible apply ev_chainI); (walk_at "ev"); (walk_at "ev"); (walk_at "ev"))
  | ((with_reducible apply ev_own); (walk_at "ea"); (intro _ _; walk_at "own"))
  | ((with_reducible apply ev_ddS); (walk_at "dp"); (exact Nat.le_of_ble_eq_true rfl); (walk_at "ev"); (exact rfl))
  | ((with_reducible apply ev_isiT); (walk_at "ev"); (walk_at "ea"); (walk_at "isiT"))
  | ((with_reducible apply ev_cb); (walk_at "ea"); (walk_at "rc")))
local macro_rules | `(tactic| walk_at "dp") => `(tactic| first
  | exact Paired.nil
  | ((with_reducible apply dp_cons); (exact ev_c); (walk_at "ev"); (walk_at "dp")))
local macro_rules | `(tactic| walk_at "ea") => `(tactic| first
  | exact ea_nil
  | ((with_reducible apply ea_cons); (walk_at "ev"); (walk_at "ea")))
local macro_rules | `(tactic| walk_at "et") => `(tactic| first
  | ((with_reducible apply et_test); (walk_at "ev"))
  | ((with_reducible apply et_B); (walk_at "ev"))
  | ((with_reducible apply et_not); (walk_at "et"))
  | ((with_reducible apply et_and); (walk_at "et"); (intro _; walk_at "et"))
  | ((with_reducible apply et_or); (walk_at "et"); (intro _; walk_at "et")))
local macro_rules | `(tactic| walk_at "rv") => `(tactic| first
  | exact rv_I0
  | exact rv_eq rfl
  | exact rv_ne rfl
  | exact rv_isT (by assumption) rfl rfl
  | exact rv_niT (by assumption) rfl rfl
  | exact rv_isL (by assumption) rfl rfl
  | exact rv_niL (by assumption) rfl rfl
  | exact rv_ixT (by assumption) rfl
  | exact rv_ixL (by assumption) rfl
  | exact rv_ixL (by assumption) (by assumption)
  | (apply rv_I; (walk_at "side")))
local macro_rules | `(tactic| walk_at "side") => `(tactic| first
  | assumption
  | (refine And.intro ?_ (And.intro ?_ ?_) <;> (try dsimp only) <;> first | omega | decide)
  | (dsimp only; omega)
  | omega)
local macro_rules | `(tactic| walk_at "rc") => `(tactic| first
  | exact rc_abs | exact rc_max2 | exact rc_min2 | exact rc_int | exact rc_intB
  | exact rc_isi_int (b := true) (by decide +kernel)
  | exact rc_isi_int (b := false) (by decide +kernel)
  | exact rc_isi_bl (b := true) (by decide +kernel)
  | exact rc_isi_bl (b := false) (by decide +kernel)
  | exact rc_isi_str (b := true) (by decide +kernel)
  | exact rc_isi_str (b := false) (by decide +kernel)
  | exact rc_isi_T (b := true) (by assumption) (by decide +kernel)
  | exact rc_isi_T (b := false) (by assumption) (by decide +kernel)
  | exact rc_lenT (by assumption)
  | exact rc_lenL (by assumption))
local macro_rules | `(tactic| walk_at "set") => `(tactic| ((with_reducible apply bl_set); (walk_at "ev")))
local macro_rules | `(tactic| walk_at "drop") => `(tactic| ((with_reducible apply bl_drop); (walk_at "ev")))
local macro_rules | `(tactic| walk_at "par") => `(tactic| ((with_reducible apply bl_par); (walk_at "ea")))
local macro_rules | `(tactic| walk_at "if") => `(tactic| ((with_reducible apply bl_when); (walk_at "et")))
local macro_rules | `(tactic| walk_at "no") => `(tactic| ((with_reducible apply bl_when); (walk_at "et"); (intro h; exact absurd (show false = true from h) (by decide)); (intro _)))
local macro_rules | `(tactic| walk_at "yes") => `(tactic| ((with_reducible apply bl_when); (walk_at "et"); rotate_left; (intro h; exact absurd (show true = false from h) (by decide)); (intro _)))
local macro_rules | `(tactic| walk_at "ret") => `(tactic| ((with_reducible apply bl_retE); rotate_left; assumption; rotate_right; (walk_at "ev")))
local macro_rules | `(tactic| walk_at "absurd") => `(tactic| first | exact absurd (show false = true from (by assumption)) (by decide) | exact absurd (show true = false from (by assumption)) (by decide))
local macro_rules | `(tactic| walk_at "rv") => `(tactic| first | exact rv_isN (s := []) | exact rv_notKD (by assumption) | exact rv_inKD (by assumption) | exact rv_ixKD (by assumption))
local macro_rules | `(tactic| walk_at "isiT") => `(tactic| ((exact Nat.le_of_ble_eq_true rfl); (exact .cons (.ty _) (.cons (.ty _) .nil)); (first | exact fun _ _ => .base (.int _) | exact fun _ _ => .base (.bl _) | exact fun _ _ => .base (.str _) | exact fun _ _ => .base .non); (exact kitAny_no (by decide +kernel) (by decide +kernel))))
local macro_rules | `(tactic| walk_at "rc") => `(tactic| first | exact rc_isi_non (b := true) (by decide +kernel) | exact rc_isi_non (b := false) (by decide +kernel))
local macro_rules | `(tactic| walk_at "eu") => `(tactic| first
  | ((with_reducible apply eu_own); (walk_at "ea"); (intro _ _; walk_at "own"))
  | ((with_reducible apply eu_tup); (walk_at "ea"); (exact Nat.le_of_ble_eq_true rfl)))
local macro_rules | `(tactic| walk_at "ev") => `(tactic| ((with_reducible apply ev_own1U); (walk_at "eu"); (walk_at "ea"); (intro _ _ _ _; walk_at "own1")))
local macro_rules | `(tactic| walk_at "isr") => `(tactic| first | with_reducible exact isr_r | with_reducible exact isr_i | ((with_reducible apply isr_if) <;> (walk_at "isr")))
local macro_rules | `(tactic| walk_at "osm") => `(tactic| first | with_reducible assumption | with_reducible exact osm_add | with_reducible exact osm_sub | with_reducible exact osm_mul | with_reducible exact osm_dvo | with_reducible exact osm_neg | with_reducible exact osm_rem | with_reducible exact osm_do | with_reducible exact osm_div | with_reducible exact osm_fit | ((with_reducible apply osm); assumption) | ((with_reducible apply osm); exact (show (0 : Int).natAbs < 2 ^ 70 by decide)) | ((with_reducible apply osm); exact (show (2 : Int).natAbs < 2 ^ 70 by decide)) | ((with_reducible apply osm_if) <;> (walk_at "osm")))
local macro_rules | `(tactic| walk_at "ev") => `(tactic| first
  | ((with_reducible apply ev_inLst); (walk_at "ev"); (walk_at "ea"); (exact Nat.le_of_ble_eq_true rfl); (exact rfl); (first | exact rfl | simp [flatV])))
local macro_rules | `(tactic| walk_at "rv") => `(tactic| first | exact rv_eq scal_rv | exact rv_ne scal_rv | exact rv_eq (scal_rv (y := some _)) | exact rv_ne (scal_rv (y := some _)) | exact rv_eq (scal_rv (y := none)) | exact rv_ne (scal_rv (y := none)))
local macro_rules | `(tactic| walk_at "nz") => `(tactic| first | with_reducible assumption | ((with_reducible apply nz_i); (first | assumption | decide)))
local macro_rules | `(tactic| walk_at "ev") => `(tactic| ((with_reducible apply ev_inU); (walk_at "ev"); (walk_at "eu"); (exact rfl); (exact rfl)))
section
variable {P : Program} {w : World} {K : PySem.W.Frag} {mg : Str → Option Value} {base : Heap}
local macro_rules | `(tactic| walk_at "own") => `(tactic| first
  | exact r__law_do_sub0 (ex_t (by assumption) (by assumption)) (by assumption))
local macro_rules | `(tactic| walk_at "own") => `(tactic| first
  | exact r__law_do_sub0 (ex_t (by assumption) (by assumption)) (by assumption))
def R_alikeu (K : PySem.W.Frag) : List V → Hp → V → Prop := fun vs H v => (vs = [.non, .non] ∧ v = .bl true) ∨ R_aliket K vs H v
theorem oku__law_alike (T : Txt w K mg) (D0 : DefAt K mg "_law_alike" s__law_alike) (c__law_alike : Cal P w K mg base CX0 1 "_law_alike" ["found", "due"] (Pu (R__law_alike K))) : Cal P w K mg base CX0 2 "_law_alike" ["found", "due"] (Pu (R_alikeu K)) := by
  refine D0.cal sc__law_alike (fun vs H Q E h => by rcases h with ⟨v, ⟨rfl, _⟩ | ⟨_, _, _, rfl, _⟩, _⟩ <;> rfl) (fun _ _ _ _ _ _ us hl => match us, hl with | [_, _], _ => rfl) (fun f cdv A outer s H vs Q E hr h => ?_)
  have hu := hu_of hr
  rcases h with ⟨v, ⟨rfl, rfl⟩ | ⟨p, q, xs, rfl, hp, hq, hf, hn, rfl⟩, k⟩
  · refine ⟨_, (pss_cons (ps_if (pt_val (pe_callB call_isiT (by rfl) T.n_isinstance (by decide +kernel) (pa_cons (pv 1) (pa_cons (pe_tup (pa_cons (pe_bltn (v := .ty "tuple") (by rfl) T.n_tuple (by decide +kernel) rfl) (pa_cons (pe_bltn (v := .ty "list") (by rfl) T.n_list (by decide +kernel) rfl) pa_nil))) pa_nil)))) pss_never pss_nil)
      (pss_cons (ps_if (PW.pt (pw_or (pt_cmpR op_isN (pv 1) pe_non (nomark _)) (pw_or1 (pt_val (pe_callB call_isi (by rfl) T.n_isinstance (by decide +kernel) (pa_cons (pv 1) (pa_cons (pe_bltn (v := .ty "str") (by rfl) T.n_str (by decide +kernel) rfl) pa_nil))))))) (pss_one (ps_ret (pe_and (pe_cmpR op_eq (pv 0) (pv 1) (nomark _)) (pe_one (pe_cmpR op_eq (pe_callB call_isi (by rfl) T.n_isinstance (by decide +kernel) (pa_cons (pv 0) (pa_cons (pe_bltn (v := .ty "str") (by rfl) T.n_str (by decide +kernel) rfl) pa_nil))) (pe_callB call_isi (by rfl) T.n_isinstance (by decide +kernel) (pa_cons (pv 1) (pa_cons (pe_bltn (v := .ty "str") (by rfl) T.n_str (by decide +kernel) rfl) pa_nil))) (nomark _)))))) pss_nil)
      (pss_one (ps_ret (pe_and (pe_callB call_isi (by rfl) T.n_isinstance (by decide +kernel) (pa_cons (pv 0) (pa_cons (pe_bltn (v := .ty "int") (by rfl) T.n_int (by decide +kernel) rfl) pa_nil))) (pe_and (pe_cmpR op_eq (pe_callB call_isi (by rfl) T.n_isinstance (by decide +kernel) (pa_cons (pv 0) (pa_cons (pe_bltn (v := .ty "bool") (by rfl) T.n_bool (by decide +kernel) rfl) pa_nil))) (pe_callB call_isi (by rfl) T.n_isinstance (by decide +kernel) (pa_cons (pv 1) (pa_cons (pe_bltn (v := .ty "bool") (by rfl) T.n_bool (by decide +kernel) rfl) pa_nil))) (nomark _)) (pe_one (pe_cmpR op_eq (pv 0) (pv 1) (nomark _))))))))), bl_go ?_⟩
    walk_at "no"
    walk_at "yes"
    walk_at "ret"
    rfl
  refine ⟨_, (pss_cons (ps_if (pt_val (pe_callB call_isiT (by rfl) T.n_isinstance (by decide +kernel) (pa_cons (pv 1) (pa_cons (pe_tup (pa_cons (pe_bltn (v := .ty "tuple") (by rfl) T.n_tuple (by decide +kernel) rfl) (pa_cons (pe_bltn (v := .ty "list") (by rfl) T.n_list (by decide +kernel) rfl) pa_nil))) pa_nil)))) (pss_cons (ps_if (PW.pt (pw_or (pt_not (pt_val (pe_callB call_isiT (by rfl) T.n_isinstance (by decide +kernel) (pa_cons (pv 0) (pa_cons (pe_tup (pa_cons (pe_bltn (v := .ty "tuple") (by rfl) T.n_tuple (by decide +kernel) rfl) (pa_cons (pe_bltn (v := .ty "list") (by rfl) T.n_list (by decide +kernel) rfl) pa_nil))) pa_nil))))) (pw_or1 (pt_cmpR op_ne (pe_callB call_isi (by rfl) T.n_isinstance (by decide +kernel) (pa_cons (pv 0) (pa_cons (pe_bltn (v := .ty "list") (by rfl) T.n_list (by decide +kernel) rfl) pa_nil))) (pe_callB call_isi (by rfl) T.n_isinstance (by decide +kernel) (pa_cons (pv 1) (pa_cons (pe_bltn (v := .ty "list") (by rfl) T.n_list (by decide +kernel) rfl) pa_nil))) (nomark _))))) (pss_one (ps_ret pe_bl)) pss_nil)
      (pss_cons (ps_if (pt_cmpR op_ne (pe_callB call_len_seq (by rfl) T.n_len (by decide +kernel) (pa_cons (pv 0) pa_nil)) (pe_callB call_len_seq (by rfl) T.n_len (by decide +kernel) (pa_cons (pv 1) pa_nil)) (nomark _)) (pss_one (ps_ret pe_bl)) pss_nil)
      (pss_one (ps_ret (pe_cmpR (op_eqD hr.units) (pe_lc (own := [("k", 2)]) (g := gName 2) (by rfl) sc__law_alike.nd (pi_range1 rfl T.n_range (pa_cons (pe_callB call_len_seq (by rfl) T.n_len (by decide +kernel) (pa_cons (pv 1) pa_nil)) pa_nil)) (blkOk_by (own := [("k", 2)]) (N := N__law_alike) (sc := defScope s__law_alike) (by decide +kernel)) (fun _ _ _ _ _ => pg_name (i := 2) sc__law_alike.nd rfl (Or.inl rfl)) (fun _ _ _ _ _ => pts_one (pt_not (pt_val (pe_own c__law_alike (hr.mono (by decide)) rfl pass0 (pa_cons (pe_ix (r := rIxT K) ix_tup (pv 0) (pv 2) (fun _ _ => rfl)) (pa_cons (pe_ix (r := rIxT K) ix_tup (pv 1) (pv 2) (fun _ _ => rfl)) pa_nil)))))) (fun _ _ _ _ _ => (pv 2))) (pe_lst pa_nil) (nomark _)))))) pss_nil) pss_never), bl_go ?_⟩
  refine bl_if (b := true) (et_B (ev_isTT (ev_var rfl) hq)) (fun _ => ?_) (fun z => by cases z)
  refine bl_when (b := false) ?_ (fun z => by cases z) (fun _ => ?_)
  · refine et_is (et_or (a := false) (b := false) (et_is (et_not (et_B (ev_isTT (ev_var rfl) hp))) rfl) (fun _ => ?_)) rfl
    walk_at "et"
  refine bl_when (b := false) ?_ (fun z => by cases z) (fun _ => ?_)
  · refine et_is (b := false) (a := !decide (V.int (xs.length : Int) = V.int (xs.length : Int))) (by walk_at "et") (by simp)
  refine bl_retE (v := .bl true) (nil_eq (el_is (el_lcR1 (n := (xs.length : Int)) (fun _ => false) (fun i => .int i) (by walk_at "ea") (by omega) (fun x => rfl) (fun i H1 e1 hi => ?_) (fun i H1 e1 hi z => by cases z)) (given_nil fun i _ => rfl))) k rfl
  have hi' : i < xs.length := by omega
  have ha : atI xs (i : Int) = some xs[i] := atI_nat (List.getElem?_eq_getElem hi')
  have fl : flatV xs[i] = true := hf _ (List.getElem_mem hi')
  have e : EvT (tNot (tB (tCall (Pu (R__law_alike K)) [] E0 (tCons (tOp (rIxT K) (tVar 0) (tVar 2)) (tCons (tOp (rIxT K) (tVar 1) (tVar 2)) tNil))))) [some (.ref p), some (.ref q), some (.int (i : Int))] H1 false :=
    et_is (et_not (et_B (ev_own (ea_cons (ev_op (ev_var rfl) (ev_var rfl) (rv_ixT (ex_t e1 hp) ha)) (ea_cons (ev_op (ev_var rfl) (ev_var rfl) (rv_ixT (ex_t e1 hq) ha)) ea_nil)) (fun H2 e2 => r__law_alike fl)))) rfl
  exact e

/-- x in a tuple, of data of any depth -/
def rInTu (K : PySem.W.Frag) : R2 := fun x y H Q => ∃ d ds, Dp K H x d ∧ Dp K H y (.tuple ds) ∧ SeqAt.shaped d = true ∧ SeqAt.shaped (.tuple ds) = true ∧ Q (.bl (ds.any fun z => PyData.eqv z d)) H
theorem op_inTu {X : Cx} (hu : X.A.units + 65 < cLine) : OpR X (compareOp .In) (rInTu X.K) := by
  intro pins s σ H x y v u Q I rx ry h
  obtain ⟨d, ds, hd, he, sd, se, q⟩ := h
  obtain ⟨as, r1⟩ := Dp.reads I d x v hd rx
  obtain ⟨bs, r2⟩ := Dp.reads I (.tuple ds) y u he ry
  exact SeqAt.in_tuple_reads r2 r1 (SeqAt.canLay_of_shaped se) (SeqAt.canLay_of_shaped sd) (room_in_shaped sd hu) ⟨.bl _, H, I, rfl, q⟩
theorem sh_of {d : PyData} (h1 : PyData.canLay0 d = true) (h2 : PyData.depth d ≤ 64) : SeqAt.shaped d = true := by
  show (PyData.canLay0 d && decide (PyData.depth d ≤ 64)) = true
  rw [Bool.and_eq_true]
  exact ⟨h1, decide_eq_true h2⟩
/-! texts in a tuple, as data -/
def tD (k : List Str) : List PyData := k.map PyData.str
theorem dp_tD {H : Hp} : ∀ k : List Str, DpAll K H (k.map V.str) (tD k)
  | [] => .nil
  | x :: k => .cons (.str x) (dp_tD k)
theorem lay_tD : ∀ rs : List Rl, PyData.canLayAll0 (tD (rs.map rlS)) = true
  | [] => by simp [tD, PyData.canLayAll0]
  | r :: rs => by
    have e : PyData.strOk (rlS r) = true := by cases r <;> decide +kernel
    have ih := lay_tD rs
    unfold tD at ih ⊢
    simp only [List.map_cons, PyData.canLayAll0, PyData.canLay0, ih, e, Bool.and_self]
theorem dep_tD : ∀ k : List Str, PyData.depthAll (tD k) ≤ 1
  | [] => by simp [tD, PyData.depthAll]
  | r :: rs => by
    have := dep_tD rs
    unfold tD at this ⊢
    simp only [List.map_cons, PyData.depthAll, PyData.depth]
    omega
theorem eqv_tD : ∀ k : List Str, PyData.eqvAll (tD k) (tD k) = true
  | [] => by simp [tD, PyData.eqvAll]
  | r :: rs => by
    have := eqv_tD rs
    unfold tD at this ⊢
    simp [PyData.eqvAll, PyData.eqv, this]
def kD (k : List Str) : PyData := .tuple (tD k)
theorem lay_kD {k : List Str} (h : k ∈ profS) : PyData.canLay0 (kD k) = true := by
  obtain ⟨k0, _, rfl⟩ := List.mem_map.mp h
  simp only [kD, PyData.canLay0]
  exact lay_tD k0
theorem dep_kD (k : List Str) : PyData.depth (kD k) ≤ 2 := by
  have := dep_tD k
  simp only [kD, PyData.depth]
  omega
theorem sh_kD {k : List Str} (h : k ∈ profS) : SeqAt.shaped (kD k) = true := sh_of (lay_kD h) (by have := dep_kD k; omega)
theorem eqv_kD (k : List Str) : PyData.eqv (kD k) (kD k) = true := by
  have := eqv_tD k
  simp only [kD, PyData.eqv, this]
theorem lay_ks : ∀ l : List (List Str), (∀ k ∈ l, k ∈ profS) → PyData.canLayAll0 (l.map kD) = true
  | [], _ => by simp [PyData.canLayAll0]
  | k :: l, h => by
    have e := lay_kD (h k List.mem_cons_self)
    have ih := lay_ks l fun k hk => h k (List.mem_cons_of_mem _ hk)
    simp [PyData.canLayAll0, ih, e]
theorem dep_ks : ∀ l : List (List Str), PyData.depthAll (l.map kD) ≤ 2
  | [] => by simp [PyData.depthAll]
  | k :: l => by
    have := dep_ks l
    have := dep_kD k
    simp only [List.map_cons, PyData.depthAll]
    omega
theorem sh_ks {l : List (List Str)} (h : ∀ k ∈ l, k ∈ profS) : SeqAt.shaped (.tuple (l.map kD)) = true := sh_of (by simp only [PyData.canLay0]; exact lay_ks l h) (by have := dep_ks l; simp only [PyData.depth]; omega)
theorem dp_ks {H : Hp} : ∀ N : List Tx, (∀ a ∈ N, SqT K H a.1 (a.2.map V.str)) → DpAll K H (rfs N) ((N.map (·.2)).map kD)
  | [], _ => .nil
  | a :: N, h => .cons (.tup (h a List.mem_cons_self) (dp_tD a.2)) (dp_ks N fun b hb => h b (List.mem_cons_of_mem _ hb))
theorem any_ks {l : List (List Str)} {k : List Str} (h : k ∈ l) : ((l.map kD).any fun z => PyData.eqv z (kD k)) = true :=
  List.any_eq_true.mpr ⟨_, List.mem_map.mpr ⟨k, h, rfl⟩, eqv_kD k⟩
/-! formats as data -/
def fD (f : Fmt) : PyData := .tuple [.int f.w, .str (sgS f.sg), .str (ovS f.ov), .str (dvS f.dv)]
theorem dp_fD {H : Hp} {p : Addr} {f : Fmt} (h : SqT K H p (fV f)) : Dp K H (.ref p) (fD f) := .tup h (.cons (.int _) (.cons (.str _) (.cons (.str _) (.cons (.str _) .nil))))
theorem lay_fD (f : Fmt) : PyData.canLay0 (fD f) = true := by
  have e1 : PyData.strOk (sgS f.sg) = true := by cases f.sg <;> decide +kernel
  have e2 : PyData.strOk (ovS f.ov) = true := by cases f.ov <;> decide +kernel
  have e3 : PyData.strOk (dvS f.dv) = true := by cases f.dv <;> decide +kernel
  simp [fD, PyData.canLay0, PyData.canLayAll0, e1, e2, e3]
theorem dep_fD (f : Fmt) : PyData.depth (fD f) ≤ 2 := by simp only [fD, PyData.depth, PyData.depthAll]; omega
theorem lay_fs : ∀ l : List Fmt, PyData.canLayAll0 (l.map fD) = true
  | [] => by simp [PyData.canLayAll0]
  | f :: l => by simp [PyData.canLayAll0, lay_fs l, lay_fD f]
theorem dep_fs : ∀ l : List Fmt, PyData.depthAll (l.map fD) ≤ 2
  | [] => by simp [PyData.depthAll]
  | f :: l => by
    have := dep_fs l
    have := dep_fD f
    simp only [List.map_cons, PyData.depthAll]
    omega
theorem sh_fs (l : List Fmt) : SeqAt.shaped (.list (l.map fD)) = true := sh_of (by simp only [PyData.canLay0]; exact lay_fs l) (by have := dep_fs l; simp only [PyData.depth]; omega)
theorem dp_fs {H : Hp} : ∀ {ps : List V} {l : List Fmt}, Paired (IsF K H) ps l → DpAll K H ps (l.map fD)
  | _, _, .nil => .nil
  | _, _, .cons h r => by
    obtain ⟨p, rfl, h⟩ := h
    exact .cons (dp_fD h) (dp_fs r)
theorem eqv_fs : ∀ l : List Fmt, PyData.eqv (.list (l.map fD)) (.list []) = l.isEmpty
  | [] => by simp [PyData.eqv, PyData.eqvAll]
  | _ :: _ => by simp [PyData.eqv, PyData.eqvAll]
section
variable {σ : L2.St} {H : Hp} {ta : TE} {q : Addr} {ps : List V} {l : List Fmt}
theorem ev_fsNil (h : Ev ta σ H (.ref q)) (hq : SqL K H q ps) (hp : Paired (IsF K H) ps l) : Ev (tOp (rEqD K) ta (tLst tNil)) σ H (.bl l.isEmpty) :=
  ev_opL h (el_lst ea_nil (Nat.zero_le _)) fun p H1 hp1 e1 H2 e2 Q k =>
    ⟨.list (l.map fD), .list [], .lst (ex_l (e1.trans e2) hq) (dp_fs (isF_ex (e1.trans e2) hp)), .lst (sq_of (e2 _ _ hp1)) .nil, sh_fs l, by decide +kernel, by rw [eqv_fs]; exact k H2 (Ex.refl H2)⟩
theorem ev_fsNe (h : Ev ta σ H (.ref q)) (hq : SqL K H q ps) (hp : Paired (IsF K H) ps l) : Ev (tOp (rNeD K) ta (tLst tNil)) σ H (.bl (!l.isEmpty)) :=
  ev_opL h (el_lst ea_nil (Nat.zero_le _)) fun p H1 hp1 e1 H2 e2 Q k =>
    ⟨.list (l.map fD), .list [], .lst (ex_l (e1.trans e2) hq) (dp_fs (isF_ex (e1.trans e2) hp)), .lst (sq_of (e2 _ _ hp1)) .nil, sh_fs l, by decide +kernel, by rw [eqv_fs]; exact k H2 (Ex.refl H2)⟩
end
end
end KC

set_option maxHeartbeats 4000000
namespace KC
open PySem PySem.Spec PyProof.Rows L2 Evl WM WL WLam WX WT WU StX LamX
local macro_rules | `(tactic| walk_at "ev") => `(tactic| first
  | exact ev_c
  | exact ev_var rfl
  | ((with_reducible apply ev_op); (walk_at "ev"); (walk_at "ev"); (walk_at "rv"))
  | ((with_reducible apply ev_un); (walk_at "ev"); exact ru_neg)
  | ((with_reducible apply ev_notV); (walk_at "ev"))
  | ((with_reducible apply ev_andV); (walk_at "ev"); (intro _; walk_at "ev"))
  | ((with_reducible apply ev_orV); (walk_at "ev"); (intro _; walk_at "ev"))
  | ((with_reducible apply ev_ifT); (walk_at "et"); (exact rfl); (walk_at "ev"))
  | ((with_reducible apply ev_ifF); (walk_at "et"); (exact rfl); (walk_at "ev"))
  | ((with_reducible apply ev_ifB); (walk_at "et"); (intro _; walk_at "ev"); (intro _; walk_at "ev"))
  | ((with_reducible apply ev_chainI); (walk_at "ev"); (walk_at "ev"); (walk_at "ev"))
  | ((with_reducible apply ev_own); (walk_at "ea"); (intro _ _; walk_at "own"))
  | ((with_reducible apply ev_ddS); (walk_at "dp"); (exact Nat.le_of_ble_eq_true rfl); (walk_at "ev"); (exact rfl))
  | ((with_reducible apply ev_isiT); (walk_at "ev"); (walk_at "ea"); (walk_at "isiT"))
  | ((with_reducible apply ev_cb); (walk_at "ea"); (walk_at "rc")))
local macro_rules | `(tactic| walk_at "dp") => `(tactic| first
  | exact Paired.nil
  | ((with_reducible apply dp_cons); (exact ev_c); (walk_at "ev"); (walk_at "dp")))
local macro_rules | `(tactic| walk_at "ea") => `(tactic| first
  | exact ea_nil
  | ((with_reducible apply ea_cons); (walk_at "ev"); (walk_at "ea")))
local macro_rules | `(tactic| walk_at "et") => `(tactic| first
  | ((with_reducible apply et_test); (walk_at "ev"))
  | ((with_reducible apply et_B); (walk_at "ev"))
  | ((with_reducible apply et_not); (walk_at "et"))
  | ((with_reducible apply et_and); (walk_at "et"); (intro _; walk_at "et"))
  | ((with_reducible apply et_or); (walk_at "et"); (intro _; walk_at "et")))
local macro_rules | `(tactic| walk_at "rv") => `(tactic| first
  | exact rv_I0
  | exact rv_eq rfl
  | exact rv_ne rfl
  | exact rv_isT (by assumption) rfl rfl
  | exact rv_niT (by assumption) rfl rfl
  | exact rv_isL (by assumption) rfl rfl
  | exact rv_niL (by assumption) rfl rfl
  | exact rv_ixT (by assumption) rfl
  | exact rv_ixL (by assumption) rfl
  | exact rv_ixL (by assumption) (by assumption)
  | (apply rv_I; (walk_at "side")))
local macro_rules | `(tactic| walk_at "side") => `(tactic| first
  | assumption
  | (refine And.intro ?_ (And.intro ?_ ?_) <;> (try dsimp only) <;> first | omega | decide)
  | (dsimp only; omega)
  | omega)
local macro_rules | `(tactic| walk_at "rc") => `(tactic| first
  | exact rc_abs | exact rc_max2 | exact rc_min2 | exact rc_int | exact rc_intB
  | exact rc_isi_int (b := true) (by decide +kernel)
  | exact rc_isi_int (b := false) (by decide +kernel)
  | exact rc_isi_bl (b := true) (by decide +kernel)
  | exact rc_isi_bl (b := false) (by decide +kernel)
  | exact rc_isi_str (b := true) (by decide +kernel)
  | exact rc_isi_str (b := false) (by decide +kernel)
  | exact rc_isi_T (b := true) (by assumption) (by decide +kernel)
  | exact rc_isi_T (b := false) (by assumption) (by decide +kernel)
  | exact rc_lenT (by assumption)
  | exact rc_lenL (by assumption))
local macro_rules | `(tactic| walk_at "set") => `(tactic| ((with_reducible apply bl_set); (walk_at "ev")))
local macro_rules | `(tactic| walk_at "drop") => `(tactic| ((with_reducible apply bl_drop); (walk_at "ev")))
local macro_rules | `(tactic| walk_at "par") => `(tactic| ((with_reducible apply bl_par); (walk_at "ea")))
local macro_rules | `(tactic| walk_at "if") => `(tactic| ((with_reducible apply bl_when); (walk_at "et")))
local macro_rules | `(tactic| walk_at "no") => `(tactic| ((with_reducible apply bl_when); (walk_at "et"); (intro h; exact absurd (show false = true from h) (by decide)); (intro _)))
local macro_rules | `(tactic| walk_at "yes") => `(tactic| ((with_reducible apply bl_when); (walk_at "et"); rotate_left; (intro h; exact absurd (show true = false from h) (by decide)); (intro _)))
local macro_rules | `(tactic| walk_at "ret") => `(tactic| ((with_reducible apply bl_retE); rotate_left; assumption; rotate_right; (walk_at "ev")))
local macro_rules | `(tactic| walk_at "absurd") => `(tactic| first | exact absurd (show false = true from (by assumption)) (by decide) | exact absurd (show true = false from (by assumption)) (by decide))
local macro_rules | `(tactic| walk_at "rv") => `(tactic| first | exact rv_isN (s := []) | exact rv_notKD (by assumption) | exact rv_inKD (by assumption) | exact rv_ixKD (by assumption))
local macro_rules | `(tactic| walk_at "isiT") => `(tactic| ((exact Nat.le_of_ble_eq_true rfl); (exact .cons (.ty _) (.cons (.ty _) .nil)); (first | exact fun _ _ => .base (.int _) | exact fun _ _ => .base (.bl _) | exact fun _ _ => .base (.str _) | exact fun _ _ => .base .non); (exact kitAny_no (by decide +kernel) (by decide +kernel))))
local macro_rules | `(tactic| walk_at "rc") => `(tactic| first | exact rc_isi_non (b := true) (by decide +kernel) | exact rc_isi_non (b := false) (by decide +kernel))
local macro_rules | `(tactic| walk_at "eu") => `(tactic| first
  | ((with_reducible apply eu_own); (walk_at "ea"); (intro _ _; walk_at "own"))
  | ((with_reducible apply eu_tup); (walk_at "ea"); (exact Nat.le_of_ble_eq_true rfl)))
local macro_rules | `(tactic| walk_at "ev") => `(tactic| ((with_reducible apply ev_own1U); (walk_at "eu"); (walk_at "ea"); (intro _ _ _ _; walk_at "own1")))
local macro_rules | `(tactic| walk_at "isr") => `(tactic| first | with_reducible exact isr_r | with_reducible exact isr_i | ((with_reducible apply isr_if) <;> (walk_at "isr")))
local macro_rules | `(tactic| walk_at "osm") => `(tactic| first | with_reducible assumption | with_reducible exact osm_add | with_reducible exact osm_sub | with_reducible exact osm_mul | with_reducible exact osm_dvo | with_reducible exact osm_neg | with_reducible exact osm_rem | with_reducible exact osm_do | with_reducible exact osm_div | with_reducible exact osm_fit | ((with_reducible apply osm); assumption) | ((with_reducible apply osm); exact (show (0 : Int).natAbs < 2 ^ 70 by decide)) | ((with_reducible apply osm); exact (show (2 : Int).natAbs < 2 ^ 70 by decide)) | ((with_reducible apply osm_if) <;> (walk_at "osm")))
local macro_rules | `(tactic| walk_at "ev") => `(tactic| first
  | ((with_reducible apply ev_inLst); (walk_at "ev"); (walk_at "ea"); (exact Nat.le_of_ble_eq_true rfl); (exact rfl); (first | exact rfl | simp [flatV])))
local macro_rules | `(tactic| walk_at "rv") => `(tactic| first | exact rv_eq scal_rv | exact rv_ne scal_rv | exact rv_eq (scal_rv (y := some _)) | exact rv_ne (scal_rv (y := some _)) | exact rv_eq (scal_rv (y := none)) | exact rv_ne (scal_rv (y := none)))
local macro_rules | `(tactic| walk_at "nz") => `(tactic| first | with_reducible assumption | ((with_reducible apply nz_i); (first | assumption | decide)))
local macro_rules | `(tactic| walk_at "ev") => `(tactic| ((with_reducible apply ev_inU); (walk_at "ev"); (walk_at "eu"); (exact rfl); (exact rfl)))
section
variable {P : Program} {w : World} {K : PySem.W.Frag} {mg : Str → Option Value} {base : Heap}
local macro_rules | `(tactic| walk_at "own") => `(tactic| first
  | exact r__law_do_sub0 (ex_t (by assumption) (by assumption)) (by assumption))
local macro_rules | `(tactic| walk_at "own") => `(tactic| first
  | exact r_is_whole (by first | assumption | exact .int _ | exact Wh.ex (by assumption) (by assumption))
  | exact r_are_choices 
  | exact r_is_format (ex_t (by assumption) (by assumption))
  | exact r_check_format (ex_t (by assumption) (by assumption))
  | exact r_is_rule 
  | exact r_check_rule 
  | exact r_rules
  | exact r__check_exponent (by assumption) (by assumption)
  | exact r__passes_lucas_lehmer (by assumption) (by assumption) (by assumption)
  | exact r_is_mersenne (by assumption) (by assumption)
  | exact r__sum_grouping 
  | exact r__product_grouping 
  | exact r__distribution 
  | exact r__negatives 
  | exact r__add_back 
  | exact r__division 
  | exact r__remainder_range 
  | exact r__negated_quotient 
  | exact r__shift 
  | exact r__absolute_value 
  | exact r__order_by_difference 
  | exact r__monotone_sum 
  | exact r__average 
  | exact r__square 
  | exact r__zero_product 
  | exact r__cancellation 
  | exact r_meets_condition (ex_t (by assumption) (by assumption))
  | exact r_profile (ex_t (by assumption) (by assumption))
  | exact r_implies 
  | exact r__law_do_sub0 (ex_t (by assumption) (by assumption)) (by assumption)
  | exact r__law_prime 
  | exact r__law_holds (ex_t (by assumption) (by assumption))
  | exact r__law_alike (by assumption)
  | exact r__law_profile (ex_t (by assumption) (by assumption))
  | exact ⟨rfl, rfl⟩)
section
variable {F : V → Fmt → Prop}
theorem paired_zip : ∀ {ps : List V} {as : List Fmt}, Paired F ps as → ∃ zs : List (V × Fmt), ps = zs.map (·.1) ∧ as = zs.map (·.2) ∧ ∀ z ∈ zs, F z.1 z.2
  | _, _, .nil => ⟨[], rfl, rfl, fun _ h => nomatch h⟩
  | v :: _, a :: _, .cons h r => by
    obtain ⟨zs, h1, h2, h3⟩ := paired_zip r
    refine ⟨(v, a) :: zs, by rw [h1]; rfl, by rw [h2]; rfl, fun z hz => ?_⟩
    rcases List.mem_cons.mp hz with rfl | hz
    · exact h
    · exact h3 z hz
theorem paired_maps : ∀ {zs : List (V × Fmt)}, (∀ z ∈ zs, F z.1 z.2) → Paired F (zs.map (·.1)) (zs.map (·.2))
  | [], _ => .nil
  | z :: zs, h => .cons (h z List.mem_cons_self) (paired_maps fun y hy => h y (List.mem_cons_of_mem _ hy))
end
theorem prof_flat (f : Fmt) : ∀ x ∈ WJ.profV f, flatV x = true := fun x hx => by
  rw [profV_key] at hx
  obtain ⟨y, _, rfl⟩ := List.mem_map.mp hx
  rfl
theorem key_len (f : Fmt) : (keyF f).length ≤ 17 := by
  unfold keyF keysR
  rw [List.length_map]
  exact Nat.le_trans (List.length_filter_le _ _) (by decide)
theorem prof_len40 (f : Fmt) : (WJ.profV f).length ≤ 40000 := by
  rw [profV_key, List.length_map]
  exact Nat.le_trans (key_len f) (by decide)
section
variable {σ : L2.St} {H : Hp} {tl t5 t6 t8 : TE} {l : Addr} {ps : List V} {fs : List Fmt} {E E1 E2 : XK} {r q : Rl}
theorem el_due (hv : Ev tl σ H (.ref l)) (hl : SqL K H l ps) (pr : Paired (IsF K H) ps fs) (hz : fs.length ≤ 40000) (hw : ∀ x, wipe ((wipe σ [7]).set 7 (some x)) [7] = wipe σ [7])
    (h7 : ∀ x, ((wipe σ [7]).set 7 (some x))[7]? = some (some x)) (h5 : ∀ x, ((wipe σ [7]).set 7 (some x))[5]? = some (some (.str (rlS r)))) (h6 : ∀ x, ((wipe σ [7]).set 7 (some x))[6]? = some (some (.str (rlS q)))) :
    ∃ psd, Paired (IsF K H) psd (fs.filter fun f => holdsB f r && !holdsB f q) ∧ EvL (tLc (iList K tl) (gName 7) (tAnd (tB (tCall (Pu (R__law_holds K)) [] E1 (tCons (tVar 7) (tCons (tVar 5) tNil)))) (tNot (tB (tCall (Pu (R__law_holds K)) [] E2 (tCons (tVar 7) (tCons (tVar 6) tNil)))))) (tVar 7) [7]) σ H psd := by
  obtain ⟨zs, rfl, rfl, hF⟩ := paired_zip pr
  rw [List.length_map] at hz
  have g := WJ.given_filt zs (fun z : V × Fmt => holdsB z.2 r && !holdsB z.2 q) (fun z => z.1)
  refine ⟨(zs.filter fun z : V × Fmt => holdsB z.2 r && !holdsB z.2 q).map (·.1), ?_, WU.el_is (el_lcL (xs := zs.map (·.1)) (fun i => (zs[i]?.map fun z => holdsB z.2 r && !holdsB z.2 q).getD false) (fun i => (zs[i]?.map fun z => z.1).getD .non) hv hl (by rw [List.length_map]; exact hz) hw (fun i x H1 e hi => ?_) (fun i x H1 e hi hb => ?_)) (by rw [List.length_map]; exact g)⟩
  · rw [List.filter_map]
    exact paired_maps fun z hz => hF z (List.mem_filter.mp hz).1
  · obtain ⟨z, hz, rfl⟩ := WJ.at_map hi
    rw [hz]
    obtain ⟨pa, ez, hpa⟩ := hF z (List.mem_of_getElem? hz)
    rw [ez] at *
    exact et_and (et_B (ev_own (ea_cons (ev_var (h7 _)) (ea_cons (ev_var (h5 _)) ea_nil)) (fun H2 e2 => r__law_holds (ex_t (e.trans e2) hpa)))) (fun _ => et_not (et_B (ev_own (ea_cons (ev_var (h7 _)) (ea_cons (ev_var (h6 _)) ea_nil)) (fun H2 e2 => r__law_holds (ex_t (e.trans e2) hpa)))))
  · obtain ⟨z, hz, rfl⟩ := WJ.at_map hi
    rw [hz]
    exact ev_var (h7 _)
theorem head_no (l : List Fmt) : l.head?.isNone = l.isEmpty := by cases l <;> rfl
theorem et_impl {psd : List V} (h5 : Ev t5 σ H (.str (rlS r))) (h6 : Ev t6 σ H (.str (rlS q))) (h8 : Ev t8 σ H (.ref l)) (hl : SqL K H l psd) (hp : Paired (IsF K H) psd (dueF r q)) :
    EvT (tNot (tB (tCall (Pu (R__law_alike K)) [] E (tCons (tCall (Pu (R_implies K)) [] E1 (tCons t5 (tCons t6 tNil))) (tCons (tOp (rEqD K) t8 (tLst tNil)) tNil))))) σ H false := by
  have e : (firstP r q).isNone = (dueF r q).isEmpty := by rw [← due_first, head_no]
  refine et_is (et_not (a := true) (et_B (ev_own (ea_cons (ev_own (ea_cons h5 (ea_cons h6 ea_nil)) (fun _ _ => r_implies (r := r) (q := q))) (ea_cons (ev_fsNil h8 hl hp) ea_nil)) (fun H2 e2 => ?_)))) rfl
  exact ⟨.bl (firstP r q).isNone, by rw [e], rfl, rfl⟩
theorem et_part {psd : List V} (h5 : Ev t5 σ H (.str (rlS r))) (h6 : Ev t6 σ H (.str (rlS q))) (h8 : Ev t8 σ H (.ref l)) (hl : SqL K H l psd) (hp : Paired (IsF K H) psd (dueF r q)) :
    EvT (tNot (tB (tCall (Pu (R_alikeu K)) [] E (tCons (tCall (SpPart K) [] E1 (tCons t5 (tCons t6 tNil))) (tCons (tIf (tTest (tOp (rNeD K) t8 (tLst tNil))) (tOp (rIxL K) t8 (tC (.int 0))) (tC .non)) tNil))))) σ H false := by
  refine et_is (et_not (a := true) (et_B fun H1 e Q k => ?_)) rfl
  refine h5 H1 e _ fun H2 e2 => h6 H2 (e.trans e2) _ fun H3 e3 => ?_
  have x3 := (e.trans e2).trans e3
  have df := due_first r q
  have ne := ev_fsNe h8 hl hp
  change SpPart K [.str (rlS r), .str (rlS q)] H3 (fun x H1 => tIf (tTest (tOp (rNeD K) t8 (tLst tNil))) (tOp (rIxL K) t8 (tC (V.int 0))) (tC V.non) σ H1 fun y H2 => Pu (R_alikeu K) [x, y] H2 Q E) E1
  cases hd : dueF r q with
  | nil =>
    rw [hd] at df hp ne
    refine ⟨r, q, rfl, fun f hf => (by rw [← df] at hf; cases hf), fun _ H4 e4 => ?_⟩
    refine (ev_ifF (et_test ne) rfl ev_c : Ev (tIf _ _ _) σ H .non) H4 (x3.trans e4) _ fun H5 e5 => ?_
    exact ⟨.bl true, .inl ⟨rfl, rfl⟩, fun H6 e6 => k H6 ((((e2.trans e3).trans e4).trans e5).trans e6)⟩
  | cons f fs =>
    rw [hd] at df hp ne
    cases hp with
    | cons h0 rest =>
      obtain ⟨p0, rfl, hp0⟩ := h0
      refine ⟨r, q, rfl, fun f2 hf p H4 e4 h4 => ?_, fun hn => (by rw [← df] at hn; cases hn)⟩
      rw [← df] at hf
      cases hf
      refine (ev_ifT (et_test ne) rfl (ev_op h8 ev_c (rv_ixL hl (atI_nat (j := 0) rfl))) : Ev (tIf _ _ _) σ H (.ref p0)) H4 (x3.trans e4) _ fun H5 e5 => ?_
      exact ⟨.bl true, .inr ⟨p, p0, fV f, rfl, ex_t e5 h4, ex_t ((x3.trans e4).trans e5) hp0, fun x hx => (by
        simp only [fV, List.mem_cons, List.not_mem_nil, or_false] at hx
        rcases hx with rfl | rfl | rfl | rfl <;> rfl), Nat.le_of_ble_eq_true rfl, rfl⟩, fun H6 e6 => k H6 ((((e2.trans e3).trans e4).trans e5).trans e6)⟩
/-- the profiles of some formats in a new list -/
theorem q_profs {G0 : Hp} {Q : VK} (hv : Ev tl σ H (.ref l)) (hl : SqL K H l ps) (pr : Paired (IsF K H) ps fs) (hz : fs.length ≤ 40000) (hw : ∀ x, wipe ((wipe σ [7]).set 7 (some x)) [7] = wipe σ [7]) (h7 : ∀ x, ((wipe σ [7]).set 7 (some x))[7]? = some (some x)) (e0 : Ex H G0)
    (k : ∀ m G (N : List Tx), Ex G0 G → G m = some (.lst (rfs N)) → (∀ a ∈ N, SqT K G a.1 (a.2.map V.str)) → N.map (·.2) = fs.map keyF → Q (.ref m) G) : tLc (iList K tl) (gName 7) tYes (tCall (PuT (R__law_profile K)) [] E (tCons (tVar 7) tNil)) [7] σ G0 Q := by
  obtain ⟨zs, rfl, rfl, hF⟩ := paired_zip pr
  rw [List.length_map] at hz
  refine hv G0 e0 _ fun H1 e1 => ⟨l, rfl, ⟨_, ex_l (e0.trans e1) hl⟩, fun D hD => ?_⟩
  refine lc_list (xs := zs.map (·.1)) (fun i G => Ex H1 G ∧ ∃ N : List Tx, G D = some (.lst (rfs N)) ∧ (∀ a ∈ N, SqT K G a.1 (a.2.map V.str)) ∧ N.map (·.2) = ((zs.take i).map (·.2)).map keyF) ⟨Ex.new hD, [], upd_same, (fun _ h => nomatch h), rfl⟩ (fun i G _ p => ex_l ((e0.trans e1).trans p.1) hl) (fun i x G hi p => ?_) (fun G p => ?_)
  · obtain ⟨x1, N, hN, tN, kN⟩ := p
    obtain ⟨z, hz2, rfl⟩ := WJ.at_map hi
    obtain ⟨pa, ez, hpa⟩ := hF z (List.mem_of_getElem? hz2)
    refine ⟨hw _, ?_⟩
    show tCall (PuT (R__law_profile K)) [] E (tCons (tVar 7) tNil) ((wipe σ [7]).set 7 (some z.1)) G _
    refine ⟨z.1, h7 _, ?_⟩
    show PuT (R__law_profile K) [z.1] G _ E
    rw [ez]
    refine ⟨WJ.profV z.2, r__law_profile (ex_t ((e0.trans e1).trans x1) hpa), fun pn G2 hpn e2 h2 => ⟨rfs N, e2 _ _ hN, ?_, Ex.mut (x1.trans e2) hD, N ++ [(pn, keyF z.2)], ?_, fun a ha => ?_, ?_⟩⟩
    · have z1 := congrArg List.length kN
      rw [List.length_map, List.length_map, List.length_map, List.length_take] at z1
      exact sz_lt (n := (rfs N).length) (by unfold rfs; rw [List.length_map]; omega)
    · rw [upd_same]
      unfold rfs
      rw [List.map_append]
      rfl
    · have up : ∀ (b : Addr) (xs : List V), SqT K G2 b xs → SqT K (upd G2 D (.lst (rfs N ++ [.ref pn]))) b xs := fun b xs y => WTs.sqT_upd (e2 _ _ hN) (fun _ z => by cases z) (fun _ _ z => by cases z) y
      rcases List.mem_append.mp ha with ha | ha
      · exact up _ _ (ex_t e2 (tN a ha))
      · rw [List.mem_singleton.mp ha]
        refine up _ _ (st_of ?_)
        rw [h2, profV_key]
    · rw [List.take_add_one, hz2, List.map_append, List.map_append, List.map_append, kN]
      rfl
  · obtain ⟨x1, N, hN, tN, kN⟩ := p
    refine k D G N (e1.trans x1) hN tN ?_
    rw [kN, List.length_map, List.take_length]
end
section
variable {σ : L2.St} {H : Hp} {tl t2 t9 : TE} {l wh p : Addr} {ps : List V} {N0 : List Tx} {f : Fmt} {E E1 : XK}
abbrev rTupOf (K : PySem.W.Frag) : List V → Hp → VK → Prop := fun xs H Q => ∃ p ys, xs = [V.ref p] ∧ ((SqL K H p ys ∧ ∀ (l : Addr), H l = none → Q (V.ref l) (upd H l (HO.tup ys))) ∨ SqT K H p ys ∧ Q (V.ref p) H)
theorem ev_sorted (hv : Ev tl σ H (.ref l)) (hl : SqL K H l ps) (pr : Paired (IsF K H) ps someF) (hw : ∀ x, wipe ((wipe σ [7]).set 7 (some x)) [7] = wipe σ [7]) (h7 : ∀ x, ((wipe σ [7]).set 7 (some x))[7]? = some (some x))
    (h9 : Ev t9 σ H (.ref wh)) (hp : SqT K H wh (rfs N0)) (tx : ∀ a ∈ N0, SqT K H a.1 (a.2.map V.str)) (nd : (N0.map (·.2)).Nodup) (mem : ∀ k, k ∈ N0.map (·.2) ↔ k ∈ profS) (pw : N0.Pairwise (fun q r => WTs.ltK r.2 q.2 = false)) :
    Ev (tCall (Pu (R_aliktt K)) [] E (tCons t9 (tCons (tCB (rTupOf K) (tCons (tCB (WTs.rSortTx P w K) (tCons (tCB (WTs.rSetTx P w K) (tCons (tLc (iList K tl) (gName 7) tYes (tCall (PuT (R__law_profile K)) [] E1 (tCons (tVar 7) tNil)) [7]) tNil)) tNil)) tNil)) tNil))) σ H (.bl true) := by
  intro H1 e1 Q k
  refine h9 H1 e1 _ fun H2 e2 => ?_
  change tLc (iList K tl) (gName 7) tYes (tCall (PuT (R__law_profile K)) [] E1 (tCons (tVar 7) tNil)) [7] σ H2 (fun x H3 => WTs.rSetTx P w K [x] H3 fun y H4 => WTs.rSortTx P w K [y] H4 fun z H5 => rTupOf K [z] H5 fun u H6 => Pu (R_aliktt K) [.ref wh, u] H6 Q E)
  refine q_profs (G0 := H2) hv hl pr (by have z : someF.length = 450 := rfl; omega) hw h7 (e1.trans e2) fun m G N e3 hm tN kN => ?_
  have inP : ∀ a ∈ N, a.2 ∈ profS := fun a ha => by
    have z : a.2 ∈ N.map (·.2) := List.mem_map.mpr ⟨a, ha, rfl⟩
    rw [kN] at z
    exact (keyF_rep _).mp z
  refine ⟨m, N, profS, rfl, sq_of hm, tN, inP, by rw [profS_len]; decide, fun a L ha sub nd2 mem2 => ?_⟩
  have x1 := Ex.new (o := WTs.TbO P w a L) ha
  refine ⟨a, L, rfl, upd_same, fun b hb => ex_t x1 (tN b (sub b hb)), fun b hb => profS_ne _ (inP b (sub b hb)), fun M p2 perm nd3 pw3 hpn => ?_⟩
  have x2 := Ex.new (o := .lst (M.map fun q => V.ref q.1)) hpn
  refine ⟨p2, _, rfl, .inl ⟨sq_of upd_same, fun t ht => ?_⟩⟩
  have x3 := Ex.new (o := .tup (M.map fun q => V.ref q.1)) ht
  have xa := (x1.trans x2).trans x3
  have inM : ∀ b ∈ M, b ∈ N := fun b hb => sub b ((perm.mem_iff).mp hb)
  have eq : N0.map (·.2) = M.map (·.2) := by
    refine sorted_same nd nd3 (fun k => ?_) (List.pairwise_map.mpr pw) (List.pairwise_map.mpr pw3)
    rw [mem k, (perm.map (·.2)).mem_iff, mem2 k, kN]
    exact (keyF_rep k).symm
  have lenN : N0.length ≤ 40000 := by
    have z := ((List.perm_ext_iff_of_nodup nd profS_nd).mpr mem).length_eq
    rw [List.length_map, profS_len] at z
    omega
  refine ⟨.bl true, ⟨wh, t, N0, M, rfl, ex_t ((e1.trans (e2.trans e3)).trans xa) hp, st_of upd_same, fun a ha => ex_t ((e1.trans (e2.trans e3)).trans xa) (tx a ha), fun b hb => ex_t xa (tN b (inM b hb)), eq, fun a ha => ?_, lenN, rfl⟩, fun H6 e6 => k H6 (((e2.trans e3).trans xa).trans e6)⟩
  obtain ⟨k0, h0, e0⟩ := List.mem_map.mp ((mem a.2).mp (List.mem_map.mpr ⟨a, ha, rfl⟩))
  obtain ⟨f, _, ef⟩ := List.mem_map.mp (profS_is.mp ((mem a.2).mp (List.mem_map.mpr ⟨a, ha, rfl⟩)))
  rw [← ef]
  exact Nat.le_trans (key_len f) (by decide)
theorem ev_wholeIn (h2 : Ev t2 σ H (.ref p)) (hf : SqT K H p (fV f)) (h9 : Ev t9 σ H (.ref wh)) (hp : SqT K H wh (rfs N0)) (tx : ∀ a ∈ N0, SqT K H a.1 (a.2.map V.str)) (mem : ∀ k, k ∈ N0.map (·.2) ↔ k ∈ profS) :
    Ev (tOp (rInTu K) (tCall (PuT (R_profile K)) [] E (tCons t2 tNil)) t9) σ H (.bl true) := by
  intro H1 e1 Q k
  refine h2 H1 e1 _ fun H2 e2 => ?_
  change PuT (R_profile K) [.ref p] H2 (fun x H3 => t9 σ H3 fun y H4 => rInTu K x y H4 Q) E
  refine ⟨WJ.profV f, r_profile (ex_t (e1.trans e2) hf), fun pn H3 hpn e3 h3 => h9 H3 ((e1.trans e2).trans e3) _ fun H4 e4 => ?_⟩
  have x4 := ((e1.trans e2).trans e3).trans e4
  rw [profV_key] at h3
  refine ⟨kD (keyF f), (N0.map (·.2)).map kD, .tup (st_of (e4 _ _ h3)) (dp_tD _), .tup (ex_t x4 hp) (dp_ks N0 fun a ha => ex_t x4 (tx a ha)), sh_kD (key_in f), sh_ks fun k hk => (mem k).mp hk, ?_⟩
  rw [any_ks ((mem _).mpr (key_in f))]
  exact k H4 ((e2.trans e3).trans e4)
end
end
end KC

set_option maxHeartbeats 4000000
namespace KC
open PySem PySem.Spec PyProof.Rows L2 Evl WM WL WLam WX WT WU StX LamX
local macro_rules | `(tactic| walk_at "ev") => `(tactic| first
  | exact ev_c
  | exact ev_var rfl
  | ((with_reducible apply ev_op); (walk_at "ev"); (walk_at "ev"); (walk_at "rv"))
  | ((with_reducible apply ev_un); (walk_at "ev"); exact ru_neg)
  | ((with_reducible apply ev_notV); (walk_at "ev"))
  | ((with_reducible apply ev_andV); (walk_at "ev"); (intro _; walk_at "ev"))
  | ((with_reducible apply ev_orV); (walk_at "ev"); (intro _; walk_at "ev"))
  | ((with_reducible apply ev_ifT); (walk_at "et"); (exact rfl); (walk_at "ev"))
  | ((with_reducible apply ev_ifF); (walk_at "et"); (exact rfl); (walk_at "ev"))
  | ((with_reducible apply ev_ifB); (walk_at "et"); (intro _; walk_at "ev"); (intro _; walk_at "ev"))
  | ((with_reducible apply ev_chainI); (walk_at "ev"); (walk_at "ev"); (walk_at "ev"))
  | ((with_reducible apply ev_own); (walk_at "ea"); (intro _ _; walk_at "own"))
  | ((with_reducible apply ev_ddS); (walk_at "dp"); (exact Nat.le_of_ble_eq_true rfl); (walk_at "ev"); (exact rfl))
  | ((with_reducible apply ev_isiT); (walk_at "ev"); (walk_at "ea"); (walk_at "isiT"))
  | ((with_reducible apply ev_cb); (walk_at "ea"); (walk_at "rc")))
local macro_rules | `(tactic| walk_at "dp") => `(tactic| first
  | exact Paired.nil
  | ((with_reducible apply dp_cons); (exact ev_c); (walk_at "ev"); (walk_at "dp")))
local macro_rules | `(tactic| walk_at "ea") => `(tactic| first
  | exact ea_nil
  | ((with_reducible apply ea_cons); (walk_at "ev"); (walk_at "ea")))
local macro_rules | `(tactic| walk_at "et") => `(tactic| first
  | ((with_reducible apply et_test); (walk_at "ev"))
  | ((with_reducible apply et_B); (walk_at "ev"))
  | ((with_reducible apply et_not); (walk_at "et"))
  | ((with_reducible apply et_and); (walk_at "et"); (intro _; walk_at "et"))
  | ((with_reducible apply et_or); (walk_at "et"); (intro _; walk_at "et")))
local macro_rules | `(tactic| walk_at "rv") => `(tactic| first
  | exact rv_I0
  | exact rv_eq rfl
  | exact rv_ne rfl
  | exact rv_isT (by assumption) rfl rfl
  | exact rv_niT (by assumption) rfl rfl
  | exact rv_isL (by assumption) rfl rfl
  | exact rv_niL (by assumption) rfl rfl
  | exact rv_ixT (by assumption) rfl
  | exact rv_ixL (by assumption) rfl
  | exact rv_ixL (by assumption) (by assumption)
  | (apply rv_I; (walk_at "side")))
local macro_rules | `(tactic| walk_at "side") => `(tactic| first
  | assumption
  | (refine And.intro ?_ (And.intro ?_ ?_) <;> (try dsimp only) <;> first | omega | decide)
  | (dsimp only; omega)
  | omega)
local macro_rules | `(tactic| walk_at "rc") => `(tactic| first
  | exact rc_abs | exact rc_max2 | exact rc_min2 | exact rc_int | exact rc_intB
  | exact rc_isi_int (b := true) (by decide +kernel)
  | exact rc_isi_int (b := false) (by decide +kernel)
  | exact rc_isi_bl (b := true) (by decide +kernel)
  | exact rc_isi_bl (b := false) (by decide +kernel)
  | exact rc_isi_str (b := true) (by decide +kernel)
  | exact rc_isi_str (b := false) (by decide +kernel)
  | exact rc_isi_T (b := true) (by assumption) (by decide +kernel)
  | exact rc_isi_T (b := false) (by assumption) (by decide +kernel)
  | exact rc_lenT (by assumption)
  | exact rc_lenL (by assumption))
local macro_rules | `(tactic| walk_at "set") => `(tactic| ((with_reducible apply bl_set); (walk_at "ev")))
local macro_rules | `(tactic| walk_at "drop") => `(tactic| ((with_reducible apply bl_drop); (walk_at "ev")))
local macro_rules | `(tactic| walk_at "par") => `(tactic| ((with_reducible apply bl_par); (walk_at "ea")))
local macro_rules | `(tactic| walk_at "if") => `(tactic| ((with_reducible apply bl_when); (walk_at "et")))
local macro_rules | `(tactic| walk_at "no") => `(tactic| ((with_reducible apply bl_when); (walk_at "et"); (intro h; exact absurd (show false = true from h) (by decide)); (intro _)))
local macro_rules | `(tactic| walk_at "yes") => `(tactic| ((with_reducible apply bl_when); (walk_at "et"); rotate_left; (intro h; exact absurd (show true = false from h) (by decide)); (intro _)))
local macro_rules | `(tactic| walk_at "ret") => `(tactic| ((with_reducible apply bl_retE); rotate_left; assumption; rotate_right; (walk_at "ev")))
local macro_rules | `(tactic| walk_at "absurd") => `(tactic| first | exact absurd (show false = true from (by assumption)) (by decide) | exact absurd (show true = false from (by assumption)) (by decide))
local macro_rules | `(tactic| walk_at "rv") => `(tactic| first | exact rv_isN (s := []) | exact rv_notKD (by assumption) | exact rv_inKD (by assumption) | exact rv_ixKD (by assumption))
local macro_rules | `(tactic| walk_at "isiT") => `(tactic| ((exact Nat.le_of_ble_eq_true rfl); (exact .cons (.ty _) (.cons (.ty _) .nil)); (first | exact fun _ _ => .base (.int _) | exact fun _ _ => .base (.bl _) | exact fun _ _ => .base (.str _) | exact fun _ _ => .base .non); (exact kitAny_no (by decide +kernel) (by decide +kernel))))
local macro_rules | `(tactic| walk_at "rc") => `(tactic| first | exact rc_isi_non (b := true) (by decide +kernel) | exact rc_isi_non (b := false) (by decide +kernel))
local macro_rules | `(tactic| walk_at "eu") => `(tactic| first
  | ((with_reducible apply eu_own); (walk_at "ea"); (intro _ _; walk_at "own"))
  | ((with_reducible apply eu_tup); (walk_at "ea"); (exact Nat.le_of_ble_eq_true rfl)))
local macro_rules | `(tactic| walk_at "ev") => `(tactic| ((with_reducible apply ev_own1U); (walk_at "eu"); (walk_at "ea"); (intro _ _ _ _; walk_at "own1")))
local macro_rules | `(tactic| walk_at "isr") => `(tactic| first | with_reducible exact isr_r | with_reducible exact isr_i | ((with_reducible apply isr_if) <;> (walk_at "isr")))
local macro_rules | `(tactic| walk_at "osm") => `(tactic| first | with_reducible assumption | with_reducible exact osm_add | with_reducible exact osm_sub | with_reducible exact osm_mul | with_reducible exact osm_dvo | with_reducible exact osm_neg | with_reducible exact osm_rem | with_reducible exact osm_do | with_reducible exact osm_div | with_reducible exact osm_fit | ((with_reducible apply osm); assumption) | ((with_reducible apply osm); exact (show (0 : Int).natAbs < 2 ^ 70 by decide)) | ((with_reducible apply osm); exact (show (2 : Int).natAbs < 2 ^ 70 by decide)) | ((with_reducible apply osm_if) <;> (walk_at "osm")))
local macro_rules | `(tactic| walk_at "ev") => `(tactic| first
  | ((with_reducible apply ev_inLst); (walk_at "ev"); (walk_at "ea"); (exact Nat.le_of_ble_eq_true rfl); (exact rfl); (first | exact rfl | simp [flatV])))
local macro_rules | `(tactic| walk_at "rv") => `(tactic| first | exact rv_eq scal_rv | exact rv_ne scal_rv | exact rv_eq (scal_rv (y := some _)) | exact rv_ne (scal_rv (y := some _)) | exact rv_eq (scal_rv (y := none)) | exact rv_ne (scal_rv (y := none)))
local macro_rules | `(tactic| walk_at "nz") => `(tactic| first | with_reducible assumption | ((with_reducible apply nz_i); (first | assumption | decide)))
local macro_rules | `(tactic| walk_at "ev") => `(tactic| ((with_reducible apply ev_inU); (walk_at "ev"); (walk_at "eu"); (exact rfl); (exact rfl)))
section
variable {P : Program} {w : World} {K : PySem.W.Frag} {mg : Str → Option Value} {base : Heap}
local macro_rules | `(tactic| walk_at "own") => `(tactic| first
  | exact r_is_whole (by first | assumption | exact .int _ | exact Wh.ex (by assumption) (by assumption))
  | exact r_are_choices 
  | exact r_is_format (ex_t (by assumption) (by assumption))
  | exact r_check_format (ex_t (by assumption) (by assumption))
  | exact r_is_rule 
  | exact r_check_rule 
  | exact r_rules
  | exact r__check_exponent (by assumption) (by assumption)
  | exact r__passes_lucas_lehmer (by assumption) (by assumption) (by assumption)
  | exact r_is_mersenne (by assumption) (by assumption)
  | exact r__sum_grouping 
  | exact r__product_grouping 
  | exact r__distribution 
  | exact r__negatives 
  | exact r__add_back 
  | exact r__division 
  | exact r__remainder_range 
  | exact r__negated_quotient 
  | exact r__shift 
  | exact r__absolute_value 
  | exact r__order_by_difference 
  | exact r__monotone_sum 
  | exact r__average 
  | exact r__square 
  | exact r__zero_product 
  | exact r__cancellation 
  | exact r_meets_condition (ex_t (by assumption) (by assumption))
  | exact r_profile (ex_t (by assumption) (by assumption))
  | exact r_implies 
  | exact r__law_do_sub0 (ex_t (by assumption) (by assumption)) (by assumption)
  | exact r__law_prime 
  | exact r__law_holds (ex_t (by assumption) (by assumption))
  | exact r__law_alike (by assumption)
  | exact r__law_profile (ex_t (by assumption) (by assumption))
  | exact ⟨rfl, rfl⟩)
abbrev s_law : Stmt := top 63
abbrev N_law : List Str := ["script", "row", "form", "some", "turn", "one", "other", "each", "due", "whole"]
theorem sc_law : FnScope N_law ["script"] (defScope s_law) := ⟨rfl, rfl, rfl, by decide +kernel, rfl, by decide +kernel, by decide +kernel⟩
def SpLaw (K : PySem.W.Frag) (tb : Addr) : Sp := fun vs H Q _ => ∃ (a : Addr) (ns : List Int), vs = [.ref a] ∧ SqL K H a (ns.map V.int) ∧ ns.length ≤ 63 ∧ H tb = some (.tbl #[]) ∧ ∀ H', Q (.bl true) H'
theorem law_ok {fa c tb : Addr} {oc : Value} {od an : Option Addr} {kV doc pm ct : Value} {osl : Array (Option Value)} (T : Txt w K mg) (TB : TabB base mg c tb)
    (lk : K.lookup fa = some ⟨oc, od, .func (PySem.W.fnOf "law" "law" (defArgs s_law) (defBody s_law) (defScope s_law) .none kV doc pm an (.ref c) ct), osl⟩) (hcd : PySem.W.codeIn K (.ref c) "law" = true) (c_profile : Cal P w K mg base CX0 6 "profile" ["form"] (PuT (R_profile K))) (c_implies : Cal P w K mg base CX0 7 "implies" ["one", "other"] (Pu (R_implies K))) (c_parting : Cal P w K mg base CX0 6 "parting" ["one", "other"] (SpPart K)) (c_profiles : Cal P w K mg base CX0 7 "profiles" [] (SpProfs P w K)) (c__law_pick : Cal P w K mg base CX0 2 "_law_pick" ["row", "kinds"] (SpPick K)) (c__law_format : Cal P w K mg base CX0 3 "_law_format" ["row", "most"] (SpFormat K)) (c__law_rules : Cal P w K mg base CX0 1 "_law_rules" [] (PuL (fun vs _ xs => vs = [] ∧ xs = rlV))) (c__law_holds : Cal P w K mg base CX0 2 "_law_holds" ["form", "rule"] (Pu (R__law_holds K))) (c__law_all : Cal P w K mg base CX0 1 "_law_all" ["widths"] (SpAllL K)) (c__law_profile : Cal P w K mg base CX0 3 "_law_profile" ["form"] (PuT (R__law_profile K))) (c__law_alike : Cal P w K mg base CX0 1 "_law_alike" ["found", "due"] (Pu (R__law_alike K))) (ct__law_alike : Cal P w K mg base CX0 2 "_law_alike" ["found", "due"] (Pu (R_aliket K))) (cu__law_alike : Cal P w K mg base CX0 2 "_law_alike" ["found", "due"] (Pu (R_alikeu K))) (ctt__law_alike : Cal P w K mg base CX0 3 "_law_alike" ["found", "due"] (Pu (R_aliktt K))) :
    FnOk P w K mg base CX0 8 fa (PySem.W.fnOf "law" "law" (defArgs s_law) (defBody s_law) (defScope s_law) .none kV doc pm an (.ref c) ct) ["script"] (SpLaw K tb) := by
  refine fn_of (k := 7) lk hcd sc_law (fun vs H Q E h => by obtain ⟨a, ns, rfl, _⟩ := h; rfl) (fun A outer s H vs Q E hr h => ?_)
  obtain ⟨a, ns, rfl, hS, hlen, _, k⟩ := h
  have hu := hu_of hr
  refine ⟨_, PSs.nox (pss_cons (ps_set (i := 1) sc_law.nd rfl (Or.inl rfl) (pe_lst (pa_cons (pv 0) (pa_cons pe_int (pa_cons pe_int (pa_cons pe_int pa_nil))))))
      (pss_cons (ps_set (i := 2) sc_law.nd rfl (Or.inl rfl) (pe_own c__law_format (hr.mono (by decide)) rfl pass0 (pa_cons (pv 1) (pa_cons pe_int pa_nil))))
      (pss_cons (ps_if (pt_not (pt_val (pe_own ct__law_alike (hr.mono (by decide)) rfl pass0 (pa_cons (pe_own c_profile (hr.mono (by decide)) rfl pass0 (pa_cons (pv 2) pa_nil)) (pa_cons (pe_own c__law_profile (hr.mono (by decide)) rfl pass0 (pa_cons (pv 2) pa_nil)) pa_nil))))) (pss_one (ps_ret pe_bl)) pss_nil)
      (pss_cons (ps_set (i := 3) sc_law.nd rfl (Or.inl rfl) (pe_own c__law_all (hr.mono (by decide)) rfl pass0 (pa_cons (pe_lst (pa_cons pe_int (pa_cons pe_int (pa_cons pe_int (pa_cons pe_int (pa_cons pe_int (pa_cons pe_int (pa_cons pe_int (pa_cons pe_int (pa_cons pe_int (pa_cons pe_int pa_nil))))))))))) pa_nil)))
      (pss_cons (ps_for PassesOwn.never (by rfl) (pi_range1 rfl T.n_range (pa_cons pe_int pa_nil)) (pg_name (i := 4) sc_law.nd rfl (Or.inl rfl)) (pss_cons (ps_asg (pe_tup (pa_cons (pe_own c__law_pick (hr.mono (by decide)) rfl pass0 (pa_cons (pv 1) (pa_cons (pe_own0 c__law_rules (hr.mono (by decide)) rfl pass0) pa_nil))) (pa_cons (pe_own c__law_pick (hr.mono (by decide)) rfl pass0 (pa_cons (pv 1) (pa_cons (pe_own0 c__law_rules (hr.mono (by decide)) rfl pass0) pa_nil))) pa_nil))) (pg_tup (by rfl) (pgs_cons (pg_name (i := 5) sc_law.nd rfl (Or.inr rfl)) (pgs_cons (pg_name (i := 6) sc_law.nd rfl (Or.inr rfl)) pgs_nil))))
      (pss_cons (ps_setLc (i := 8) (own := [("each", 7)]) (g := gName 7) (by rfl) sc_law.nd rfl rfl (sw_true rfl rfl rfl (by decide +kernel)) (pi_list (pv 3)) (blkOk_by (own := [("each", 7)]) (N := N_law) (sc := defScope s_law) (by decide +kernel)) (fun _ _ _ _ _ => pg_name (i := 7) sc_law.nd rfl (Or.inl rfl)) (fun _ _ _ _ _ => pts_one (PW.pt (pw_and (pt_val (pe_own c__law_holds (hr.mono (by decide)) rfl pass0 (pa_cons (pv 7) (pa_cons (pv 5) pa_nil)))) (pw_and1 (pt_not (pt_val (pe_own c__law_holds (hr.mono (by decide)) rfl pass0 (pa_cons (pv 7) (pa_cons (pv 6) pa_nil))))))))) (fun _ _ _ _ _ => (pv 7)))
      (pss_one (ps_if (PW.pt (pw_or (pt_not (pt_val (pe_own c__law_alike (hr.mono (by decide)) rfl pass0 (pa_cons (pe_own c_implies (hr.mono (by decide)) rfl pass0 (pa_cons (pv 5) (pa_cons (pv 6) pa_nil))) (pa_cons (pe_cmpR (op_eqD hr.units) (pv 8) (pe_lst pa_nil) (nomark _)) pa_nil))))) (pw_or1 (pt_not (pt_val (pe_own cu__law_alike (hr.mono (by decide)) rfl pass0 (pa_cons (pe_own c_parting (hr.mono (by decide)) rfl pass0 (pa_cons (pv 5) (pa_cons (pv 6) pa_nil))) (pa_cons (pe_ifExp (pt_cmpR (op_neD hr.units) (pv 8) (pe_lst pa_nil) (nomark _)) (pe_ix ix_list (pv 8) pe_int (fun _ _ => rfl)) pe_non) pa_nil)))))))) (pss_one (ps_ret pe_bl)) pss_nil)))))
      (pss_cons (ps_set (i := 9) sc_law.nd rfl (Or.inl rfl) (pe_own0 c_profiles (hr.mono (by decide)) rfl pass0))
      (pss_one (ps_ret (pe_and (pe_own ctt__law_alike (hr.mono (by decide)) rfl pass0 (pa_cons (pv 9) (pa_cons (pe_callTy call_tuple_of (by rfl) T.n_tuple (by decide +kernel) (pa_cons (pe_callB (WTs.cr_sortTx (by rfl)) (by rfl) T.n_sorted (by decide +kernel) (pa_cons (pe_callTy (WTs.cr_setTx (by rfl) hr.units) (by rfl) T.n_set (by decide +kernel) (pa_cons (pe_lc (own := [("each", 7)]) (g := gName 7) (by rfl) sc_law.nd (pi_list (pv 3)) (blkOk_by (own := [("each", 7)]) (N := N_law) (sc := defScope s_law) (by decide +kernel)) (fun _ _ _ _ _ => pg_name (i := 7) sc_law.nd rfl (Or.inl rfl)) (fun _ _ _ _ _ => pts_nil) (fun _ _ _ _ _ => (pe_own c__law_profile (hr.mono (by decide)) rfl pass0 (pa_cons (pv 7) pa_nil)))) pa_nil)) pa_nil)) pa_nil)) pa_nil))) (pe_one (pe_cmpR (op_inTu (by have := hr.un; show (A.deeper _).units + 65 < cLine; omega)) (pe_own c_profile (hr.mono (by decide)) rfl pass0 (pa_cons (pv 2) pa_nil)) (pv 9) (by rfl)))))))))))), ?_⟩
  refine seq_asg ?_
  refine ⟨_, rfl, sz_of (n := 4) (by decide), fun r hrn => ?_⟩
  dsimp only
  have R0 : RowOK K (L2.upd H r (.lst [.ref a, .int 0, .int 15306, .int 0])) r a ns := ⟨⟨0, 15306, 0, by decide, by decide, by decide, upd_same⟩, ex_l (Ex.new hrn) hS, hlen⟩
  generalize L2.upd H r (.lst [.ref a, .int 0, .int 15306, .int 0]) = H1 at R0 ⊢
  refine seq_asg ?_
  refine ⟨_, rfl, r, a, ns, 64, rfl, R0, by decide, fun f p H2 hw hp0 hp1 R1 e1 => ?_⟩
  have hf1 : SqT K H2 p (fV f) := st_of hp1
  change tSeq _ _ _ ([some (.ref a), some (.ref r), some (.ref p), none, none, none, none, none, none, none] : L2.St) H2
  apply bl_go
  refine bl_when (b := false) (et_is (et_not (a := true) (et_B (WKn.ev_P (WKn.ap_tup (K := K) (xs := WJ.profV f) (WQ.eq_new (eu_own (ea_cons (ev_var rfl) ea_nil) (fun H5 e5 => r_profile (ex_t e5 hf1)))) (WKn.ap_tup (K := K) (xs := WJ.profV f) (WQ.eq_new (eu_own (ea_cons (ev_var rfl) ea_nil) (fun H5 e5 => r__law_profile (ex_t e5 hf1)))) WKn.ap_nil)) (fun vs H5 e5 h => ?_)))) rfl) (fun z => by cases z) (fun _ => ?_)
  · rcases h with (_ | ⟨⟨p1, rfl, hp1⟩, (_ | ⟨⟨q1, rfl, hq1⟩, (_ | _)⟩)⟩)
    exact ⟨p1, q1, _, rfl, hp1, hq1, prof_flat f, prof_len40 f, rfl⟩
  intro H3 e3
  have R3 := R1.ex e3
  have hf3 := ex_t e3 hf1
  refine seq_asg ?_
  refine ⟨sz_of (n := 10) (by decide), fun l0 hl0 => ⟨l0, rfl, sq_of upd_same, fun l G hl g => ?_⟩⟩
  obtain ⟨x4, ps, hl4, pr4⟩ := g
  have e4 : Ex H3 G := (Ex.new hl0).trans x4
  have R4 := R3.ex e4
  have hf4 := ex_t e4 hf3
  have hlr : l ≠ r := (R3.ex (Ex.new hl0)).fresh hl
  change tSeq _ _ _ ([some (.ref a), some (.ref r), some (.ref p), some (.ref l), none, none, none, none, none, none] : L2.St) G
  apply q_forR1 (n := 3) (by walk_at "ea") (by decide) (fun _ s' H' => ∃ x4 x5 x6 x8 : Option V, s' = [some (.ref a), some (.ref r), some (.ref p), some (.ref l), x4, x5, x6, none, x8, none] ∧ RowOK K H' r a ns ∧ SqT K H' p (fV f) ∧ SqL K H' l ps ∧ Paired (IsF K H') ps someF)
  · intro H5 e5
    exact ⟨_, _, _, _, rfl, R4.ex e5, ex_t e5 hf4, ex_l e5 (sq_of hl4), isF_ex e5 pr4⟩
  rotate_left
  · rintro s' H5 ⟨x4, x5, x6, x8, rfl, R5, hf5, hl5, pr5⟩
    refine seq_asg ?_
    refine ⟨rfl, fun w9 G9 N e9 hp9 tx nd mem pw => ?_⟩
    have hw9 : SqT K G9 w9 (rfs N) := st_of hp9
    change tRet _ _ ([some (.ref a), some (.ref r), some (.ref p), some (.ref l), x4, x5, x6, none, x8, some (.ref w9)] : L2.St) G9
    apply bl_go
    exact bl_retE (v := .bl true) (ev_andV (a := true) (b := true) (ev_sorted (ev_var rfl) (ex_l e9 hl5) (isF_ex e9 pr5) (fun x => rfl) (fun x => rfl) (ev_var rfl) hw9 tx nd mem pw) (fun _ => ev_wholeIn (ev_var rfl) (ex_t e9 hf5) (ev_var rfl) hw9 tx mem)) (fun H6 _ => k H6) rfl
  rintro i s' H5 hi3 ⟨x4, x5, x6, x8, rfl, R5, hf5, hl5, pr5⟩
  refine seq_asgG ?_
  refine ⟨_, rfl, rlV, ⟨rfl, rfl⟩, fun l1 H6 hl1 e6 hx6 => ⟨r, a, ns, l1, rlV, rfl, R5.ex e6, sq_of hx6, R5.fresh hl1, (fun z => by cases z), by decide, fun v1 H7 hm1 R7 e7 => ?_⟩⟩
  refine ⟨_, rfl, rlV, ⟨rfl, rfl⟩, fun l2 H8 hl2 e8 hx8 => ⟨r, a, ns, l2, rlV, rfl, R7.ex e8, sq_of hx8, R7.fresh hl2, (fun z => by cases z), by decide, fun v2 H9 hm2 R9 e9 => ?_⟩⟩
  obtain ⟨ra, rfl⟩ := mem_rl hm1
  obtain ⟨rb, rfl⟩ := mem_rl hm2
  refine ⟨sz_of (n := 2) (by decide), fun pt hpt => ⟨pt, _, rfl, st_of upd_same, rfl, _, _, rfl, _, _, rfl, rfl, ?_⟩⟩
  have eA : ExB r H5 H9 := ((ExB.of e6).trans e7).trans ((ExB.of e8).trans e9)
  have xp := Ex.new (o := .tup [.str (rlS ra), .str (rlS rb)]) hpt
  have R10 := R9.ex xp
  have hf10 := ex_t xp (exb_t R5 eA hf5)
  have hl10 := ex_l xp (exb_l eA hlr hl5)
  have pr10 := isF_ex xp (isF_map (fun q xs z => exb_t R5 eA z) pr5)
  generalize upd H9 pt _ = H10 at R10 hf10 hl10 pr10 ⊢
  change tSeq _ _ _ ([some (.ref a), some (.ref r), some (.ref p), some (.ref l), some (.int (i : Int)), some (.str (rlS ra)), some (.str (rlS rb)), none, x8, none] : L2.St) H10
  obtain ⟨psd, prd, evd⟩ := el_due (tl := tVar 3) (σ := [some (.ref a), some (.ref r), some (.ref p), some (.ref l), some (.int (i : Int)), some (.str (rlS ra)), some (.str (rlS rb)), none, x8, none]) (r := ra) (q := rb) (E1 := E0) (E2 := E0) (ev_var rfl) hl10 pr10 (by have z : someF.length = 450 := rfl; omega) (fun x => rfl) (fun x => rfl) (fun x => rfl) (fun x => rfl)
  apply bl_go
  refine bl_setL evd fun d H11 hd e11 hx11 => ?_
  have hd11 : SqL K H11 d psd := sq_of hx11
  have prd11 := isF_ex e11 prd
  change Bl (tIfS _ _ _) _ ([some (.ref a), some (.ref r), some (.ref p), some (.ref l), some (.int (i : Int)), some (.str (rlS ra)), some (.str (rlS rb)), none, some (.ref d), none] : L2.St) H11
  refine bl_ifLast (b := false) (et_is (et_or (a := false) (b := false) (et_impl (r := ra) (q := rb) (ev_var rfl) (ev_var rfl) (ev_var rfl) hd11 prd11) (fun _ => et_part (r := ra) (q := rb) (ev_var rfl) (ev_var rfl) (ev_var rfl) hd11 prd11)) rfl) (fun z => by cases z) (fun _ H12 e12 => ?_)
  have x12 := e11.trans e12
  exact ⟨_, _, _, _, rfl, R10.ex x12, ex_t x12 hf10, ex_l x12 hl10, isF_ex x12 pr10⟩
end
end KC

set_option maxHeartbeats 0
namespace KC
open PySem PySem.Spec PyProof.Rows L2 Evl WM WL WLam WX WT WU StX LamX
section
variable {P : Program} {w : World} {K : PySem.W.Frag} {mg : Str → Option Value} {base : Heap}
theorem tab_keys {h : Heap} (S : He.SaysX fa fn ts [("law", none)] ex w h K) (i : Nat) {z : He.Tab} (e : ts[i]? = some z := by rfl) : He.dicW K (z.1 K) = some (He.keysIn w.params z.2) := by
  have a := congrArg (fun y : He.AlT => y.2[i]?) S.t
  have a1 : (ts.map fun z => He.dicW K (z.1 K))[i]? = (ts.map fun z => some (He.keysIn w.params z.2))[i]? := a
  rw [List.getElem?_map, List.getElem?_map, e] at a1
  exact Option.some.inj a1
theorem txt_of {h : Heap} (X : K.In h) (G : h.Ns mainGlobals mg) (S : He.SaysX fa fn ts [("law", none)] ex w h K) : Txt w K mg := by
  have c := S.t.d
  have e := S.more
  unfold ex at e
  obtain ⟨e_SIGNS, e⟩ := He.ba e
  obtain ⟨e_OVERFLOWS, e⟩ := He.ba e
  obtain ⟨e_DIVISIONS, e⟩ := He.ba e
  obtain ⟨e_ARITIES, e⟩ := He.ba e
  obtain ⟨e_CONDITIONS, e⟩ := He.ba e
  have w_ARITIES : ∃ es n, KDict K w (He.ga K "ARITIES") es n ∧ es.toList.map He.keyOf = He.keysIn w.params tk_ARITIES := dicW_keys (tab_keys S 0)
  have u_ARITIES : KDE K w (He.ga K "ARITIES") := by obtain ⟨es, n, a, _⟩ := w_ARITIES; exact ⟨es, n, a⟩
  have w_CONDITIONS : ∃ es n, KDict K w (He.ga K "CONDITIONS") es n ∧ es.toList.map He.keyOf = He.keysIn w.params tk_CONDITIONS := dicW_keys (tab_keys S 1)
  have u_CONDITIONS : KDE K w (He.ga K "CONDITIONS") := by obtain ⟨es, n, a, _⟩ := w_CONDITIONS; exact ⟨es, n, a⟩
  exact {
    n_isinstance := He.free_ok X G (c.fact 43 (f := .free "isinstance") rfl)
    n_int := He.free_ok X G (c.fact 44 (f := .free "int") rfl)
    n_bool := He.free_ok X G (c.fact 45 (f := .free "bool") rfl)
    n_tuple := He.free_ok X G (c.fact 46 (f := .free "tuple") rfl)
    n_str := He.free_ok X G (c.fact 47 (f := .free "str") rfl)
    n_list := He.free_ok X G (c.fact 48 (f := .free "list") rfl)
    n_len := He.free_ok X G (c.fact 49 (f := .free "len") rfl)
    n_min := He.free_ok X G (c.fact 50 (f := .free "min") rfl)
    n_range := He.free_ok X G (c.fact 51 (f := .free "range") rfl)
    n_sorted := He.free_ok X G (c.fact 52 (f := .free "sorted") rfl)
    n_set := He.free_ok X G (c.fact 53 (f := .free "set") rfl)
    g_LEAST_WIDTH := He.int_ok X G (c.fact 54 (f := .int "LEAST_WIDTH" 4) rfl)
    g_GREATEST_WIDTH := He.int_ok X G (c.fact 55 (f := .int "GREATEST_WIDTH" 64) rfl)
    g_LEAST_EXPONENT := He.int_ok X G (c.fact 56 (f := .int "LEAST_EXPONENT" 2) rfl)
    g_GREATEST_EXPONENT := He.int_ok X G (c.fact 57 (f := .int "GREATEST_EXPONENT" 64) rfl)
    g_SIGNS := He.glo_ok X G (c.fact 58 (f := .glo "SIGNS") rfl)
    t_SIGNS := He.tupB_ok e_SIGNS
    g_OVERFLOWS := He.glo_ok X G (c.fact 59 (f := .glo "OVERFLOWS") rfl)
    t_OVERFLOWS := He.tupB_ok e_OVERFLOWS
    g_DIVISIONS := He.glo_ok X G (c.fact 60 (f := .glo "DIVISIONS") rfl)
    t_DIVISIONS := He.tupB_ok e_DIVISIONS
    g_ARITIES := He.glo_ok X G (c.fact 61 (f := .glo "ARITIES") rfl)
    k_ARITIES := u_ARITIES
    q_ARITIES := w_ARITIES
    v_ARITIES := fun r => match r with
      | .sumG => kdct_of (q := ("sum grouping", .int 3)) u_ARITIES e_ARITIES (List.mem_of_getElem? (i := 0) rfl)
      | .prodG => kdct_of (q := ("product grouping", .int 3)) u_ARITIES e_ARITIES (List.mem_of_getElem? (i := 1) rfl)
      | .dist => kdct_of (q := ("distribution", .int 3)) u_ARITIES e_ARITIES (List.mem_of_getElem? (i := 2) rfl)
      | .dneg => kdct_of (q := ("double negation", .int 1)) u_ARITIES e_ARITIES (List.mem_of_getElem? (i := 3) rfl)
      | .diff => kdct_of (q := ("difference", .int 2)) u_ARITIES e_ARITIES (List.mem_of_getElem? (i := 4) rfl)
      | .addB => kdct_of (q := ("add back", .int 2)) u_ARITIES e_ARITIES (List.mem_of_getElem? (i := 5) rfl)
      | .divi => kdct_of (q := ("division", .int 2)) u_ARITIES e_ARITIES (List.mem_of_getElem? (i := 6) rfl)
      | .remR => kdct_of (q := ("remainder range", .int 2)) u_ARITIES e_ARITIES (List.mem_of_getElem? (i := 7) rfl)
      | .negQ => kdct_of (q := ("negated quotient", .int 2)) u_ARITIES e_ARITIES (List.mem_of_getElem? (i := 8) rfl)
      | .shift => kdct_of (q := ("shift", .int 1)) u_ARITIES e_ARITIES (List.mem_of_getElem? (i := 9) rfl)
      | .absV => kdct_of (q := ("absolute value", .int 1)) u_ARITIES e_ARITIES (List.mem_of_getElem? (i := 10) rfl)
      | .ordD => kdct_of (q := ("order by difference", .int 2)) u_ARITIES e_ARITIES (List.mem_of_getElem? (i := 11) rfl)
      | .monoS => kdct_of (q := ("monotone sum", .int 3)) u_ARITIES e_ARITIES (List.mem_of_getElem? (i := 12) rfl)
      | .aver => kdct_of (q := ("average", .int 2)) u_ARITIES e_ARITIES (List.mem_of_getElem? (i := 13) rfl)
      | .squa => kdct_of (q := ("square", .int 1)) u_ARITIES e_ARITIES (List.mem_of_getElem? (i := 14) rfl)
      | .zeroP => kdct_of (q := ("zero product", .int 2)) u_ARITIES e_ARITIES (List.mem_of_getElem? (i := 15) rfl)
      | .canc => kdct_of (q := ("cancellation", .int 3)) u_ARITIES e_ARITIES (List.mem_of_getElem? (i := 16) rfl)
    g_CONDITIONS := He.glo_ok X G (c.fact 62 (f := .glo "CONDITIONS") rfl)
    k_CONDITIONS := u_CONDITIONS
    v_CONDITIONS := fun r => match r with
      | .sumG => kdct_of (q := ("sum grouping", .glo "_sum_grouping")) u_CONDITIONS e_CONDITIONS (List.mem_of_getElem? (i := 0) rfl)
      | .prodG => kdct_of (q := ("product grouping", .glo "_product_grouping")) u_CONDITIONS e_CONDITIONS (List.mem_of_getElem? (i := 1) rfl)
      | .dist => kdct_of (q := ("distribution", .glo "_distribution")) u_CONDITIONS e_CONDITIONS (List.mem_of_getElem? (i := 2) rfl)
      | .dneg => kdct_of (q := ("double negation", .glo "_negatives")) u_CONDITIONS e_CONDITIONS (List.mem_of_getElem? (i := 3) rfl)
      | .diff => kdct_of (q := ("difference", .glo "_negatives")) u_CONDITIONS e_CONDITIONS (List.mem_of_getElem? (i := 4) rfl)
      | .addB => kdct_of (q := ("add back", .glo "_add_back")) u_CONDITIONS e_CONDITIONS (List.mem_of_getElem? (i := 5) rfl)
      | .divi => kdct_of (q := ("division", .glo "_division")) u_CONDITIONS e_CONDITIONS (List.mem_of_getElem? (i := 6) rfl)
      | .remR => kdct_of (q := ("remainder range", .glo "_remainder_range")) u_CONDITIONS e_CONDITIONS (List.mem_of_getElem? (i := 7) rfl)
      | .negQ => kdct_of (q := ("negated quotient", .glo "_negated_quotient")) u_CONDITIONS e_CONDITIONS (List.mem_of_getElem? (i := 8) rfl)
      | .shift => kdct_of (q := ("shift", .glo "_shift")) u_CONDITIONS e_CONDITIONS (List.mem_of_getElem? (i := 9) rfl)
      | .absV => kdct_of (q := ("absolute value", .glo "_absolute_value")) u_CONDITIONS e_CONDITIONS (List.mem_of_getElem? (i := 10) rfl)
      | .ordD => kdct_of (q := ("order by difference", .glo "_order_by_difference")) u_CONDITIONS e_CONDITIONS (List.mem_of_getElem? (i := 11) rfl)
      | .monoS => kdct_of (q := ("monotone sum", .glo "_monotone_sum")) u_CONDITIONS e_CONDITIONS (List.mem_of_getElem? (i := 12) rfl)
      | .aver => kdct_of (q := ("average", .glo "_average")) u_CONDITIONS e_CONDITIONS (List.mem_of_getElem? (i := 13) rfl)
      | .squa => kdct_of (q := ("square", .glo "_square")) u_CONDITIONS e_CONDITIONS (List.mem_of_getElem? (i := 14) rfl)
      | .zeroP => kdct_of (q := ("zero product", .glo "_zero_product")) u_CONDITIONS e_CONDITIONS (List.mem_of_getElem? (i := 15) rfl)
      | .canc => kdct_of (q := ("cancellation", .glo "_cancellation")) u_CONDITIONS e_CONDITIONS (List.mem_of_getElem? (i := 16) rfl) }
theorem defAt_of {h : Heap} (X : K.In h) (G : h.Ns mainGlobals mg) {x : Str} {st : Stmt} (g : (He.Fa.glo x).ok K = true) (d : ∃ fd, FunD K x x (defArgs st) (defBody st) (defScope st) [] [] (He.ga K x) fd) : DefAt K mg x st := by
  obtain ⟨fd, F⟩ := d
  exact ⟨_, fd, F, He.glo_ok X G g⟩
theorem defAtN_of {h : Heap} (X : K.In h) (G : h.Ns mainGlobals mg) {x nm : Str} {st : Stmt} (g : (He.Fa.glo x).ok K = true) (d : ∃ fd, FunD K nm nm (defArgs st) (defBody st) (defScope st) [] [] (He.ga K x) fd) : DefAtN K mg x nm st := by
  obtain ⟨fd, F⟩ := d
  exact ⟨_, fd, F, He.glo_ok X G g⟩
theorem law_at {w : World} {fa0 : Addr} {h : Heap} (X : K.In h) (S : He.SaysX fa fn ts [("law", none)] ex w h K) (G : h.Ns mainGlobals mg) (hfa : mg ("law" : Str) = some (.ref fa0)) :
    LamX.LawAtS PySem.Challenge.rw_widthrules_k06_whole_profiles w K CX0 8 63 "script" mg fa0 h := by
  have c := S.t.d
  have T := txt_of X G S
  have D_is_whole : DefAt K mg "is_whole" s_is_whole := (defAt_of X G (c.fact 0 (f := .glo "is_whole") rfl) (c.def_ 0 (d := dd_is_whole) rfl))
  have D_are_choices : DefAt K mg "are_choices" s_are_choices := (defAt_of X G (c.fact 22 (f := .glo "are_choices") rfl) (c.def_ 22 (d := dd_are_choices) rfl))
  have D_is_format : DefAt K mg "is_format" s_is_format := (defAt_of X G (c.fact 21 (f := .glo "is_format") rfl) (c.def_ 21 (d := dd_is_format) rfl))
  have D_check_format : DefAt K mg "check_format" s_check_format := (defAt_of X G (c.fact 25 (f := .glo "check_format") rfl) (c.def_ 25 (d := dd_check_format) rfl))
  have D_is_rule : DefAt K mg "is_rule" s_is_rule := (defAt_of X G (c.fact 27 (f := .glo "is_rule") rfl) (c.def_ 27 (d := dd_is_rule) rfl))
  have D_check_rule : DefAt K mg "check_rule" s_check_rule := (defAt_of X G (c.fact 28 (f := .glo "check_rule") rfl) (c.def_ 28 (d := dd_check_rule) rfl))
  have D__check_exponent : DefAt K mg "_check_exponent" s__check_exponent := (defAt_of X G (c.fact 2 (f := .glo "_check_exponent") rfl) (c.def_ 2 (d := dd__check_exponent) rfl))
  have D__passes_lucas_lehmer : DefAt K mg "_passes_lucas_lehmer" s__passes_lucas_lehmer := (defAt_of X G (c.fact 3 (f := .glo "_passes_lucas_lehmer") rfl) (c.def_ 3 (d := dd__passes_lucas_lehmer) rfl))
  have D_is_mersenne : DefAt K mg "is_mersenne" s_is_mersenne := (defAt_of X G (c.fact 1 (f := .glo "is_mersenne") rfl) (c.def_ 1 (d := dd_is_mersenne) rfl))
  have D__sum_grouping : DefAt K mg "_sum_grouping" s__sum_grouping := (defAt_of X G (c.fact 5 (f := .glo "_sum_grouping") rfl) (c.def_ 5 (d := dd__sum_grouping) rfl))
  have D__product_grouping : DefAt K mg "_product_grouping" s__product_grouping := (defAt_of X G (c.fact 6 (f := .glo "_product_grouping") rfl) (c.def_ 6 (d := dd__product_grouping) rfl))
  have D__distribution : DefAt K mg "_distribution" s__distribution := (defAt_of X G (c.fact 7 (f := .glo "_distribution") rfl) (c.def_ 7 (d := dd__distribution) rfl))
  have D__negatives : DefAt K mg "_negatives" s__negatives := (defAt_of X G (c.fact 8 (f := .glo "_negatives") rfl) (c.def_ 8 (d := dd__negatives) rfl))
  have D__add_back : DefAt K mg "_add_back" s__add_back := (defAt_of X G (c.fact 9 (f := .glo "_add_back") rfl) (c.def_ 9 (d := dd__add_back) rfl))
  have D__division : DefAt K mg "_division" s__division := (defAt_of X G (c.fact 10 (f := .glo "_division") rfl) (c.def_ 10 (d := dd__division) rfl))
  have D__remainder_range : DefAt K mg "_remainder_range" s__remainder_range := (defAt_of X G (c.fact 11 (f := .glo "_remainder_range") rfl) (c.def_ 11 (d := dd__remainder_range) rfl))
  have D__negated_quotient : DefAt K mg "_negated_quotient" s__negated_quotient := (defAt_of X G (c.fact 12 (f := .glo "_negated_quotient") rfl) (c.def_ 12 (d := dd__negated_quotient) rfl))
  have D__shift : DefAt K mg "_shift" s__shift := (defAt_of X G (c.fact 13 (f := .glo "_shift") rfl) (c.def_ 13 (d := dd__shift) rfl))
  have D__absolute_value : DefAt K mg "_absolute_value" s__absolute_value := (defAt_of X G (c.fact 14 (f := .glo "_absolute_value") rfl) (c.def_ 14 (d := dd__absolute_value) rfl))
  have D__order_by_difference : DefAt K mg "_order_by_difference" s__order_by_difference := (defAt_of X G (c.fact 15 (f := .glo "_order_by_difference") rfl) (c.def_ 15 (d := dd__order_by_difference) rfl))
  have D__monotone_sum : DefAt K mg "_monotone_sum" s__monotone_sum := (defAt_of X G (c.fact 16 (f := .glo "_monotone_sum") rfl) (c.def_ 16 (d := dd__monotone_sum) rfl))
  have D__average : DefAt K mg "_average" s__average := (defAt_of X G (c.fact 17 (f := .glo "_average") rfl) (c.def_ 17 (d := dd__average) rfl))
  have D__square : DefAt K mg "_square" s__square := (defAt_of X G (c.fact 18 (f := .glo "_square") rfl) (c.def_ 18 (d := dd__square) rfl))
  have D__zero_product : DefAt K mg "_zero_product" s__zero_product := (defAt_of X G (c.fact 19 (f := .glo "_zero_product") rfl) (c.def_ 19 (d := dd__zero_product) rfl))
  have D__cancellation : DefAt K mg "_cancellation" s__cancellation := (defAt_of X G (c.fact 20 (f := .glo "_cancellation") rfl) (c.def_ 20 (d := dd__cancellation) rfl))
  have D_meets_condition : DefAt K mg "meets_condition" s_meets_condition := (defAt_of X G (c.fact 4 (f := .glo "meets_condition") rfl) (c.def_ 4 (d := dd_meets_condition) rfl))
  have D_rules : DefAt K mg "rules" s_rules := (defAt_of X G (c.fact 26 (f := .glo "rules") rfl) (c.def_ 26 (d := dd_rules) rfl))
  have D_profile : DefAt K mg "profile" s_profile := (defAt_of X G (c.fact 29 (f := .glo "profile") rfl) (c.def_ 29 (d := dd_profile) rfl))
  have D_all_widths : DefAt K mg "all_widths" s_all_widths := (defAt_of X G (c.fact 23 (f := .glo "all_widths") rfl) (c.def_ 23 (d := dd_all_widths) rfl))
  have D_all_formats : DefAt K mg "all_formats" s_all_formats := (defAt_of X G (c.fact 24 (f := .glo "all_formats") rfl) (c.def_ 24 (d := dd_all_formats) rfl))
  have D_parting : DefAt K mg "parting" s_parting := (defAt_of X G (c.fact 32 (f := .glo "parting") rfl) (c.def_ 32 (d := dd_parting) rfl))
  have D_implies : DefAt K mg "implies" s_implies := (defAt_of X G (c.fact 31 (f := .glo "implies") rfl) (c.def_ 31 (d := dd_implies) rfl))
  have D_profiles : DefAt K mg "profiles" s_profiles := (defAt_of X G (c.fact 30 (f := .glo "profiles") rfl) (c.def_ 30 (d := dd_profiles) rfl))
  have D__law_taken : DefAt K mg "_law_taken" s__law_taken := (defAt_of X G (c.fact 33 (f := .glo "_law_taken") rfl) (c.def_ 33 (d := dd__law_taken) rfl))
  have D__law_pick : DefAt K mg "_law_pick" s__law_pick := (defAt_of X G (c.fact 34 (f := .glo "_law_pick") rfl) (c.def_ 34 (d := dd__law_pick) rfl))
  have D__law_format : DefAt K mg "_law_format" s__law_format := (defAt_of X G (c.fact 36 (f := .glo "_law_format") rfl) (c.def_ 36 (d := dd__law_format) rfl))
  have D__law_rules : DefAt K mg "_law_rules" s__law_rules := (defAt_of X G (c.fact 37 (f := .glo "_law_rules") rfl) (c.def_ 37 (d := dd__law_rules) rfl))
  have D__law_prime : DefAt K mg "_law_prime" s__law_prime := (defAt_of X G (c.fact 38 (f := .glo "_law_prime") rfl) (c.def_ 38 (d := dd__law_prime) rfl))
  have D__law_holds : DefAt K mg "_law_holds" s__law_holds := (defAt_of X G (c.fact 39 (f := .glo "_law_holds") rfl) (c.def_ 39 (d := dd__law_holds) rfl))
  have D__law_alike : DefAt K mg "_law_alike" s__law_alike := (defAt_of X G (c.fact 35 (f := .glo "_law_alike") rfl) (c.def_ 35 (d := dd__law_alike) rfl))
  have D__law_profile : DefAt K mg "_law_profile" s__law_profile := (defAt_of X G (c.fact 41 (f := .glo "_law_profile") rfl) (c.def_ 41 (d := dd__law_profile) rfl))
  have D__law_all : DefAt K mg "_law_all" s__law_all := (defAt_of X G (c.fact 40 (f := .glo "_law_all") rfl) (c.def_ 40 (d := dd__law_all) rfl))
  obtain ⟨fd, F⟩ := c.def_ 42 (d := dd_law) rfl
  have eg := hfa.symm.trans (He.glo_ok X G (c.fact 42 (f := .glo "law") rfl))
  cases eg
  obtain ⟨oc, od, dV, kV, doc, pm, an, cdv, ct, osl, rfl, lk, hcd, hD, hK⟩ := F.ex
  obtain ⟨cc, rfl⟩ := He.codeIn_ref hcd
  have e0 : dV = .none := by
    rcases hD with ⟨_, z⟩ | ⟨z, _⟩
    · exact z
    · exact absurd rfl z
  subst e0
  have ec : He.codeOf K ("law", none) = cc := He.codeOf_eq lk rfl
  have mem : (("law", none) : He.Defn) ∈ [(("law", none) : He.Defn)] := List.mem_singleton.mpr rfl
  refine ⟨_, [He.cT K ("law", none)], SpLaw K (He.cT K ("law", none)).2, fun p hp => ?_, fun p hp => ?_, fun p hp => ?_, fun s u => FunD.bindsA (ps := ["script"]) F (fun _ _ _ _ _ _ us hl => match us, hl with | [_], _ => rfl) s [u] rfl, fun H a ns hl _ hT hS => ?_, fun base hKb hGb hTB => ?_⟩
  · rw [List.mem_singleton.mp hp]
    exact S.empty _ mem
  · rw [List.mem_singleton.mp hp]
    exact S.out _ mem
  · rw [List.mem_singleton.mp hp]
    exact PySem.W.codeHd_of_K X (S.hd _ mem)
  · exact ⟨a, ns, rfl, hS, hl, hT _ (List.mem_singleton.mpr rfl), fun _ => rfl⟩
  · have TB := hTB _ (List.mem_singleton.mpr rfl)
    have TB' : TabB base mg cc (He.cT K ("law", none)).2 := by rw [← ec]; exact TB
    have c_is_whole : Cal PySem.Challenge.rw_widthrules_k06_whole_profiles.prog w K mg base CX0 1 "is_whole" ["value"] (Pu (R_is_whole K)) := ok_is_whole T D_is_whole 
    have c_are_choices : Cal PySem.Challenge.rw_widthrules_k06_whole_profiles.prog w K mg base CX0 1 "are_choices" ["signs", "overflow", "division"] (Pu (R_are_choices K)) := ok_are_choices T D_are_choices 
    have c_is_format : Cal PySem.Challenge.rw_widthrules_k06_whole_profiles.prog w K mg base CX0 2 "is_format" ["value"] (Pu (R_is_format K)) := ok_is_format T D_is_format c_are_choices c_is_whole
    have c_check_format : Cal PySem.Challenge.rw_widthrules_k06_whole_profiles.prog w K mg base CX0 3 "check_format" ["form"] (Pu (R_check_format K)) := ok_check_format T D_check_format c_is_format
    have c_is_rule : Cal PySem.Challenge.rw_widthrules_k06_whole_profiles.prog w K mg base CX0 1 "is_rule" ["value"] (Pu (R_is_rule K)) := ok_is_rule T D_is_rule 
    have c_check_rule : Cal PySem.Challenge.rw_widthrules_k06_whole_profiles.prog w K mg base CX0 2 "check_rule" ["rule"] (Pu (R_check_rule K)) := ok_check_rule T D_check_rule c_is_rule
    have c__check_exponent : Cal PySem.Challenge.rw_widthrules_k06_whole_profiles.prog w K mg base CX0 2 "_check_exponent" ["w"] (Pu (R__check_exponent K)) := ok__check_exponent T D__check_exponent c_is_whole
    have c__passes_lucas_lehmer : Cal PySem.Challenge.rw_widthrules_k06_whole_profiles.prog w K mg base CX0 1 "_passes_lucas_lehmer" ["w"] (Pu (R__passes_lucas_lehmer K)) := ok__passes_lucas_lehmer T D__passes_lucas_lehmer 
    have c_is_mersenne : Cal PySem.Challenge.rw_widthrules_k06_whole_profiles.prog w K mg base CX0 3 "is_mersenne" ["w"] (Pu (R_is_mersenne K)) := ok_is_mersenne T D_is_mersenne c__check_exponent c__passes_lucas_lehmer
    have c__sum_grouping : Cal PySem.Challenge.rw_widthrules_k06_whole_profiles.prog w K mg base CX0 1 "_sum_grouping" ["width", "signs", "overflow", "division"] (Pu (R__sum_grouping K)) := ok__sum_grouping T D__sum_grouping 
    have c__product_grouping : Cal PySem.Challenge.rw_widthrules_k06_whole_profiles.prog w K mg base CX0 1 "_product_grouping" ["width", "signs", "overflow", "division"] (Pu (R__product_grouping K)) := ok__product_grouping T D__product_grouping 
    have c__distribution : Cal PySem.Challenge.rw_widthrules_k06_whole_profiles.prog w K mg base CX0 1 "_distribution" ["width", "signs", "overflow", "division"] (Pu (R__distribution K)) := ok__distribution T D__distribution 
    have c__negatives : Cal PySem.Challenge.rw_widthrules_k06_whole_profiles.prog w K mg base CX0 1 "_negatives" ["width", "signs", "overflow", "division"] (Pu (R__negatives K)) := ok__negatives T D__negatives 
    have c__add_back : Cal PySem.Challenge.rw_widthrules_k06_whole_profiles.prog w K mg base CX0 1 "_add_back" ["width", "signs", "overflow", "division"] (Pu (R__add_back K)) := ok__add_back T D__add_back 
    have c__division : Cal PySem.Challenge.rw_widthrules_k06_whole_profiles.prog w K mg base CX0 1 "_division" ["width", "signs", "overflow", "division"] (Pu (R__division K)) := ok__division T D__division 
    have c__remainder_range : Cal PySem.Challenge.rw_widthrules_k06_whole_profiles.prog w K mg base CX0 1 "_remainder_range" ["width", "signs", "overflow", "division"] (Pu (R__remainder_range K)) := ok__remainder_range T D__remainder_range 
    have c__negated_quotient : Cal PySem.Challenge.rw_widthrules_k06_whole_profiles.prog w K mg base CX0 1 "_negated_quotient" ["width", "signs", "overflow", "division"] (Pu (R__negated_quotient K)) := ok__negated_quotient T D__negated_quotient 
    have c__shift : Cal PySem.Challenge.rw_widthrules_k06_whole_profiles.prog w K mg base CX0 1 "_shift" ["width", "signs", "overflow", "division"] (Pu (R__shift K)) := ok__shift T D__shift 
    have c__absolute_value : Cal PySem.Challenge.rw_widthrules_k06_whole_profiles.prog w K mg base CX0 1 "_absolute_value" ["width", "signs", "overflow", "division"] (Pu (R__absolute_value K)) := ok__absolute_value T D__absolute_value 
    have c__order_by_difference : Cal PySem.Challenge.rw_widthrules_k06_whole_profiles.prog w K mg base CX0 1 "_order_by_difference" ["width", "signs", "overflow", "division"] (Pu (R__order_by_difference K)) := ok__order_by_difference T D__order_by_difference 
    have c__monotone_sum : Cal PySem.Challenge.rw_widthrules_k06_whole_profiles.prog w K mg base CX0 1 "_monotone_sum" ["width", "signs", "overflow", "division"] (Pu (R__monotone_sum K)) := ok__monotone_sum T D__monotone_sum 
    have c__average : Cal PySem.Challenge.rw_widthrules_k06_whole_profiles.prog w K mg base CX0 1 "_average" ["width", "signs", "overflow", "division"] (Pu (R__average K)) := ok__average T D__average 
    have c__square : Cal PySem.Challenge.rw_widthrules_k06_whole_profiles.prog w K mg base CX0 1 "_square" ["width", "signs", "overflow", "division"] (Pu (R__square K)) := ok__square T D__square 
    have c__zero_product : Cal PySem.Challenge.rw_widthrules_k06_whole_profiles.prog w K mg base CX0 4 "_zero_product" ["width", "signs", "overflow", "division"] (Pu (R__zero_product K)) := ok__zero_product T D__zero_product c_is_mersenne
    have c__cancellation : Cal PySem.Challenge.rw_widthrules_k06_whole_profiles.prog w K mg base CX0 4 "_cancellation" ["width", "signs", "overflow", "division"] (Pu (R__cancellation K)) := ok__cancellation T D__cancellation c_is_mersenne
    have F_CONDITIONS : FamOk PySem.Challenge.rw_widthrules_k06_whole_profiles.prog w K mg base CX0 4 (fam_CONDITIONS K) := famOk_CONDITIONS (He.glo_ok X G (c.fact 5 (f := .glo "_sum_grouping") rfl)) (He.glo_ok X G (c.fact 6 (f := .glo "_product_grouping") rfl)) (He.glo_ok X G (c.fact 7 (f := .glo "_distribution") rfl)) (He.glo_ok X G (c.fact 8 (f := .glo "_negatives") rfl)) (He.glo_ok X G (c.fact 9 (f := .glo "_add_back") rfl)) (He.glo_ok X G (c.fact 10 (f := .glo "_division") rfl)) (He.glo_ok X G (c.fact 11 (f := .glo "_remainder_range") rfl)) (He.glo_ok X G (c.fact 12 (f := .glo "_negated_quotient") rfl)) (He.glo_ok X G (c.fact 13 (f := .glo "_shift") rfl)) (He.glo_ok X G (c.fact 14 (f := .glo "_absolute_value") rfl)) (He.glo_ok X G (c.fact 15 (f := .glo "_order_by_difference") rfl)) (He.glo_ok X G (c.fact 16 (f := .glo "_monotone_sum") rfl)) (He.glo_ok X G (c.fact 17 (f := .glo "_average") rfl)) (He.glo_ok X G (c.fact 18 (f := .glo "_square") rfl)) (He.glo_ok X G (c.fact 19 (f := .glo "_zero_product") rfl)) (He.glo_ok X G (c.fact 20 (f := .glo "_cancellation") rfl)) c__sum_grouping c__product_grouping c__distribution c__negatives c__add_back c__division c__remainder_range c__negated_quotient c__shift c__absolute_value c__order_by_difference c__monotone_sum c__average c__square c__zero_product c__cancellation
    have c_meets_condition : Cal PySem.Challenge.rw_widthrules_k06_whole_profiles.prog w K mg base CX0 5 "meets_condition" ["form", "rule"] (Pu (R_meets_condition K)) := ok_meets_condition T D_meets_condition F_CONDITIONS
    have c_rules : Cal PySem.Challenge.rw_widthrules_k06_whole_profiles.prog w K mg base CX0 1 "rules" [] (PuT (R_rules K)) := ok_rules T D_rules 
    have c_profile : Cal PySem.Challenge.rw_widthrules_k06_whole_profiles.prog w K mg base CX0 6 "profile" ["form"] (PuT (R_profile K)) := ok_profile T D_profile c_check_format c_meets_condition c_rules
    have c_all_widths : Cal PySem.Challenge.rw_widthrules_k06_whole_profiles.prog w K mg base CX0 1 "all_widths" [] (PuL (fun vs _ xs => vs = [] ∧ xs = rgV 4 65)) := ok_all_widths T D_all_widths 
    have c_all_formats : Cal PySem.Challenge.rw_widthrules_k06_whole_profiles.prog w K mg base CX0 2 "all_formats" [] (SpForms K) := ok_all_formats T D_all_formats c_all_widths
    have c_parting : Cal PySem.Challenge.rw_widthrules_k06_whole_profiles.prog w K mg base CX0 6 "parting" ["one", "other"] (SpPart K) := ok_parting T D_parting c_check_rule c_all_formats c_meets_condition
    have c_implies : Cal PySem.Challenge.rw_widthrules_k06_whole_profiles.prog w K mg base CX0 7 "implies" ["one", "other"] (Pu (R_implies K)) := ok_implies T D_implies c_parting
    have c_profiles : Cal PySem.Challenge.rw_widthrules_k06_whole_profiles.prog w K mg base CX0 7 "profiles" [] (SpProfs PySem.Challenge.rw_widthrules_k06_whole_profiles.prog w K) := ok_profiles T D_profiles c_all_formats c_profile
    have c__law_taken : Cal PySem.Challenge.rw_widthrules_k06_whole_profiles.prog w K mg base CX0 1 "_law_taken" ["row", "many"] (SpTaken K) := ok__law_taken T D__law_taken 
    have c__law_pick : Cal PySem.Challenge.rw_widthrules_k06_whole_profiles.prog w K mg base CX0 2 "_law_pick" ["row", "kinds"] (SpPick K) := ok__law_pick T D__law_pick c__law_taken
    have c__law_format : Cal PySem.Challenge.rw_widthrules_k06_whole_profiles.prog w K mg base CX0 3 "_law_format" ["row", "most"] (SpFormat K) := ok__law_format T D__law_format c__law_pick c__law_taken
    have c__law_rules : Cal PySem.Challenge.rw_widthrules_k06_whole_profiles.prog w K mg base CX0 1 "_law_rules" [] (PuL (fun vs _ xs => vs = [] ∧ xs = rlV)) := ok__law_rules T D__law_rules 
    have c__law_prime : Cal PySem.Challenge.rw_widthrules_k06_whole_profiles.prog w K mg base CX0 1 "_law_prime" ["w"] (Pu (R__law_prime K)) := ok__law_prime T D__law_prime 
    have c__law_holds : Cal PySem.Challenge.rw_widthrules_k06_whole_profiles.prog w K mg base CX0 2 "_law_holds" ["form", "rule"] (Pu (R__law_holds K)) := ok__law_holds T D__law_holds c__law_prime
    have c__law_alike : Cal PySem.Challenge.rw_widthrules_k06_whole_profiles.prog w K mg base CX0 1 "_law_alike" ["found", "due"] (Pu (R__law_alike K)) := ok__law_alike T D__law_alike 
    have c__law_profile : Cal PySem.Challenge.rw_widthrules_k06_whole_profiles.prog w K mg base CX0 3 "_law_profile" ["form"] (PuT (R__law_profile K)) := ok__law_profile T D__law_profile c__law_holds c__law_rules
    have c__law_all : Cal PySem.Challenge.rw_widthrules_k06_whole_profiles.prog w K mg base CX0 1 "_law_all" ["widths"] (SpAllL K) := ok__law_all T D__law_all 
    have ct__law_alike := okt__law_alike (P := PySem.Challenge.rw_widthrules_k06_whole_profiles.prog) (w := w) (base := base) T D__law_alike c__law_alike
    have cu__law_alike := oku__law_alike (P := PySem.Challenge.rw_widthrules_k06_whole_profiles.prog) (w := w) (base := base) T D__law_alike c__law_alike
    have ctt__law_alike := oktt__law_alike (P := PySem.Challenge.rw_widthrules_k06_whole_profiles.prog) (w := w) (base := base) T D__law_alike ct__law_alike
    exact law_ok T TB' lk hcd c_profile c_implies c_parting c_profiles c__law_pick c__law_format c__law_rules c__law_holds c__law_all c__law_profile c__law_alike ct__law_alike cu__law_alike ctt__law_alike
end
end KC
open PySem PySem.W PySem.Calls PyProof.Rows
theorem PySem.Challenge.cw_widthrules_k06_whole_profiles_holds : PySem.Challenge.rw_widthrules_k06_whole_profiles.Holds := by
  w_on; o_law
  refine HandSHeadRun.head_any (r := OpenLaw.row PySem.Challenge.rw_widthrules_k06_whole_profiles) (q := view (OpenLaw.row PySem.Challenge.rw_widthrules_k06_whole_profiles).prog [63]) (H := KC.hk) (ob := KC.ob) (M := 60000) (loose := KC.loose)
    (d := HandSHeadRun.topDef (OpenLaw.row PySem.Challenge.rw_widthrules_k06_whole_profiles).prog 63) (kwd := []) KC.ob_eq (by kernel_rfl) (fun s => by kernel_rfl) KC.run (by kernel_rfl) (by kernel_rfl) (by kernel_rfl) (by rfl)
    (by first | assumption | decide +kernel) KC.ok_ok KC.bare_ok ?hw ?hc
  case hw => w_witness2
  case hc =>
    refine LamX.walk_ofTsE (l := PySem.Challenge.rw_widthrules_k06_whole_profiles) (n := 63) (k := 8) (x := "script") (CX := fun _ => L2.CX0) rfl (by decide) (by kernel_rfl) ⟨rfl, by decide, by decide⟩ ?F (fun _ _ _ _ _ z => z)
    intro w mg fa h Y G hmg0
    obtain ⟨K, KX, c⟩ := Y
    have hmg : mg ("law" : PySem.Str) = some (.ref fa) := by
      have e : (HandSHeadRun.topDef (OpenLaw.row PySem.Challenge.rw_widthrules_k06_whole_profiles).prog 63).name = ("law" : PySem.Str) := by kernel_rfl
      rw [← e]
      exact hmg0
    exact ⟨K, KX, KC.law_at KX c G hmg⟩
