/- Package kind: its table of texts, as it is laid. -/
import Derived.Test.YtpcijjdlppoblaaGreatDoorKinI
import Derived.Lib.LaidU8
import Derived.LaidMore
import Derived.MakeChecks
import Derived.Test.YtpcijjdlppoblaaGreatDoorRulD
import Derived.Test.YtpcijjdlppoblaaGreatDoorQuoC
namespace Go.Proofs.YtpcijjdlppoblaaGreatDoor
open Go.RowKit
set_option linter.unusedVariables false

theorem laidK_eq : (Rows.laid_copperplate_kind_texts : DataW Unit) = .agg ((List.range 31).map fun c => .lit (.string (stK c))) := by kernel_rfl
set_option maxRecDepth 100000 in
theorem tabK_of_list {w : World} {l : List (String × DataW Unit)} (h : laidMetH Tryz.prog l w) (hp : (l.all fun x => x.2.handleName?.isNone) = true) (hm : ("copperplate/kind.texts", Rows.laid_copperplate_kind_texts) ∈ l) : TabK w := by
  rw [MakeChecks.laidMetH_plain _ _ _ hp] at h
  obtain ⟨g, t, cs, fuel, p, hg, ht, hv, hr⟩ := Lib.laidMet.reads h (n := "copperplate/kind.texts") hm
  obtain rfl : g = 1 := Option.some.inj (hg.symm.trans (by kernel_rfl))
  obtain rfl : t = 111 := Option.some.inj (ht.symm.trans (by kernel_rfl))
  have hc1 : Tryz.prog.cellsOf 9 = 1 := by kernel_rfl
  have hv2 : ∃ ty fr, w.heap[1]? = some (.cells cs ty fr) := by
    unfold World.var? at hv
    rw [hg] at hv
    simp only [Option.bind_some] at hv
    split at hv
    · rename_i e; cases hv; exact ⟨_, _, e⟩
    · cases hv
  obtain ⟨ty, fr, hh⟩ := hv2
  refine ⟨(Array.getElem?_eq_some_iff.1 hh).1, fun c hc => ?_⟩
  rw [laidK_eq] at hr
  obtain ⟨f', d, q, hd, he⟩ := Lib.array_elem (n := 31) (e := 9) (by kernel_rfl) hr c hc
  rw [hc1, Nat.mul_one] at he
  obtain ⟨s, h1, h2, _⟩ := DataW.trod_string Tryz.underlying9 he
  have hd2 : d = .lit (.string (stK c)) := by
    simp [hc] at hd; exact hd.symm
  have hs : s = mkb (stK c) := by
    have := (Prod.mk.inj h2).1
    rw [hd2] at this
    have e : stK c = s.data.toList := by injection this with e1; injection e1
    rw [e]; rfl
  have h3 : cs[c]? = some (.string s) := by
    have := congrArg (·[0]?) h1
    simpa [List.getElem?_take, List.getElem?_drop] using this
  unfold World.cell?
  rw [hh]
  simp [h3, hs]

theorem tabK_of_laid {w : World} (h : laidMetH Tryz.prog [("copperplate/kind.texts", Rows.laid_copperplate_kind_texts)] w) : TabK w := tabK_of_list h (by kernel_rfl) (.head _)
end Go.Proofs.YtpcijjdlppoblaaGreatDoor

/- Package rule: its table of codes, as it is laid. -/
namespace Go.Proofs.YtpcijjdlppoblaaGreatDoor
open Go.RowKit
set_option linter.unusedVariables false

theorem laidR_eq : (Rows.laid_copperplate_rule_rules : DataW Unit) = .agg ((List.range 90).map fun c => .lit (.string (codR c))) := by kernel_rfl
set_option maxRecDepth 100000 in
theorem tabR_of_list {w : World} {l : List (String × DataW Unit)} (h : laidMetH Tryz.prog l w) (hp : (l.all fun x => x.2.handleName?.isNone) = true) (hm : ("copperplate/rule.rules", Rows.laid_copperplate_rule_rules) ∈ l) : TabR w := by
  rw [MakeChecks.laidMetH_plain _ _ _ hp] at h
  obtain ⟨g, t, cs, fuel, p, hg, ht, hv, hr⟩ := Lib.laidMet.reads h (n := "copperplate/rule.rules") hm
  obtain rfl : g = 2 := Option.some.inj (hg.symm.trans (by kernel_rfl))
  obtain rfl : t = 122 := Option.some.inj (ht.symm.trans (by kernel_rfl))
  have hc1 : Tryz.prog.cellsOf 9 = 1 := by kernel_rfl
  have hv2 : ∃ ty fr, w.heap[2]? = some (.cells cs ty fr) := by
    unfold World.var? at hv
    rw [hg] at hv
    simp only [Option.bind_some] at hv
    split at hv
    · rename_i e; cases hv; exact ⟨_, _, e⟩
    · cases hv
  obtain ⟨ty, fr, hh⟩ := hv2
  refine ⟨(Array.getElem?_eq_some_iff.1 hh).1, fun c hc => ?_⟩
  rw [laidR_eq] at hr
  obtain ⟨f', d, q, hd, he⟩ := Lib.array_elem (n := 90) (e := 9) (by kernel_rfl) hr c hc
  rw [hc1, Nat.mul_one] at he
  obtain ⟨s, h1, h2, _⟩ := DataW.trod_string Tryz.underlying9 he
  have hd2 : d = .lit (.string (codR c)) := by
    simp [hc] at hd; exact hd.symm
  have hs : s = mkb (codR c) := by
    have := (Prod.mk.inj h2).1
    rw [hd2] at this
    have e : codR c = s.data.toList := by injection this with e1; injection e1
    rw [e]; rfl
  have h3 : cs[c]? = some (.string s) := by
    have := congrArg (·[0]?) h1
    simpa [List.getElem?_take, List.getElem?_drop] using this
  unfold World.cell?
  rw [hh]
  simp [h3, hs]

theorem tabR_of_laid {w : World} (h : laidMetH Tryz.prog [("copperplate/rule.rules", Rows.laid_copperplate_rule_rules)] w) : TabR w := tabR_of_list h (by kernel_rfl) (.head _)
end Go.Proofs.YtpcijjdlppoblaaGreatDoor

/- The three tables, as they are laid (frames alone import this). -/
namespace Go.Proofs.YtpcijjdlppoblaaGreatDoor
open Go.RowKit
set_option linter.unusedVariables false

set_option maxRecDepth 100000 in
theorem tab_of_list {w : World} {l : List (String × DataW Unit)} (h : laidMetH Tryz.prog l w) (hp : (l.all fun x => x.2.handleName?.isNone) = true) (hm : ("copperplate/quote.standsFor", Rows.laid_copperplate_quote_standsFor) ∈ l) : Tab w := by
  rw [MakeChecks.laidMetH_plain _ _ _ hp] at h
  obtain ⟨g, t, cs, fuel, p, hg, ht, hv, hr⟩ := Lib.laidMet.reads h (n := "copperplate/quote.standsFor") hm
  obtain rfl : g = 0 := Option.some.inj (hg.symm.trans (by kernel_rfl))
  obtain rfl : t = 107 := Option.some.inj (ht.symm.trans (by kernel_rfl))
  have hc1 : Tryz.prog.cellsOf 9 = 1 := by kernel_rfl
  have hv2 : ∃ ty fr, w.heap[0]? = some (.cells cs ty fr) := by
    unfold World.var? at hv
    rw [hg] at hv
    simp only [Option.bind_some] at hv
    split at hv
    · rename_i e; cases hv; exact ⟨_, _, e⟩
    · cases hv
  obtain ⟨ty, fr, hh⟩ := hv2
  refine ⟨(Array.getElem?_eq_some_iff.1 hh).1, fun c hc => ?_⟩
  rw [laid_eq] at hr
  obtain ⟨f', d, q, hd, he⟩ := Lib.array_elem (n := 93) (e := 9) (by kernel_rfl) hr c hc
  rw [hc1, Nat.mul_one] at he
  obtain ⟨s, h1, h2, _⟩ := DataW.trod_string Tryz.underlying9 he
  have hd2 : d = .lit (.string (stF c)) := by
    simp [hc] at hd; exact hd.symm
  have hs : s = mkb (stF c) := by
    have := (Prod.mk.inj h2).1
    rw [hd2] at this
    have e : stF c = s.data.toList := by injection this with e1; injection e1
    rw [e]; rfl
  have h3 : cs[c]? = some (.string s) := by
    have := congrArg (·[0]?) h1
    simpa [List.getElem?_take, List.getElem?_drop] using this
  unfold World.cell?
  rw [hh]
  simp [h3, hs]
theorem tabs_of_laid {w : World} (h : laidMetH Tryz.prog [("copperplate/kind.texts", Rows.laid_copperplate_kind_texts), ("copperplate/rule.rules", Rows.laid_copperplate_rule_rules), ("copperplate/quote.standsFor", Rows.laid_copperplate_quote_standsFor)] w) : TabR w ∧ TabK w ∧ Tab w :=
  ⟨tabR_of_list h (by kernel_rfl) (.tail _ (.head _)), tabK_of_list h (by kernel_rfl) (.head _), tab_of_list h (by kernel_rfl) (.tail _ (.tail _ (.head _)))⟩
end Go.Proofs.YtpcijjdlppoblaaGreatDoor
