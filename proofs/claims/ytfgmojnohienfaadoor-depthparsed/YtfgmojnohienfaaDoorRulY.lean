/- Package rule: its table of codes, as it is laid. -/
import Derived.Test.YtfgmojnohienfaaDoorRulA
import Derived.Lib.LaidU8
import Derived.LaidMore
import Derived.MakeChecks
namespace Go.Proofs.YtfgmojnohienfaaDoor
open Go.RowKit
set_option linter.unusedVariables false

theorem laidR_eq : (Rows.laid_copperplate_rule_rules : DataW Unit) = .agg ((List.range 90).map fun c => .lit (.string (codR c))) := by kernel_rfl
set_option maxRecDepth 100000 in
theorem tabR_of_laid {w : World} (h : laidMetH Tryd.prog [("copperplate/rule.rules", Rows.laid_copperplate_rule_rules)] w) : TabR w := by
  rw [MakeChecks.laidMetH_plain _ _ _ (by kernel_rfl)] at h
  obtain ⟨g, t, cs, fuel, p, hg, ht, hv, hr⟩ := Lib.laidMet.reads h (n := "copperplate/rule.rules") (.head _)
  obtain rfl : g = 0 := Option.some.inj (hg.symm.trans (by kernel_rfl))
  obtain rfl : t = 54 := Option.some.inj (ht.symm.trans (by kernel_rfl))
  have hc1 : Tryd.prog.cellsOf 9 = 1 := by kernel_rfl
  have hv2 : ∃ ty fr, w.heap[0]? = some (.cells cs ty fr) := by
    unfold World.var? at hv
    rw [hg] at hv
    simp only [Option.bind_some] at hv
    split at hv
    · rename_i e; cases hv; exact ⟨_, _, e⟩
    · cases hv
  obtain ⟨ty, fr, hh⟩ := hv2
  refine ⟨(Array.getElem?_eq_some_iff.1 hh).1, fun c hc => ?_⟩
  rw [laidR_eq] at hr
  obtain ⟨f', d, q, hd, he⟩ := Lib.array_elem (n := 90) (e := 9) (by kernel_rfl) hr c hc
  rw [hc1, Nat.mul_one] at he
  obtain ⟨s, h1, h2, _⟩ := DataW.trod_string Tryd.underlying9 he
  have hd2 : d = .lit (.string (codR c)) := by
    simp [hc] at hd; exact hd.symm
  have hs : s = mkb (codR c) := by
    have := (Prod.mk.inj h2).1
    rw [hd2] at this
    have e : codR c = s.data.toList := by injection this with e1; injection e1
    rw [e]; rfl
  have h3 : cs[c]? = some (.string s) := by
    have := congrArg (·[0]?) h1
    simpa [List.getElem?_take, List.getElem?_drop] using this
  unfold World.cell?
  rw [hh]
  simp [h3, hs]

end Go.Proofs.YtfgmojnohienfaaDoor
