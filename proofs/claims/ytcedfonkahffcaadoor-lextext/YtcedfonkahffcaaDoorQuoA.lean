/- The table of package quote, as it is laid; the contract of piece. -/
import Derived.Test.YtcedfonkahffcaaDoorQuoM
import Derived.Test.YtcedfonkahffcaaDoorUtfD
import Derived.Lib.LaidU8
import Derived.LaidMore
import Derived.MakeChecks
namespace Go.Proofs.YtcedfonkahffcaaDoor
open Go.RowKit
set_option linter.unusedVariables false

/-- The table holds what stands for each byte. -/
def Tab (w : World) : Prop := 0 < w.heap.size ∧ ∀ c, c < 93 → w.cell? ⟨0, c, none⟩ = some (.string (mkb (stF c)))
theorem Tab.below {w w' : World} (h : Tab w) (b : Below w.heap.size w w') : Tab w' :=
  ⟨Nat.lt_of_lt_of_le h.1 b.size, fun c hc => (b.cell (p := ⟨0, c, none⟩) h.1).trans (h.2 c hc)⟩

theorem laid_eq : (Rows.laid_copperplate_quote_standsFor : DataW Unit) = .agg ((List.range 93).map fun c => .lit (.string (stF c))) := by kernel_rfl
set_option maxRecDepth 100000 in
theorem tab_of_laid {w : World} (h : laidMetH Tryd.prog [("copperplate/quote.standsFor", Rows.laid_copperplate_quote_standsFor)] w) : Tab w := by
  rw [MakeChecks.laidMetH_plain _ _ _ (by kernel_rfl)] at h
  obtain ⟨g, t, cs, fuel, p, hg, ht, hv, hr⟩ := Lib.laidMet.reads h (n := "copperplate/quote.standsFor") (.head _)
  obtain rfl : g = 0 := Option.some.inj (hg.symm.trans (by kernel_rfl))
  obtain rfl : t = 63 := Option.some.inj (ht.symm.trans (by kernel_rfl))
  have hc1 : Tryd.prog.cellsOf 9 = 1 := by kernel_rfl
  have hv2 : ∃ ty fr, w.heap[0]? = some (.cells cs ty fr) := by
    unfold World.var? at hv
    rw [hg] at hv
    simp only [Option.bind_some] at hv
    split at hv
    · rename_i e; cases hv; exact ⟨_, _, e⟩
    · cases hv
  obtain ⟨ty, fr, hh⟩ := hv2
  refine ⟨(Array.getElem?_eq_some_iff.1 hh).1, fun c hc => ?_⟩
  rw [laid_eq] at hr
  obtain ⟨f', d, q, hd, he⟩ := Lib.array_elem (n := 93) (e := 9) (by kernel_rfl) hr c hc
  rw [hc1, Nat.mul_one] at he
  obtain ⟨s, h1, h2, _⟩ := DataW.trod_string Tryd.underlying9 he
  have hd2 : d = .lit (.string (stF c)) := by
    simp [hc] at hd; exact hd.symm
  have hs : s = mkb (stF c) := by
    have := (Prod.mk.inj h2).1
    rw [hd2] at this
    have e : stF c = s.data.toList := by injection this with e1; injection e1
    rw [e]; rfl
  have h3 : cs[c]? = some (.string s) := by
    have := congrArg (·[0]?) h1
    simpa [List.getElem?_take, List.getElem?_drop] using this
  unfold World.cell?
  rw [hh]
  simp [h3, hs]

/-- What piece answers. -/
theorem piece_big {c : Nat} (h : 93 ≤ c) (hc : okC c) (w : World) : Calls Tryd.prog 19 #[.int .i32 c] w fun e w' => e = .returned (.string (mkb (qp c))) ∧ w = w' := by
  have e1 : qp c = enc c := qp_self (by omega) (by omega) (by omega)
  have hs : srcB c = true := by rcases hc with hc | hc; omega; exact hc
  have hb := okC_lt hc
  have e2 : putA c = mkb (qp c) := by rw [e1, putA, putL_yes hs]; rfl
  have e3 : ¬ ((c : Int) < 93) := by omega
  have e4 : IntKind.i64.wrap (c : Int) = c := by unfold IntKind.wrap; simp [IntKind.bits, IntKind.signed]; omega
  have hp := put_any c
  rw [e2] at hp
  generalize mkb (qp c) = R at hp ⊢
  clear e1 hs e2 hc
  go_enter Tryd.func19, Tryd.ntmps19
  go_wp2_with fail
  (with_reducible refine (hp _).mono ?_)
  rintro e w' ⟨rfl, rfl⟩
  go_wp2_with fail
  go_ret
  exact ⟨rfl, rfl⟩

theorem piece_tab {c : Nat} (h : c < 93) (hc : stF c ≠ []) {w : World} (ht : Tab w) : Calls Tryd.prog 19 #[.int .i32 c] w fun e w' => e = .returned (.string (mkb (qp c))) ∧ w = w' := by
  have e1 : qp c = stF c := by unfold qp; rw [if_neg hc]
  have e3 : ((c : Int) < 93) := by omega
  have e4 : IntKind.i64.wrap (c : Int) = c := by unfold IntKind.wrap; simp [IntKind.bits, IntKind.signed]; omega
  have hl := ht.2 c h
  have hne : ¬ mkb (stF c) = ⟨#[]⟩ := fun e => hc (by have := congrArg (fun b => b.data.toList) e; exact this)
  have hne2 : ¬ (mkb (stF c)).toList = [] := by rw [mkb_toList]; exact hc
  have hne3 : (mkb (stF c)).toList.isEmpty = false := by rw [mkb_toList]; simpa using hc
  rw [e1]
  generalize mkb (stF c) = R at *
  clear e1 hc ht
  go_enter Tryd.func19, Tryd.ntmps19
  go_wp2_with fail
  go_ret
  exact ⟨rfl, rfl⟩

theorem piece_self {c : Nat} (h : c < 93) (h32 : 32 ≤ c) (hc : stF c = []) {w : World} (ht : Tab w) : Calls Tryd.prog 19 #[.int .i32 c] w fun e w' => e = .returned (.string (mkb (qp c))) ∧ w = w' := by
  have e1 : qp c = enc c := by unfold qp; rw [if_pos hc]
  have hs : srcB c = true := by rw [srcB_iff]; omega
  have e2 : putA c = mkb (qp c) := by rw [e1, putA, putL_yes hs]; rfl
  have e3 : ((c : Int) < 93) := by omega
  have e4 : IntKind.i64.wrap (c : Int) = c := by unfold IntKind.wrap; simp [IntKind.bits, IntKind.signed]; omega
  have hl := ht.2 c h
  rw [show mkb (stF c) = ⟨#[]⟩ by rw [hc]; rfl] at hl
  have hp := put_any c
  rw [e2] at hp
  generalize mkb (qp c) = R at hp ⊢
  clear e1 hs e2 hc ht
  go_enter Tryd.func19, Tryd.ntmps19
  go_wp2_with fail
  (with_reducible refine (hp _).mono ?_)
  rintro e w' ⟨rfl, rfl⟩
  go_wp2_with fail
  go_ret
  exact ⟨rfl, rfl⟩

theorem piece_any {c : Nat} (hc : okC c) {w : World} (ht : Tab w) : Calls Tryd.prog 19 #[.int .i32 c] w fun e w' => e = .returned (.string (mkb (qp c))) ∧ w = w' := by
  by_cases h : 93 ≤ c
  · exact piece_big h hc w
  · by_cases h2 : stF c = []
    · refine piece_self (by omega) ?_ h2 ht
      by_cases h3 : c < 32
      · exact absurd h2 (stF_low c h3)
      · omega
    · exact piece_tab (by omega) h2 ht
end Go.Proofs.YtcedfonkahffcaaDoor
