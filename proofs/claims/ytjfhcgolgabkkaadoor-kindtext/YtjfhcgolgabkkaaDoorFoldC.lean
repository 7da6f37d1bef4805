/- Contracts of package fold's functions: Lines, indent, what is blank, Indent. -/
import Derived.Test.YtjfhcgolgabkkaaDoorFoldB
import Derived.StillTailTactics
namespace Go.Proofs.YtjfhcgolgabkkaaDoor.Fo
open Go.RowKit Go.Shelf
set_option linter.unusedVariables false

/-- A text as a value. -/
def sv (x : List UInt8) : Value := .string (mkb x)
theorem infoS : (Tryd.prog.info? 9).map (fun i => (i.zero, i.size, i.bytes)) = some (some (.string ⟨#[]⟩), 1, 16) := by kernel_rfl
theorem own_base {W : World} {base base' : Nat} {e : TypeId} {size : Nat} {v : Value} {k : Nat} {xs : List Value} (h : W.ownsRow base e size v k xs) (hb : base' ≤ base) : W.ownsRow base' e size v k xs := by
  refine ⟨h.1, ?_⟩
  rcases h.2 with h0 | ⟨g, cap, cur, hv, h1, h2⟩
  · exact .inl h0
  · exact .inr ⟨g, cap, cur, hv, Nat.le_trans hb h1, h2⟩

section
attribute [local go_sem] Oper.semAt_some
set_option maxRecDepth 100000 in
set_option maxHeartbeats 2000000 in
theorem lines_any (s : ByteArray) (hs : s.size ≤ 100000000) (w : World) :
    Calls Tryd.prog 73 #[.string s] w fun e w' => ∃ v, e = .returned v ∧ w'.ownsRow w.heap.size 9 1 v (lns s.data.toList).length ((lns s.data.toList).map sv) ∧ Below w.heap.size w w' := by
  obtain ⟨i0, hi, hz0, hz1, hz2⟩ := info_parts infoS
  have hct := lns_count s.data.toList
  rw [← Lib.size_eq] at hct
  refine (callsIn_wide (n := 4)).1 ?_
  refine callsIn_of_wp_marks Tryd.func73 rfl trivial ?_ rfl
  simp only [Tryd.ntmps73, List.size_toArray, List.length_cons, List.length_nil, Nat.reduceAdd, Nat.reduceSub, Array.replicate_succ, Array.replicate_zero, List.push_toArray, List.append_toArray, List.nil_append, List.cons_append]
  gi_wp2_with fail
  refine ⟨trivial, ?_⟩
  refine (callsIn_wide.2 (lines0_any _ _)).mono ?_
  rintro e w' ⟨rfl, rfl⟩
  gi_wp2_with fail
  have bO := Boxed.new w 43 (.slice none 0 0)
  have bN := Boxed.new (w.alloc (.cells #[.slice none 0 0] 43)) 9 (.string s)
  rw [World.size_alloc] at bN
  have hB0 : Below w.heap.size w ((w.alloc (.cells #[.slice none 0 0] 43)).alloc (.cells #[.string s] 9)) := ((Below.refl _ w).alloc (Nat.le_refl _) _).alloc (by simp) _
  refine wpIn_rangeFunc_ownG rfl (by omega) (gf := 87) (lb := #[.pointer (some ⟨w.heap.size + 1, 0, none⟩)]) rfl trivial (enters_of Tryd.func87 (by kernel_rfl) rfl)
    (lines_stops _ (by omega) (w.heap.size + 1) w.heap.size s (by omega) _ (by simp) bN.cell) kpS_t (kpS_b (by simp; omega)) (Below.refl _ _) (fun _ => rfl)
    (fun pre W => (∃ v, Boxed W w.heap.size 43 v ∧ W.ownsRow (w.heap.size + 2) 9 1 v pre.length (pre.map sv) ∧ True) ∧ Below w.heap.size w W ∧ w.heap.size + 2 ≤ W.heap.size)
    (fun _ _ _ => False)
    (OwnFrom.and (Own.from (holdsRow_own (w.heap.size + 2) w.heap.size 43 9 1 (fun pre : List (List UInt8) => pre.length) (fun pre => pre.map sv) (fun _ _ => True)) _) (OwnFrom.and (ownFrom_below (Nat.le_refl _) (by simp; omega)) (fun s A B row hs hg hr => Nat.le_trans hs hg.size)))
    (fun _ _ _ _ _ hs _ _ => hs)
    ⟨⟨_, bO.alloc _, World.ownsRow_nil _ _ _ _, trivial⟩, hB0, by simp⟩
    (fun x => { tmps := #[.string s, undef, .slice none 0 0, .pointer (some ⟨w.heap.size, 0, none⟩), .string (mkb x), .string s, .func (.func 87) #[] #[.pointer (some ⟨w.heap.size + 1, 0, none⟩)], .string (mkb x), undef, undef, undef, undef, undef], defers := [] }) ?assign ?body ?done ?stop
  case assign =>
    intro l x W K hK
    gi_wp2
    exact hK
  case body =>
    rintro l pre x W ⟨⟨v, hv, hrow, -⟩, hB, hsz⟩ hlt
    have hc := hv.cell
    gi_wp2_with (gi_at_builtin; refine wpListIn_append_own _ rfl _ _ 43 rfl (w.heap.size + 2) 9 i0 (.string ⟨#[]⟩) 1 16 Tryd.underlying43 hi hz0 hz1 hz2 rfl (by decide) _ _ _ rfl (hrow.alloc _) ⟨W.heap.size, 0, none⟩ 1 1 [.string (mkb x)] rfl rfl (cell_one_new _ _ _) (by simp [Value.oneCell']) (by unfold maxLen; omega) (by omega) (by simp; omega) ?_; intro v' w1 hown' hgrow _; obtain ⟨g', cap', rfl⟩ := ownsRow_succ hown'; obtain ⟨hv1, hv2, hr2, hk2, hb2⟩ := hv.appended (by decide) (own_base hrow (base' := w.heap.size) (by omega)) hB.size (Nat.le_refl _) (own_base hown' (base' := w.heap.size) (by omega)) hgrow; have hc1 := hv1.cell; have hf1 := hv1.frozen)
    refine ⟨hk2.from _, ⟨hb2, fun u hu => ?_⟩, ⟨_, hv2, ?_, trivial⟩, hB.trans hb2, Nat.le_trans hsz hk2.size⟩
    · rw [World.cell?_setCell_far _ _ _ _ (by show w.heap.size ≠ w.heap.size + 1; omega)]
      have h1 : (W.alloc (.cells #[.string (mkb x)] 9)).cell? ⟨w.heap.size + 1, 0, none⟩ = some u := by rw [World.cell?_alloc_lt _ _ _ (by show w.heap.size + 1 < W.heap.size; omega)]; exact hu
      refine (World.cell?_of_block (hgrow.block (w.heap.size + 1) (by simp; omega) (fun e => ?_))).trans h1
      have := ((hrow.alloc (.cells #[.string (mkb x)] 9)).lt _ e.symm).1
      omega
    · have := hown'.kept (grownBy_setCell' w1 w.heap.size (.slice (some ⟨g', 0, none⟩) (pre.length + 1) cap')) (.inr (hv1.not_row (by decide) hown').symm)
      simpa [sv] using this
  case done =>
    rintro D ys W hD rfl ⟨⟨v, hv, hrow, -⟩, hB, hsz⟩ hK
    have hc := hv.cell
    gi_wp2
    refine ⟨by simp, .inl ⟨_, _, rfl, run_takeDeferred hK, ?_⟩⟩
    exact ⟨_, results_tmp rfl _ _ _, v, rfl, own_base (ownsRow_putObj hrow _ hK rfl) (by omega), hB.trans (belowK_b (w := w) (Nat.le_refl _) W D _ _ (by simp at hD; omega) hK rfl rfl)⟩
  case stop =>
    rintro D c pre W _ _ h _
    exact h.elim
end

/-- The first k bytes are blanks. -/
def Bl (l : List UInt8) (k : Nat) : Prop := ∀ j, j < k → ∃ c, l[j]? = some c ∧ blB c = true
theorem Bl.start (l : List UInt8) : Bl l 0 := fun j hj => by omega
theorem Bl.next {l : List UInt8} {k : Nat} {c : UInt8} (h : Bl l k) (hc : l[k]? = some c) (hb : blB c = true) : Bl l (k + 1) := by
  intro j hj
  by_cases e : j = k
  · subst e; exact ⟨c, hc, hb⟩
  · exact h j (by omega)
theorem Bl.ends {l : List UInt8} {k : Nat} (h : Bl l k) (hk : k = l.length ∨ ∃ c, l[k]? = some c ∧ blB c = false) : mg l = k := mg_at h hk

set_option maxHeartbeats 1000000 in
theorem indent_any (s : ByteArray) (w : World) (hs : s.size ≤ 9223372036854775807) :
    Calls Tryd.prog 79 #[.string s] w fun e w' => e = .returned (.int .i64 (mg s.data.toList : Nat)) ∧ w = w' := by
  have HZ := Lib.hid (Lib.size_eq s).symm
  go_enter Tryd.func79, Tryd.ntmps79
  go_wp2
  go_loop [3] (fun n => ∃ k : Nat, k ≤ s.size ∧ n = .int .i64 k ∧ Bl s.data.toList k) (fun n => s.size - (intOf n).toNat)
  case atStart => exact ⟨0, Nat.zero_le _, rfl, Bl.start _⟩
  case round =>
    obtain ⟨k, hk, rfl, hbl⟩ := hrel
    have HB := Lib.hid hbl
    clear hbl
    by_cases hlt : k < s.size
    · obtain ⟨c, hc1, hc2⟩ := at_byte hlt
      have d0 : decide ((k : Int) < (s.size : Int)) = true := by simp [hlt]
      by_cases h9 : c = 9
      · have HN := Lib.hid (HB.out.next hc1 (by rw [h9]; rfl))
        have b1 : (((s[k]'hlt).toNat : Int) == 9) = true := by rw [hc2, h9]; rfl
        clear hc1 hc2 h9
        go_wp2
        go_round
        case rel => exact ⟨k + 1, by omega, by go_num, HN.out⟩
        case measure => simp [intOf]; omega
      by_cases h32 : c = 32
      · have HN := Lib.hid (HB.out.next hc1 (by rw [h32]; rfl))
        have b1 : (((s[k]'hlt).toNat : Int) == 9) = false := by rw [hc2, h32]; rfl
        have b2 : (((s[k]'hlt).toNat : Int) == 32) = true := by rw [hc2, h32]; rfl
        clear hc1 hc2 h9 h32
        go_wp2
        go_round
        case rel => exact ⟨k + 1, by omega, by go_num, HN.out⟩
        case measure => simp [intOf]; omega
      · have HN := Lib.hid (HB.out.ends (.inr ⟨c, hc1, by simp [blB, h9, h32]⟩))
        have b1 : (((s[k]'hlt).toNat : Int) == 9) = false := by
          rw [hc2]; simp only [beq_eq_false_iff_ne, ne_eq]; intro h; exact h9 (UInt8.toNat_inj.1 (by exact_mod_cast h))
        have b2 : (((s[k]'hlt).toNat : Int) == 32) = false := by
          rw [hc2]; simp only [beq_eq_false_iff_ne, ne_eq]; intro h; exact h32 (UInt8.toNat_inj.1 (by exact_mod_cast h))
        clear hc1 hc2 h9 h32
        go_wp2
        go_ret
        refine ⟨?_, rfl⟩
        rw [HN.out]; rfl
    · have d0 : decide ((k : Int) < (s.size : Int)) = false := by simp; omega
      have HN := Lib.hid (HB.out.ends (.inl (by rw [HZ.out]; omega)))
      go_wp2
      go_ret
      refine ⟨?_, rfl⟩
      rw [HN.out]; rfl
end Go.Proofs.YtjfhcgolgabkkaaDoor.Fo
