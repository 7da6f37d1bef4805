/- The document's own answers for layer 7 (copperplateref07): Lines. -/
import Derived.Test.YtcedfonkahffcaaGreatFoldR
namespace Go.Proofs.YtcedfonkahffcaaGreat.Fo
open Go.RowKit
set_option linter.unusedVariables false
set_option maxRecDepth 100000

/-- Does a byte 13 stand ahead of place a? -/
def P13 (l : List UInt8) (a : Nat) : Bool := decide (0 < a ∧ l[a - 1]? = some 13)
theorem P13_no {l : List UInt8} {a : Nat} {c : UInt8} (h : l[a]? = some c) (hc : c ≠ 13) : P13 l (a + 1) = false := by
  unfold P13; rw [Nat.add_sub_cancel, h]; simp [hc]
theorem P13_yes {l : List UInt8} {a : Nat} (h : l[a]? = some 13) : P13 l (a + 1) = true := by
  unfold P13; rw [Nat.add_sub_cancel, h]; simp
def RAt (l : List UInt8) (pre : List (List UInt8)) (f a : Nat) : Prop :=
  f ≤ a ∧ a ≤ l.length ∧ noE ((l.drop f).take (a - f)) ∧ ((P13 l a = false ∧ pre ++ lns (l.drop f) = lns l) ∨ (P13 l a = true ∧ f = a ∧ pre ++ lns (skp (l.drop a)) = lns l))
theorem RAt.start (l : List UInt8) : RAt l [] 0 0 := ⟨Nat.le_refl _, Nat.zero_le _, by intro b hb; simp at hb, .inl ⟨by simp [P13], by simp⟩⟩
theorem RAt.at {l : List UInt8} {pre : List (List UInt8)} {f a : Nat} (h : RAt l pre f a) (hn : ¬ (l[a]? = some 10 ∧ P13 l a = true)) : At l pre f a := by
  obtain ⟨h1, h2, h3, ⟨_, h4⟩ | ⟨h4, h5, h6⟩⟩ := h
  · exact ⟨h4, h1, h2, h3⟩
  · subst h5
    rw [skp_no (by rw [List.head?_drop]; exact fun e => hn ⟨e, h4⟩)] at h6
    exact ⟨h6, h1, h2, h3⟩
theorem RAt.crlf {l : List UInt8} {pre : List (List UInt8)} {f a : Nat} (h : RAt l pre f a) (hc : l[a]? = some 10) (hp : P13 l a = true) : RAt l pre (a + 1) (a + 1) := by
  obtain ⟨h1, h2, h3, ⟨h4, _⟩ | ⟨h4, h5, h6⟩⟩ := h
  · rw [hp] at h4; cases h4
  · obtain ⟨g1, g2⟩ := List.getElem?_eq_some_iff.1 hc
    rw [List.drop_eq_getElem_cons g1, g2] at h6
    exact ⟨Nat.le_refl _, by omega, by rw [Nat.sub_self]; exact noE_nil, .inl ⟨P13_no hc (by decide), by simpa [skp] using h6⟩⟩
theorem At.r10 {l : List UInt8} {pre : List (List UInt8)} {f a : Nat} (h : At l pre f a) (hc : l[a]? = some 10) : RAt l (pre ++ [(l.drop f).take (a - f)]) (a + 1) (a + 1) := by
  obtain ⟨e, g1, g2, g3⟩ := (h.ten hc).1
  exact ⟨g1, g2, g3, .inl ⟨P13_no hc (by decide), e⟩⟩
theorem At.r13 {l : List UInt8} {pre : List (List UInt8)} {f a : Nat} (h : At l pre f a) (hc : l[a]? = some 13) : RAt l (pre ++ [(l.drop f).take (a - f)]) (a + 1) (a + 1) := by
  obtain ⟨e, g1, g2, g3⟩ := h
  obtain ⟨h3, h4⟩ := List.getElem?_eq_some_iff.1 hc
  rw [seg_cut g1 hc, lns_13 g3] at e
  exact ⟨Nat.le_refl _, by omega, by rw [Nat.sub_self]; exact noE_nil, .inr ⟨P13_yes hc, rfl, by rw [← e]; simp⟩⟩
theorem At.rskip {l : List UInt8} {pre : List (List UInt8)} {f a : Nat} {c : UInt8} (h : At l pre f a) (hc : l[a]? = some c) (h1 : c ≠ 10) (h2 : c ≠ 13) : RAt l pre f (a + 1) := by
  obtain ⟨e, g1, g2, g3⟩ := h.skip hc h1 h2
  exact ⟨g1, g2, g3, .inl ⟨P13_no hc h2, e⟩⟩
theorem At.lt {l : List UInt8} {pre : List (List UInt8)} {f a : Nat} (h : At l pre f a) : pre.length < (lns l).length := by
  obtain ⟨e, _⟩ := h
  have := lns_pos (l.drop f)
  rw [← e, List.length_append]; omega

set_option maxHeartbeats 2000000 in
theorem rlines_any (s : ByteArray) (hs : s.size ≤ 100000000) (w : World) :
    Calls Tryz.prog 64 #[.string s] w fun e w' => ∃ v, e = .returned v ∧ w'.ownsRow w.heap.size 9 1 v (lns s.data.toList).length ((lns s.data.toList).map sv) ∧ Below w.heap.size w w' := by
  have HZ := Lib.hid (Lib.size_eq s).symm
  obtain ⟨i0, hi, hz0, hz1, hz2⟩ := info_parts infoS
  have HI := Lib.hid hi
  have HI0 := Lib.hid hz0
  have HI1 := Lib.hid hz1
  have HI2 := Lib.hid hz2
  have hct := lns_count s.data.toList
  rw [← Lib.size_eq] at hct
  clear hi hz0 hz1 hz2
  go_enter Tryz.func64, Tryz.ntmps64
  go_wp2_with fail
  go_loopw [3, 4, 5] (fun o x i wr => ∃ (f a : Nat) (pre : List (List UInt8)), x = .int .i64 f ∧ i = .int .i64 a ∧ RAt s.data.toList pre f a ∧ wr.ownsRow w.heap.size 9 1 o pre.length (pre.map sv) ∧ Below w.heap.size w wr) (fun _ _ i _ => s.size - (intOf i).toNat)
  case atStart => exact ⟨0, 0, [], rfl, rfl, RAt.start _, World.ownsRow_nil _ _ _ _, Below.refl _ _⟩
  case round =>
    obtain ⟨f, a, pre, rfl, rfl, hat, hown, hB⟩ := hrel
    have hfa : f ≤ a := hat.1
    have has : a ≤ s.size := by have := hat.2.1; rw [HZ.out] at this; exact this
    have HA := Lib.hid hat
    have HO := Lib.hid hown
    clear hat hown
    have HE := Lib.hid (ext_mkb' s f a)
    by_cases hlt : a < s.size
    · obtain ⟨c, hc1, hc2⟩ := at_byte hlt
      by_cases h10 : c = 10
      · subst h10
        have b10 : (((s[a]'hlt).toNat : Int) == 10) = true := by rw [hc2]; rfl
        cases hp : P13 s.data.toList a
        · have hat := HA.out.at (fun h => by rw [hp] at h; cases h.2)
          have hpl := hat.lt
          have HX := Lib.hid (hat.r10 hc1)
          clear hat
          cases a with
          | zero =>
            clear hc1 hc2 hp
            go_wp2_with (at_builtin; refine wpList_append_own _ rfl _ _ 69 rfl w.heap.size 9 i0 (.string ⟨#[]⟩) 1 16 Tryz.underlying69 HI.out HI0.out HI1.out HI2.out rfl (by decide) _ _ _ rfl (HO.out.alloc _) ⟨wr.heap.size, 0, none⟩ 1 1 [.string (s.extract f 0)] rfl rfl (cell_one_new _ _ _) (by simp [Value.oneCell']) (by unfold maxLen; omega) (by omega) (by have := hB.size; simp; omega) ?_)
            intro v' w1 hown' hgrow _
            have hB1 : Below w.heap.size w w1 := (bel_alloc hB _).grown hgrow (by have := hB.size; simp; omega) (fun k hk => (HO.out.lt k hk).1)
            have hown2 : w1.ownsRow w.heap.size 9 1 v' (pre ++ [((s.data.toList.drop f).take (0 - f))]).length ((pre ++ [((s.data.toList.drop f).take (0 - f))]).map sv) := by
              rw [List.length_append, List.map_append]
              have : sv ((s.data.toList.drop f).take (0 - f)) = .string ((s.extract f 0)) := by rw [HE.out]; rfl
              show w1.ownsRow _ _ _ _ _ (pre.map sv ++ [sv ((s.data.toList.drop f).take (0 - f))])
              rw [this]; exact hown'
            have HO2 := Lib.hid hown2
            clear hown' hgrow hown2
            go_wp2
            go_roundw
            case rel => exact ⟨0 + 1, 0 + 1, _, by go_num, by go_num, HX.out, HO2.out, hB1⟩
            case measure => simp [intOf]; omega
          | succ a =>
            have hlt2 : a < s.size := by omega
            have b13 : (((s[a]'hlt2).toNat : Int) == 13) = false := by
              obtain ⟨d, hd1, hd2⟩ := at_byte hlt2
              have hd3 : d ≠ 13 := by rintro rfl; rw [P13_yes hd1] at hp; cases hp
              rw [hd2]; simp only [beq_eq_false_iff_ne, ne_eq]; intro h; exact hd3 (UInt8.toNat_inj.1 (by exact_mod_cast h))
            clear hc1 hc2 hp
            go_wp2_with (at_builtin; refine wpList_append_own _ rfl _ _ 69 rfl w.heap.size 9 i0 (.string ⟨#[]⟩) 1 16 Tryz.underlying69 HI.out HI0.out HI1.out HI2.out rfl (by decide) _ _ _ rfl (HO.out.alloc _) ⟨wr.heap.size, 0, none⟩ 1 1 [.string (s.extract f (a + 1))] rfl rfl (cell_one_new _ _ _) (by simp [Value.oneCell']) (by unfold maxLen; omega) (by omega) (by have := hB.size; simp; omega) ?_)
            intro v' w1 hown' hgrow _
            have hB1 : Below w.heap.size w w1 := (bel_alloc hB _).grown hgrow (by have := hB.size; simp; omega) (fun k hk => (HO.out.lt k hk).1)
            have hown2 : w1.ownsRow w.heap.size 9 1 v' (pre ++ [((s.data.toList.drop f).take (a + 1 - f))]).length ((pre ++ [((s.data.toList.drop f).take (a + 1 - f))]).map sv) := by
              rw [List.length_append, List.map_append]
              have : sv ((s.data.toList.drop f).take (a + 1 - f)) = .string ((s.extract f (a + 1))) := by rw [HE.out]; rfl
              show w1.ownsRow _ _ _ _ _ (pre.map sv ++ [sv ((s.data.toList.drop f).take (a + 1 - f))])
              rw [this]; exact hown'
            have HO2 := Lib.hid hown2
            clear hown' hgrow hown2
            go_wp2
            go_roundw
            case rel => exact ⟨a + 1 + 1, a + 1 + 1, _, by go_num, by go_num, HX.out, HO2.out, hB1⟩
            case measure => simp [intOf]; omega
        · have HX := Lib.hid (HA.out.crlf hc1 hp)
          cases a with
          | zero => simp [P13] at hp
          | succ a =>
            have hlt2 : a < s.size := by omega
            have b13 : (((s[a]'hlt2).toNat : Int) == 13) = true := by
              obtain ⟨d, hd1, hd2⟩ := at_byte hlt2
              unfold P13 at hp
              rw [decide_eq_true_iff, Nat.add_sub_cancel, hd1] at hp
              have := hp.2
              injection this with this
              rw [hd2, this]; rfl
            clear hc1 hc2 hp
            go_wp2
            go_roundw
            case rel => exact ⟨a + 1 + 1, a + 1 + 1, _, by go_num, by go_num, HX.out, HO.out, hB⟩
            case measure => simp [intOf]; omega
      have b10 : (((s[a]'hlt).toNat : Int) == 10) = false := by
        rw [hc2]; simp only [beq_eq_false_iff_ne, ne_eq]; intro h; exact h10 (UInt8.toNat_inj.1 (by exact_mod_cast h))
      have hat := HA.out.at (fun h => by rw [hc1] at h; exact h10 (Option.some.inj h.1))
      have hpl := hat.lt
      by_cases h13 : c = 13
      · subst h13
        have b13 : (((s[a]'hlt).toNat : Int) == 13) = true := by rw [hc2]; rfl
        have HX := Lib.hid (hat.r13 hc1)
        clear hc1 hc2 hat h10
        go_wp2_with (at_builtin; refine wpList_append_own _ rfl _ _ 69 rfl w.heap.size 9 i0 (.string ⟨#[]⟩) 1 16 Tryz.underlying69 HI.out HI0.out HI1.out HI2.out rfl (by decide) _ _ _ rfl (HO.out.alloc _) ⟨wr.heap.size, 0, none⟩ 1 1 [.string (s.extract f a)] rfl rfl (cell_one_new _ _ _) (by simp [Value.oneCell']) (by unfold maxLen; omega) (by omega) (by have := hB.size; simp; omega) ?_)
        intro v' w1 hown' hgrow _
        have hB1 : Below w.heap.size w w1 := (bel_alloc hB _).grown hgrow (by have := hB.size; simp; omega) (fun k hk => (HO.out.lt k hk).1)
        have hown2 : w1.ownsRow w.heap.size 9 1 v' (pre ++ [((s.data.toList.drop f).take (a - f))]).length ((pre ++ [((s.data.toList.drop f).take (a - f))]).map sv) := by
          rw [List.length_append, List.map_append]
          have : sv ((s.data.toList.drop f).take (a - f)) = .string ((s.extract f a)) := by rw [HE.out]; rfl
          show w1.ownsRow _ _ _ _ _ (pre.map sv ++ [sv ((s.data.toList.drop f).take (a - f))])
          rw [this]; exact hown'
        have HO2 := Lib.hid hown2
        clear hown' hgrow hown2
        go_wp2
        go_roundw
        case rel => exact ⟨a + 1, a + 1, _, by go_num, by go_num, HX.out, HO2.out, hB1⟩
        case measure => simp [intOf]; omega
      · have b13 : (((s[a]'hlt).toNat : Int) == 13) = false := by
          rw [hc2]; simp only [beq_eq_false_iff_ne, ne_eq]; intro h; exact h13 (UInt8.toNat_inj.1 (by exact_mod_cast h))
        have HX := Lib.hid (hat.rskip hc1 h10 h13)
        clear hc1 hc2 hat h10 h13
        go_wp2
        go_roundw
        case rel => exact ⟨f, a + 1, _, rfl, by go_num, HX.out, HO.out, hB⟩
        case measure => simp [intOf]; omega
    · obtain rfl : a = s.size := by omega
      have hat := HA.out.at (fun h => by have := (List.getElem?_eq_some_iff.1 h.1).1; rw [HZ.out] at this; omega)
      have hpl := hat.lt
      have hend := (show At s.data.toList pre f s.data.toList.length by rw [HZ.out]; exact hat).end_
      have HN := Lib.hid hend.1
      have HE := Lib.hid (ext_drop s f)
      clear hat hend
      go_wp2_with (at_builtin; refine wpList_append_own _ rfl _ _ 69 rfl w.heap.size 9 i0 (.string ⟨#[]⟩) 1 16 Tryz.underlying69 HI.out HI0.out HI1.out HI2.out rfl (by decide) _ _ _ rfl (HO.out.alloc _) ⟨wr.heap.size, 0, none⟩ 1 1 [.string (s.extract f s.size)] rfl rfl (cell_one_new _ _ _) (by simp [Value.oneCell']) (by unfold maxLen; omega) (by omega) (by have := hB.size; simp; omega) ?_)
      intro v' w1 hown' hgrow _
      have hB1 : Below w.heap.size w w1 := (bel_alloc hB _).grown hgrow (by have := hB.size; simp; omega) (fun k hk => (HO.out.lt k hk).1)
      have hown2 : w1.ownsRow w.heap.size 9 1 v' (pre ++ [(s.data.toList.drop f)]).length ((pre ++ [(s.data.toList.drop f)]).map sv) := by
        rw [List.length_append, List.map_append]
        have : sv (s.data.toList.drop f) = .string ((s.extract f s.size)) := by rw [HE.out]; rfl
        show w1.ownsRow _ _ _ _ _ (pre.map sv ++ [sv (s.data.toList.drop f)])
        rw [this]; exact hown'
      have HO2 := Lib.hid hown2
      clear hown' hgrow hown2
      go_wp2
      go_ret
      refine ⟨v', rfl, ?_, hB1⟩
      rw [← HN.out]; exact HO2.out
theorem rlines_n (s : ByteArray) (hs : s.size ≤ 100000000) (n : Nat) (hn : (lns s.data.toList).length = n + 1) (w : World) :
    Calls Tryz.prog 64 #[.string s] w fun e w' => ∃ g c, e = .returned (.slice (some ⟨g, 0, none⟩) (n + 1) c) ∧ n + 1 ≤ c ∧ Row w' w.heap.size g (lns s.data.toList) ∧ Below w.heap.size w w' := by
  refine (rlines_any s hs w).mono ?_
  rintro e w' ⟨v, rfl, hown, hB⟩
  rw [hn] at hown
  obtain ⟨g, c, rfl⟩ := ownsRow_succ hown
  exact ⟨g, c, rfl, own_cap hown, Row.of_own (by omega) hown, hB⟩
end Go.Proofs.YtcedfonkahffcaaGreat.Fo
