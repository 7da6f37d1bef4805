/- The law TextEscape: its walk. -/
import Derived.Test.YtfkokhagbdeahaaTextF
namespace Go.Proofs.Ytfkokhagbdeahaa
open Go.RowKit
set_option linter.unusedVariables false

/-- '[]byte{92, x}' made into a string, under a name of its own. -/
theorem two_bytes (x : Int) : ∃ P : ByteArray, P = mkb [92, UInt8.ofNat x.toNat] ∧ ∀ w : World, (convert 33 9 (.slice (some ⟨w.heap.size, 0, none⟩) 2 2)).run Try.prog (w.alloc (.cells #[.int .u8 92, .int .u8 x] 5)) =
    .ok (.string P) (w.alloc (.cells #[.int .u8 92, .int .u8 x] 5)) := ⟨_, rfl, fun w => conv2 w 92 x⟩
theorem esc0 {l : List UInt8} : escA l 0 = esc l := by
  have := escA_nat (l := l) (k := 0)
  rwa [List.drop_zero] at this

set_option maxHeartbeats 2000000 in
set_option maxRecDepth 100000 in
theorem escape_law (x : Int) (s : ByteArray) (w : World) (h0 : 0 ≤ x) (h1 : x < 256) (zs : s.size ≤ 9223372036854775807) :
    Calls Try.prog 8 #[.int .u8 x, .string s] w fun e w' => e = .returned (.bool true) ∧ Below w.heap.size w w' := by
  by_cases hs : 300 < s.size
  · have gs : (300 : Int) < (s.size : Int) := by omega
    clear hs
    go_enter Try.func8, Try.ntmps8
    (try simp only [List.append_eq, List.cons_append, List.nil_append])
    go_wp2_with fail
    (with_reducible refine (awake_any _).mono ?_)
    rintro e w1 ⟨rfl, hb1⟩
    go_wp2_with fail
    go_ret
    exact ⟨by first | (simp; done) | (simp; omega), hb1⟩
  have gs : ¬ (300 : Int) < (s.size : Int) := by omega
  by_cases h117 : x = 117
  · subst h117
    clear hs
    go_enter Try.func8, Try.ntmps8
    (try simp only [List.append_eq, List.cons_append, List.nil_append])
    go_wp2_with fail
    (with_reducible refine (awake_any _).mono ?_)
    rintro e w1 ⟨rfl, hb1⟩
    go_wp2_with fail
    go_ret
    exact ⟨by first | (simp; done) | (simp; omega), hb1⟩
  have ls : s.data.toList.length = s.size := (Lib.size_eq s).symm
  obtain ⟨P, hP, hcv⟩ := two_bytes x
  obtain ⟨S1, h2, s1⟩ := sadd' (A := P) (B := s) hP (mkb_of s).symm (by first | (simp; done) | (simp; omega))

  by_cases x34 : x = 34
  · subst x34
    have r1 : ∀ w, Calls Try.prog 13 #[.string S1, .int .i64 0] w fun e w' => e = .returned (.tuple #[.string ⟨#[34]⟩, .int .i64 2, .bool true]) ∧ Below w.heap.size w w' := fun w =>
      escape_y h2 (t := [34]) (m := 2) (by rw [esc0]; rfl) (by first | (simp; done) | (simp; omega)) w
    have zV : (⟨#[34]⟩ : ByteArray).size = 1 := rfl
    clear hP h2 ls hs h0 h1
    go_enter Try.func8, Try.ntmps8
    (try simp only [List.append_eq, List.cons_append, List.nil_append])
    go_wp2_with fail
    (with_reducible refine (awake_any _).mono ?_)
    rintro e w1 ⟨rfl, hb1⟩
    go_wp2_with fail
    (with_reducible refine (r1 _).mono ?_)
    rintro e w2 ⟨rfl, hb2⟩
    go_wp2_with fail
    go_ret
    exact ⟨by first | rfl | kernel_rfl, (bel_trans (bel_alloc hb1 _) hb2)⟩
  by_cases x92 : x = 92
  · subst x92
    have r1 : ∀ w, Calls Try.prog 13 #[.string S1, .int .i64 0] w fun e w' => e = .returned (.tuple #[.string ⟨#[92]⟩, .int .i64 2, .bool true]) ∧ Below w.heap.size w w' := fun w =>
      escape_y h2 (t := [92]) (m := 2) (by rw [esc0]; rfl) (by first | (simp; done) | (simp; omega)) w
    have zV : (⟨#[92]⟩ : ByteArray).size = 1 := rfl
    clear hP h2 ls hs h0 h1
    go_enter Try.func8, Try.ntmps8
    (try simp only [List.append_eq, List.cons_append, List.nil_append])
    go_wp2_with fail
    (with_reducible refine (awake_any _).mono ?_)
    rintro e w1 ⟨rfl, hb1⟩
    go_wp2_with fail
    (with_reducible refine (r1 _).mono ?_)
    rintro e w2 ⟨rfl, hb2⟩
    go_wp2_with fail
    go_ret
    exact ⟨by first | rfl | kernel_rfl, (bel_trans (bel_alloc hb1 _) hb2)⟩
  by_cases x47 : x = 47
  · subst x47
    have r1 : ∀ w, Calls Try.prog 13 #[.string S1, .int .i64 0] w fun e w' => e = .returned (.tuple #[.string ⟨#[47]⟩, .int .i64 2, .bool true]) ∧ Below w.heap.size w w' := fun w =>
      escape_y h2 (t := [47]) (m := 2) (by rw [esc0]; rfl) (by first | (simp; done) | (simp; omega)) w
    have zV : (⟨#[47]⟩ : ByteArray).size = 1 := rfl
    clear hP h2 ls hs h0 h1
    go_enter Try.func8, Try.ntmps8
    (try simp only [List.append_eq, List.cons_append, List.nil_append])
    go_wp2_with fail
    (with_reducible refine (awake_any _).mono ?_)
    rintro e w1 ⟨rfl, hb1⟩
    go_wp2_with fail
    (with_reducible refine (r1 _).mono ?_)
    rintro e w2 ⟨rfl, hb2⟩
    go_wp2_with fail
    go_ret
    exact ⟨by first | rfl | kernel_rfl, (bel_trans (bel_alloc hb1 _) hb2)⟩
  by_cases x98 : x = 98
  · subst x98
    have r1 : ∀ w, Calls Try.prog 13 #[.string S1, .int .i64 0] w fun e w' => e = .returned (.tuple #[.string ⟨#[8]⟩, .int .i64 2, .bool true]) ∧ Below w.heap.size w w' := fun w =>
      escape_y h2 (t := [8]) (m := 2) (by rw [esc0]; rfl) (by first | (simp; done) | (simp; omega)) w
    have zV : (⟨#[8]⟩ : ByteArray).size = 1 := rfl
    clear hP h2 ls hs h0 h1
    go_enter Try.func8, Try.ntmps8
    (try simp only [List.append_eq, List.cons_append, List.nil_append])
    go_wp2_with fail
    (with_reducible refine (awake_any _).mono ?_)
    rintro e w1 ⟨rfl, hb1⟩
    go_wp2_with fail
    (with_reducible refine (r1 _).mono ?_)
    rintro e w2 ⟨rfl, hb2⟩
    go_wp2_with fail
    go_ret
    exact ⟨by first | rfl | kernel_rfl, (bel_trans (bel_alloc hb1 _) hb2)⟩
  by_cases x102 : x = 102
  · subst x102
    have r1 : ∀ w, Calls Try.prog 13 #[.string S1, .int .i64 0] w fun e w' => e = .returned (.tuple #[.string ⟨#[12]⟩, .int .i64 2, .bool true]) ∧ Below w.heap.size w w' := fun w =>
      escape_y h2 (t := [12]) (m := 2) (by rw [esc0]; rfl) (by first | (simp; done) | (simp; omega)) w
    have zV : (⟨#[12]⟩ : ByteArray).size = 1 := rfl
    clear hP h2 ls hs h0 h1
    go_enter Try.func8, Try.ntmps8
    (try simp only [List.append_eq, List.cons_append, List.nil_append])
    go_wp2_with fail
    (with_reducible refine (awake_any _).mono ?_)
    rintro e w1 ⟨rfl, hb1⟩
    go_wp2_with fail
    (with_reducible refine (r1 _).mono ?_)
    rintro e w2 ⟨rfl, hb2⟩
    go_wp2_with fail
    go_ret
    exact ⟨by first | rfl | kernel_rfl, (bel_trans (bel_alloc hb1 _) hb2)⟩
  by_cases x110 : x = 110
  · subst x110
    have r1 : ∀ w, Calls Try.prog 13 #[.string S1, .int .i64 0] w fun e w' => e = .returned (.tuple #[.string ⟨#[10]⟩, .int .i64 2, .bool true]) ∧ Below w.heap.size w w' := fun w =>
      escape_y h2 (t := [10]) (m := 2) (by rw [esc0]; rfl) (by first | (simp; done) | (simp; omega)) w
    have zV : (⟨#[10]⟩ : ByteArray).size = 1 := rfl
    clear hP h2 ls hs h0 h1
    go_enter Try.func8, Try.ntmps8
    (try simp only [List.append_eq, List.cons_append, List.nil_append])
    go_wp2_with fail
    (with_reducible refine (awake_any _).mono ?_)
    rintro e w1 ⟨rfl, hb1⟩
    go_wp2_with fail
    (with_reducible refine (r1 _).mono ?_)
    rintro e w2 ⟨rfl, hb2⟩
    go_wp2_with fail
    go_ret
    exact ⟨by first | rfl | kernel_rfl, (bel_trans (bel_alloc hb1 _) hb2)⟩
  by_cases x114 : x = 114
  · subst x114
    have r1 : ∀ w, Calls Try.prog 13 #[.string S1, .int .i64 0] w fun e w' => e = .returned (.tuple #[.string ⟨#[13]⟩, .int .i64 2, .bool true]) ∧ Below w.heap.size w w' := fun w =>
      escape_y h2 (t := [13]) (m := 2) (by rw [esc0]; rfl) (by first | (simp; done) | (simp; omega)) w
    have zV : (⟨#[13]⟩ : ByteArray).size = 1 := rfl
    clear hP h2 ls hs h0 h1
    go_enter Try.func8, Try.ntmps8
    (try simp only [List.append_eq, List.cons_append, List.nil_append])
    go_wp2_with fail
    (with_reducible refine (awake_any _).mono ?_)
    rintro e w1 ⟨rfl, hb1⟩
    go_wp2_with fail
    (with_reducible refine (r1 _).mono ?_)
    rintro e w2 ⟨rfl, hb2⟩
    go_wp2_with fail
    go_ret
    exact ⟨by first | rfl | kernel_rfl, (bel_trans (bel_alloc hb1 _) hb2)⟩
  by_cases x116 : x = 116
  · subst x116
    have r1 : ∀ w, Calls Try.prog 13 #[.string S1, .int .i64 0] w fun e w' => e = .returned (.tuple #[.string ⟨#[9]⟩, .int .i64 2, .bool true]) ∧ Below w.heap.size w w' := fun w =>
      escape_y h2 (t := [9]) (m := 2) (by rw [esc0]; rfl) (by first | (simp; done) | (simp; omega)) w
    have zV : (⟨#[9]⟩ : ByteArray).size = 1 := rfl
    clear hP h2 ls hs h0 h1
    go_enter Try.func8, Try.ntmps8
    (try simp only [List.append_eq, List.cons_append, List.nil_append])
    go_wp2_with fail
    (with_reducible refine (awake_any _).mono ?_)
    rintro e w1 ⟨rfl, hb1⟩
    go_wp2_with fail
    (with_reducible refine (r1 _).mono ?_)
    rintro e w2 ⟨rfl, hb2⟩
    go_wp2_with fail
    go_ret
    exact ⟨by first | rfl | kernel_rfl, (bel_trans (bel_alloc hb1 _) hb2)⟩
  have r1 : ∀ w, Calls Try.prog 13 #[.string S1, .int .i64 0] w fun e w' => e = .returned (.tuple #[.string ⟨#[]⟩, .int .i64 0, .bool false]) ∧ Below w.heap.size w w' := fun w =>
    escape_n h2 (by
      rw [esc0]
      have e : (UInt8.ofNat x.toNat).toNat = x.toNat := toNat_ofNat (by omega)
      show esc (92 :: UInt8.ofNat x.toNat :: _) = none
      rw [esc_sh (fun h => by rw [h] at e; exact h117 (by have : ((117 : UInt8).toNat) = 117 := rfl; omega)), shB_none (by intro n hn; rw [e]; simp at hn; omega)]; rfl) (by first | (simp; done) | (simp; omega)) w
  have t34 : (x == 34) = false := beq_false_of_ne x34
  have t92 : (x == 92) = false := beq_false_of_ne x92
  have t47 : (x == 47) = false := beq_false_of_ne x47
  have t98 : (x == 98) = false := beq_false_of_ne x98
  have t102 : (x == 102) = false := beq_false_of_ne x102
  have t110 : (x == 110) = false := beq_false_of_ne x110
  have t114 : (x == 114) = false := beq_false_of_ne x114
  have t116 : (x == 116) = false := beq_false_of_ne x116
  have t117 : (x == 117) = false := beq_false_of_ne h117
  clear hP h2 ls hs x34 x92 x47 x98 x102 x110 x114 x116 h117
  go_enter Try.func8, Try.ntmps8
  (try simp only [List.append_eq, List.cons_append, List.nil_append])
  go_wp2_with fail
  (with_reducible refine (awake_any _).mono ?_)
  rintro e w1 ⟨rfl, hb1⟩
  go_wp2_with fail
  (with_reducible refine (r1 _).mono ?_)
  rintro e w2 ⟨rfl, hb2⟩
  go_wp2_with fail
  go_ret
  exact ⟨by first | (simp; done) | (simp; omega), (bel_trans (bel_alloc hb1 _) hb2)⟩
end Go.Proofs.Ytfkokhagbdeahaa
