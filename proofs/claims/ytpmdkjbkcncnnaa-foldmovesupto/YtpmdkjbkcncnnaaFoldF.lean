/- The chapter's example (awake). -/
import Derived.Test.YtpmdkjbkcncnnaaFoldE
namespace Go.Proofs.Ytpmdkjbkcncnnaa
open Go.RowKit
set_option linter.unusedVariables false

theorem ex1 : fld [10, 32, 32, 97, 10, 32, 32, 32, 32, 98, 10] = [97, 10, 32, 32, 98] := by decide +kernel
theorem ex2 : rawA [34, 34, 34, 97, 92, 34, 34, 34, 34, 34, 34, 34] 0 = ⟨[97, 34, 34, 34], 11, true⟩ := by
  have h1 : (rawA [34, 34, 34, 97, 92, 34, 34, 34, 34, 34, 34, 34] 0).v = [97, 34, 34, 34] := by decide +kernel
  have h2 : (rawA [34, 34, 34, 97, 92, 34, 34, 34, 34, 34, 34, 34] 0).n = 11 := by decide +kernel
  have h3 : (rawA [34, 34, 34, 97, 92, 34, 34, 34, 34, 34, 34, 34] 0).b = true := by decide +kernel
  generalize rawA [34, 34, 34, 97, 92, 34, 34, 34, 34, 34, 34, 34] 0 = r at *
  cases r; simp_all
theorem ex3 : (lns [97, 13, 10, 98]).length = 2 := by decide +kernel
theorem ex4 : ind [[], [32, 32, 97]] = 2 := by decide +kernel
theorem rs_two (w : World) (a b : List UInt8) : Rs (w.alloc (.cells #[.string (mkb a), .string (mkb b)] 9)) (w.alloc (.cells #[.string (mkb a), .string (mkb b)] 9)).heap.size (some ⟨w.heap.size, 0, none⟩) [a, b] := by
  intro j x hx
  refine ⟨_, rfl, by simp, ?_⟩
  rw [add0]
  match j, hx with
  | 0, hx => simp at hx; subst hx; simp [go_sem]
  | 1, hx => simp at hx; subst hx; simp [go_sem]
theorem lines_n (s : ByteArray) (hs : s.size ≤ 100000000) (n : Nat) (hn : (lns s.data.toList).length = n + 1) (w : World) :
    Calls Try.prog 14 #[.string s] w fun e w' => ∃ g c, e = .returned (.slice (some ⟨g, 0, none⟩) (n + 1) c) ∧ n + 1 ≤ c ∧ Row w' w.heap.size g (lns s.data.toList) ∧ Below w.heap.size w w' := by
  refine (lines_any s hs w).mono ?_
  rintro e w' ⟨v, rfl, hown, hB⟩
  rw [hn] at hown
  obtain ⟨g, c, rfl⟩ := ownsRow_succ hown
  exact ⟨g, c, rfl, own_cap hown, Row.of_own (by omega) hown, hB⟩
theorem fold_b {s : ByteArray} {l v : List UInt8} (hl : s = mkb l) (hv : fld l = v) (hs : l.length ≤ 10000000) (w : World) :
    Calls Try.prog 18 #[.string s] w fun e w' => e = .returned (.string (mkb v)) ∧ Below w.heap.size w w' := by
  subst hl hv
  exact fold_any (mkb l) (by rw [mkb_size]; exact hs) w
theorem raw_b {s : ByteArray} {l : List UInt8} {i : Int} {r : Rw} (hl : s = mkb l) (hr : rawA l i = r) (hs : l.length ≤ 100000000) (w : World) :
    Calls Try.prog 11 #[.string s, .int .i64 i] w fun e w' => e = .returned (.tuple #[.string (mkb r.v), .int .i64 (i + (r.n : Int)), .bool r.b]) ∧ Below w.heap.size w w' := by
  subst hl hr
  exact raw_any (mkb l) i w (by rw [mkb_size]; exact hs)

set_option maxHeartbeats 1000000 in
theorem awake_any (w : World) : Calls Try.prog 10 #[] w fun e w' => e = .returned (.bool true) ∧ Below w.heap.size w w' := by
  have r1 := fold_b (s := ⟨#[10, 32, 32, 97, 10, 32, 32, 32, 32, 98, 10]⟩) (l := [10, 32, 32, 97, 10, 32, 32, 32, 32, 98, 10]) rfl ex1 (by decide)
  have r2 : ∀ w : World, Calls Try.prog 11 #[.string ⟨#[34, 34, 34, 97, 92, 34, 34, 34, 34, 34, 34, 34]⟩, .int .i64 0] w fun e w' => e = .returned (.tuple #[.string (mkb [97, 34, 34, 34]), .int .i64 11, .bool true]) ∧ Below w.heap.size w w' := raw_b (s := ⟨#[34, 34, 34, 97, 92, 34, 34, 34, 34, 34, 34, 34]⟩) (l := [34, 34, 34, 97, 92, 34, 34, 34, 34, 34, 34, 34]) (i := 0) rfl ex2 (by decide)
  have r3 := lines_n ⟨#[97, 13, 10, 98]⟩ (by decide) 1 ex3
  have r4 := fun (w : World) => findent_any (c := 2) (rs_two w [] [32, 32, 97]) rfl (by simp) (by decide)
  rw [ex4] at r4
  have r4' : ∀ w : World, Calls Try.prog 16 #[.slice (some ⟨w.heap.size, 0, none⟩) 2 2] (w.alloc (.cells #[.string ⟨#[]⟩, .string ⟨#[32, 32, 97]⟩] 9)) fun e w' => e = .returned (.int .i64 2) ∧ Below (w.alloc (.cells #[.string ⟨#[]⟩, .string ⟨#[32, 32, 97]⟩] 9)).heap.size (w.alloc (.cells #[.string ⟨#[]⟩, .string ⟨#[32, 32, 97]⟩] 9)) w' := r4
  clear r4
  have q1 : ((mkb [97, 10, 32, 32, 98]).toList == [97, 10, 32, 32, 98]) = true := by rw [mkb_toList]; rfl
  have q2 : ((mkb [97, 34, 34, 34]).toList == [97, 34, 34, 34]) = true := by rw [mkb_toList]; rfl
  go_enter Try.func10, Try.ntmps10
  go_wp2_with fail
  (with_reducible refine (r1 _).mono ?_)
  rintro e w1 ⟨rfl, hb1⟩
  go_wp2_with fail
  (with_reducible refine (r2 _).mono ?_)
  rintro e w2 ⟨rfl, hb2⟩
  go_wp2_with fail
  (with_reducible refine (r3 _).mono ?_)
  rintro e w3 ⟨g, c, rfl, hgc, hrow, hb3⟩
  clear r1 r2 r3
  go_wp2_with fail
  (with_reducible refine (r4' _).mono ?_)
  rintro e w4 ⟨rfl, hb4⟩
  go_wp2
  go_ret
  exact ⟨rfl, bel_trans (bel_alloc (bel_trans (bel_trans hb1 hb2) hb3) _) hb4⟩
end Go.Proofs.Ytpmdkjbkcncnnaa
