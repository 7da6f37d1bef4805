/- The law TextHex: its mathematics and its walk. -/
import Derived.Test.YtfkokhagbdeahaaTextF
import Derived.StillTailTactics
namespace Go.Proofs.Ytfkokhagbdeahaa
open Go.RowKit
set_option linter.unusedVariables false

def lowT : ByteArray := ⟨#[48, 49, 50, 51, 52, 53, 54, 55, 56, 57, 97, 98, 99, 100, 101, 102]⟩
def highT : ByteArray := ⟨#[48, 49, 50, 51, 52, 53, 54, 55, 56, 57, 65, 66, 67, 68, 69, 70]⟩
theorem low_dig : ∀ d : Fin 16, hxd (lowT.data.toList.getD d.val 0) = some d.val := by decide +kernel
theorem high_dig : ∀ d : Fin 16, hxd (highT.data.toList.getD d.val 0) = some d.val := by decide +kernel

set_option maxHeartbeats 2000000 in
set_option maxRecDepth 100000 in
theorem hex_law (a : ByteArray) (n : Int) (b : ByteArray) (w : World) (za : a.size ≤ 9223372036854775807) (zb : b.size ≤ 9223372036854775807) :
    Calls Try.prog 9 #[.string a, .int .i64 n, .string b] w fun e w' => e = .returned (.bool true) ∧ Below w.heap.size w w' := by
  by_cases ha : 300 < a.size
  · have ga : (300 : Int) < (a.size : Int) := by omega
    clear ha
    go_enter Try.func9, Try.ntmps9
    (try simp only [List.append_eq, List.cons_append, List.nil_append])
    go_wp2_with fail
    (with_reducible refine (awake_any _).mono ?_)
    rintro e w1 ⟨rfl, hb1⟩
    go_wp2_with fail
    go_ret
    exact ⟨by first | (simp; done) | (simp; omega), hb1⟩
  have ga : ¬ (300 : Int) < (a.size : Int) := by omega
  by_cases hb : 300 < b.size
  · have gb : (300 : Int) < (b.size : Int) := by omega
    clear ha hb
    go_enter Try.func9, Try.ntmps9
    (try simp only [List.append_eq, List.cons_append, List.nil_append])
    go_wp2_with fail
    (with_reducible refine (awake_any _).mono ?_)
    rintro e w1 ⟨rfl, hb1⟩
    go_wp2_with fail
    go_ret
    exact ⟨by first | (simp; done) | (simp; omega), hb1⟩
  have gb : ¬ (300 : Int) < (b.size : Int) := by omega
  by_cases h0 : n < 0
  · clear ha hb
    go_enter Try.func9, Try.ntmps9
    (try simp only [List.append_eq, List.cons_append, List.nil_append])
    go_wp2_with fail
    (with_reducible refine (awake_any _).mono ?_)
    rintro e w1 ⟨rfl, hb1⟩
    go_wp2_with fail
    go_ret
    exact ⟨by first | (simp; done) | (simp; omega), hb1⟩
  by_cases h1 : 65535 < n
  · clear ha hb
    go_enter Try.func9, Try.ntmps9
    (try simp only [List.append_eq, List.cons_append, List.nil_append])
    go_wp2_with fail
    (with_reducible refine (awake_any _).mono ?_)
    rintro e w1 ⟨rfl, hb1⟩
    go_wp2_with fail
    go_ret
    exact ⟨by first | (simp; done) | (simp; omega), hb1⟩
  obtain ⟨k, rfl⟩ := Int.eq_ofNat_of_zero_le (show 0 ≤ n by omega)
  have la : a.data.toList.length = a.size := (Lib.size_eq a).symm
  have lb : b.data.toList.length = b.size := (Lib.size_eq b).symm
  have hk : k ≤ 65535 := by omega
  obtain ⟨x, hx⟩ : ∃ x, x = k / 4096 := ⟨_, rfl⟩
  obtain ⟨q1, hq1⟩ : ∃ q, q = k / 256 := ⟨_, rfl⟩
  obtain ⟨y, hy⟩ : ∃ y, y = q1 % 16 := ⟨_, rfl⟩
  obtain ⟨q2, hq2⟩ : ∃ q, q = k / 16 := ⟨_, rfl⟩
  obtain ⟨z, hz⟩ : ∃ z, z = q2 % 16 := ⟨_, rfl⟩
  obtain ⟨u, hu⟩ : ∃ u, u = k % 16 := ⟨_, rfl⟩
  have e1 : IntKind.i64.wrap ((k : Int) / 4096) = (x : Int) := (IntWalk.i64_in _ (by omega)).trans (by omega)
  have e2 : IntKind.i64.wrap ((k : Int) / 256) = (q1 : Int) := (IntWalk.i64_in _ (by omega)).trans (by omega)
  have e3 : (q1 : Int).tmod 16 = (y : Int) := (Int.tmod_eq_emod_of_nonneg (by omega)).trans (by omega)
  have e4 : IntKind.i64.wrap ((k : Int) / 16) = (q2 : Int) := (IntWalk.i64_in _ (by omega)).trans (by omega)
  have e5 : (q2 : Int).tmod 16 = (z : Int) := (Int.tmod_eq_emod_of_nonneg (by omega)).trans (by omega)
  have e6 : (k : Int).tmod 16 = (u : Int) := (Int.tmod_eq_emod_of_nonneg (by omega)).trans (by omega)
  have bx : x < 16 := by omega
  have by1 : y < 16 := by omega
  have bz : z < 16 := by omega
  have bu : u < 16 := by omega
  have ix : (x : Int) < 16 := by omega
  obtain ⟨cx, fx, dx⟩ : ∃ c : UInt8, (((⟨#[48, 49, 50, 51, 52, 53, 54, 55, 56, 57, 97, 98, 99, 100, 101, 102]⟩ : ByteArray)[x]'bx).toNat : Int) = (c.toNat : Int) ∧ hxd c = some x := ⟨_, rfl, by
    have := low_dig ⟨x, bx⟩
    have e : (lowT.data.toList.getD x 0) = (⟨#[48, 49, 50, 51, 52, 53, 54, 55, 56, 57, 97, 98, 99, 100, 101, 102]⟩ : ByteArray)[x]'bx := by
      rw [List.getD_eq_getElem?_getD, List.getElem?_eq_getElem (show x < lowT.data.toList.length from bx)]; rfl
    rw [e] at this; exact this⟩
  have iy : (y : Int) < 16 := by omega
  obtain ⟨cy, fy, dy⟩ : ∃ c : UInt8, (((⟨#[48, 49, 50, 51, 52, 53, 54, 55, 56, 57, 65, 66, 67, 68, 69, 70]⟩ : ByteArray)[y]'by1).toNat : Int) = (c.toNat : Int) ∧ hxd c = some y := ⟨_, rfl, by
    have := high_dig ⟨y, by1⟩
    have e : (highT.data.toList.getD y 0) = (⟨#[48, 49, 50, 51, 52, 53, 54, 55, 56, 57, 65, 66, 67, 68, 69, 70]⟩ : ByteArray)[y]'by1 := by
      rw [List.getD_eq_getElem?_getD, List.getElem?_eq_getElem (show y < highT.data.toList.length from by1)]; rfl
    rw [e] at this; exact this⟩
  have iz : (z : Int) < 16 := by omega
  obtain ⟨cz, fz, dz⟩ : ∃ c : UInt8, (((⟨#[48, 49, 50, 51, 52, 53, 54, 55, 56, 57, 97, 98, 99, 100, 101, 102]⟩ : ByteArray)[z]'bz).toNat : Int) = (c.toNat : Int) ∧ hxd c = some z := ⟨_, rfl, by
    have := low_dig ⟨z, bz⟩
    have e : (lowT.data.toList.getD z 0) = (⟨#[48, 49, 50, 51, 52, 53, 54, 55, 56, 57, 97, 98, 99, 100, 101, 102]⟩ : ByteArray)[z]'bz := by
      rw [List.getD_eq_getElem?_getD, List.getElem?_eq_getElem (show z < lowT.data.toList.length from bz)]; rfl
    rw [e] at this; exact this⟩
  have iu : (u : Int) < 16 := by omega
  obtain ⟨cu, fu, du⟩ : ∃ c : UInt8, (((⟨#[48, 49, 50, 51, 52, 53, 54, 55, 56, 57, 65, 66, 67, 68, 69, 70]⟩ : ByteArray)[u]'bu).toNat : Int) = (c.toNat : Int) ∧ hxd c = some u := ⟨_, rfl, by
    have := high_dig ⟨u, bu⟩
    have e : (highT.data.toList.getD u 0) = (⟨#[48, 49, 50, 51, 52, 53, 54, 55, 56, 57, 65, 66, 67, 68, 69, 70]⟩ : ByteArray)[u]'bu := by
      rw [List.getD_eq_getElem?_getD, List.getElem?_eq_getElem (show u < highT.data.toList.length from bu)]; rfl
    rw [e] at this; exact this⟩
  obtain ⟨X, hX, hcv⟩ : ∃ X : ByteArray, X = mkb [cx, cy, cz, cu] ∧ ∀ w : World, (convert 33 9 (.slice (some ⟨w.heap.size, 0, none⟩) 4 4)).run Try.prog (w.alloc (.cells #[.int .u8 (cx.toNat : Int), .int .u8 (cy.toNat : Int), .int .u8 (cz.toNat : Int), .int .u8 (cu.toNat : Int)] 5)) =
      .ok (.string X) (w.alloc (.cells #[.int .u8 (cx.toNat : Int), .int .u8 (cy.toNat : Int), .int .u8 (cz.toNat : Int), .int .u8 (cu.toNat : Int)] 5)) := ⟨_, rfl, fun w => by
    rw [conv4 w cx.toNat cy.toNat cz.toNat cu.toNat]; simp [mkb]⟩
  obtain ⟨S1, h1', s1⟩ := sadd' (A := a) (B := X) (mkb_of a).symm hX (by first | (simp; done) | (simp; omega))
  obtain ⟨S2, h2', s2⟩ := sadd' (A := S1) (B := b) h1' (mkb_of b).symm (by first | (simp; done) | (simp; omega))
  have hhex : hexA (a.data.toList ++ [cx, cy, cz, cu] ++ b.data.toList) (a.size : Int) = some k := by
    rw [← la, hexA_nat, List.append_assoc, List.drop_left]
    show hx4 (cx :: cy :: cz :: cu :: b.data.toList) = some k
    rw [hx4_of dx dy dz du]
    congr 1; omega
  have r1 := fun w => hex_by (w := w) h2' hhex (by first | (simp; done) | (simp; omega))
  have zX : X.size = 4 := by rw [hX]; rfl
  have ex : X.extract 0 3 = mkb [cx, cy, cz] := by rw [hX]; rfl
  obtain ⟨Y, hY⟩ : ∃ Y, Y = mkb [cx, cy, cz] := ⟨_, rfl⟩
  rw [← hY] at ex
  have r2 := fun w => hex_bn (w := w) (i := 0) hY (by rfl) (by simp)
  obtain ⟨S3, h3', s3⟩ := sadd' (A := Y) (B := ⟨#[103]⟩) (b := [103]) hY rfl (by simp)
  have r3 := fun w => hex_bn (w := w) (i := 0) h3' (by
    have e : hexA ([cx, cy, cz] ++ [103]) 0 = hx4 [cx, cy, cz, 103] := rfl
    rw [e]; simp only [hx4, dx, dy, dz]; rfl) (by simp)
  have gX : (3 : Int) ≤ (X.size : Int) := by omega
  clear hx hq1 hy hq2 hz hu dx dy dz du hX h1' h2' h3' hhex zX hY la lb ha hb
  go_enter Try.func9, Try.ntmps9
  (try simp only [List.append_eq, List.cons_append, List.nil_append])
  go_wp2_with fail
  (with_reducible refine (awake_any _).mono ?_)
  rintro e w1 ⟨rfl, hb1⟩
  go_wp2_with fail
  go_still_tail 18, (by kernel_rfl)
  change wpList _ _ _ _ _ w1.drew
  have hb2 : Below w.heap.size w w1.drew := hb1.drew
  generalize w1.drew = w2 at hb2 ⊢
  go_wp2_with fail
  (with_reducible refine (r1 _).mono ?_)
  rintro e w' ⟨rfl, rfl⟩
  go_wp2_with fail
  (with_reducible refine (r2 _).mono ?_)
  rintro e w' ⟨rfl, rfl⟩
  go_wp2_with fail
  (with_reducible refine (r3 _).mono ?_)
  rintro e w' ⟨rfl, rfl⟩
  go_wp2_with fail
  go_ret
  exact ⟨by first | (simp; done) | (simp; omega), bel_alloc hb2 _⟩
end Go.Proofs.Ytfkokhagbdeahaa
