/- Contracts of package span's functions: Need; the chapter's example. -/
import Derived.Test.YtfcjihfnimefhaaSpaD
namespace Go.Proofs.Ytfcjihfnimefhaa
open Go.RowKit Go.Shelf Go.Maps
set_option linter.unusedVariables false
set_option maxRecDepth 100000

theorem us_sz (us : List Bz) : SzB (us.map (·.b)) := fun b hb => by
  obtain ⟨x, _, rfl⟩ := List.mem_map.1 hb
  exact x.sz
set_option maxHeartbeats 1000000 in
theorem sneed_any {w : World} {A : Option Addr} {n c : Nat} {us : List Bz} {i r : Int} (hr : NeA (us.map (·.b)) i r) (hl : us.length = n) (hn : n ≤ 1000) (hc : n ≤ c) (hA : Br w A (us.map (·.b))) :
    Calls Try.prog 71 #[.slice A n c, .int .i64 i] w fun e w' => e = .returned (.int .i64 r) ∧ Below w.heap.size w w' := by
  rcases hr with ⟨j, m, rfl, hrr, hm⟩ | ⟨rfl, hno⟩
  · have hml := hm.len
    rw [List.length_map, hl] at hml
    obtain ⟨C, hC⟩ : ∃ C, (if (bet (us.map (·.b)) j m).all flI = true then ((colS (bet (us.map (·.b)) j m) : Nat) : Int) else 0) = C := ⟨_, rfl⟩
    obtain ⟨is, his⟩ : ∃ is, (bet (us.map (·.b)) j m).all flI = is := ⟨_, rfl⟩
    obtain ⟨z, hz⟩ : ∃ z, beF ((us.map (·.b)).drop (m + 1)) = z := ⟨_, rfl⟩
    have hbd := need_bd (us_sz us) (by rw [List.length_map, hl]; exact hn) j m
    rw [hz] at hbd
    have r1 := fun w h => smatch_any (w := w) (A := A) (c := c) (MtA.mk hm) hl (by omega) h
    have r2 := fun w h => between_any (w := w) (A := A) hC his hl hn hc hm.lt hml h
    have r3 := fun w h => behind_any (w := w) (A := A) (c := c) hz hl hn hml h
    have HA := Lib.hid hA
    have q1 : ((m : Int) == -1) = false := beq_false_of_ne (by omega)
    cases is with
    | false =>
      obtain rfl : r = -1 := by rw [hrr, ndF_no his]
      clear hrr hC his hz hA r3
      go_enter Try.func71, Try.ntmps71
      go_wp2_with fail
      ((with_reducible refine (r1 _ HA.out).mono ?_))
      rintro e w1 ⟨rfl, hb1⟩
      have HB1 := Lib.hid hb1
      clear hb1 r1
      go_wp2_with fail
      ((with_reducible refine (r2 _ (HA.out.below HB1.out)).mono ?_))
      rintro e w2 ⟨rfl, hb2⟩
      have HB2 := Lib.hid (bel_trans HB1.out hb2)
      clear hb2 r2
      go_wp2
      go_ret
      exact ⟨rfl, HB2.out⟩
    | true =>
      have hrz : r = C + (z : Int) := by rw [hrr, ndF_yes his, hz, ← hC, if_pos his]; omega
      have hCb : 0 ≤ C ∧ C ≤ 140737488351232000 := by rw [← hC, if_pos his]; omega
      have HZ := Lib.hid hrz
      have hzb := hbd.2
      clear hrr hC his hz hA hrz hbd
      go_enter Try.func71, Try.ntmps71
      go_wp2_with fail
      ((with_reducible refine (r1 _ HA.out).mono ?_))
      rintro e w1 ⟨rfl, hb1⟩
      have HB1 := Lib.hid hb1
      clear hb1 r1
      go_wp2_with fail
      ((with_reducible refine (r2 _ (HA.out.below HB1.out)).mono ?_))
      rintro e w2 ⟨rfl, hb2⟩
      have HB2 := Lib.hid (bel_trans HB1.out hb2)
      clear hb2 r2
      go_wp2_with fail
      ((with_reducible refine (r3 _ (HA.out.below HB2.out)).mono ?_))
      rintro e w3 ⟨rfl, hb3⟩
      have HB3 := Lib.hid (bel_trans HB2.out hb3)
      clear hb3 r3
      go_wp2
      go_ret
      exact ⟨by rw [HZ.out]; rfl, HB3.out⟩
  · have r1 := fun w h => smatch_any (w := w) (A := A) (c := c) (n := n) (us := us) (i := i) (r := -1) (.inr ⟨rfl, hno⟩) hl (by omega) h
    have HA := Lib.hid hA
    clear hA hno
    go_enter Try.func71, Try.ntmps71
    go_wp2_with fail
    ((with_reducible refine (r1 _ HA.out).mono ?_))
    rintro e w1 ⟨rfl, hb1⟩
    have HB1 := Lib.hid hb1
    clear hb1 r1
    go_wp2
    go_ret
    exact ⟨rfl, HB1.out⟩

/-! ### The example -/
theorem cols_char {c : Nat} (h : srcB c = true) (t : List UInt8) : cols (enc c ++ t) = cols t + 1 := by
  have hp := enc_pos c
  rw [cols_go (fun e => enc_ne c (List.append_eq_nil_iff.1 e).1), nxt_is (is_enc h t), Nat.max_eq_left hp.1, List.drop_left]
theorem cols_32 : cols [32] = 1 := by
  rw [show ([32] : List UInt8) = enc 32 ++ [] by decide, cols_char (by decide), cols_nil]
theorem cols_ab : cols [97, 98] = 2 := by
  rw [show ([97, 98] : List UInt8) = enc 97 ++ (enc 98 ++ []) by decide, cols_char (by decide), cols_char (by decide), cols_nil]
theorem cols_c : cols [99] = 1 := by
  rw [show ([99] : List UInt8) = enc 99 ++ [] by decide, cols_char (by decide), cols_nil]
theorem cols_d : cols [100] = 1 := by
  rw [show ([100] : List UInt8) = enc 100 ++ [] by decide, cols_char (by decide), cols_nil]
theorem cols_eA : cols [195, 169, 97] = 2 := by
  rw [show ([195, 169, 97] : List UInt8) = enc 233 ++ (enc 97 ++ []) by decide, cols_char (by decide), cols_char (by decide), cols_nil]
def exU : List Bz := [⟨⟨6, noV⟩, rfl, by decide⟩, ⟨⟨0, ⟨#[97, 98]⟩⟩, rfl, by decide⟩, ⟨⟨2, noV⟩, rfl, by decide⟩, ⟨⟨0, ⟨#[99]⟩⟩, rfl, by decide⟩, ⟨⟨7, noV⟩, rfl, by decide⟩, ⟨⟨0, ⟨#[100]⟩⟩, rfl, by decide⟩, ⟨⟨3, noV⟩, rfl, by decide⟩, ⟨⟨0, ⟨#[101]⟩⟩, rfl, by decide⟩]
theorem exMt : Mt (exU.map (·.b)) (0 : Nat) 4 :=
  ⟨⟨_, rfl, rfl⟩, by decide, ⟨_, rfl, rfl⟩, rfl, fun j h1 h2 => by
    match j, h1, h2 with
    | 1, _, _ => decide
    | 2, _, _ => decide
    | 3, _, _ => decide
    | 4, _, _ => decide⟩
theorem exNd : ndF (exU.map (·.b)) 0 4 = 5 := by
  rw [ndF_yes rfl]
  have e1 : colS (bet (exU.map (·.b)) 0 4) = cols [97, 98] + (cols [32] + (cols [99] + 0)) := rfl
  have e2 : beF ((exU.map (·.b)).drop (4 + 1)) = cols [100] + 0 := rfl
  rw [e1, e2, cols_ab, cols_32, cols_c, cols_d]
  rfl
theorem exNe : NeA (exU.map (·.b)) 0 5 := .inl ⟨0, 4, rfl, exNd.symm, exMt⟩
/-- A block of bits, as a row. -/
theorem br_blk {w : World} {g : Nat} {bs : List Bq} {cs : Array Value} {t : TypeId} {fr : Nat × Nat} (h : w.heap[g]? = some (.cells cs t fr)) (hc : cs.toList = clb bs) : Br w (some ⟨g, 0, none⟩) bs := fun j s hj => by
  obtain ⟨e0, e1⟩ := clb_at hj
  rw [← hc] at e0 e1
  refine ⟨g, 0, rfl, ?_, ?_⟩
  · simp only [World.cell?, h, Nat.zero_add]
    simpa using e0
  · simp only [World.cell?, h, Nat.zero_add]
    simpa using e1
end Go.Proofs.Ytfcjihfnimefhaa
