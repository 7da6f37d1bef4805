/- The laws TextPlain and TextChars: their mathematics and walks. -/
import Derived.Test.YtfkokhagbdeahaaTextF
namespace Go.Proofs.Ytfkokhagbdeahaa
open Go.RowKit
set_option linter.unusedVariables false

/-! ### TextPlain -/
def okB (c : UInt8) : Bool := c != 34 && c != 92 && c != 10 && c != 13
theorem okB_iff {c : UInt8} : okB c = true ↔ c ≠ 34 ∧ c ≠ 92 ∧ c ≠ 10 ∧ c ≠ 13 := by simp [okB, and_assoc]
theorem plain_bd {l : List UInt8} (h : thru l = l.length) (ho : ∀ c ∈ l, okB c = true) : Bd l l := by
  induction hn : l.length using Nat.strongRecOn generalizing l with
  | _ m ih =>
    subst hn
    by_cases h0 : (nxt l).2 = 0
    · rw [thru_stop h0] at h
      have : l = [] := List.length_eq_zero_iff.1 h.symm
      subst this; exact .nil
    · rcases nxt_cases l with ⟨c, hc, e⟩ | ⟨_, e⟩
      · obtain ⟨hs, r, hr⟩ := hc
        have hl := enc_pos c
        have hg := thru_go h0
        rw [e] at hg
        simp only at hg
        have hdr : l.drop (enc c).length = r := by rw [← hr, List.drop_left]
        rw [hdr, h] at hg
        have hlen : l.length = (enc c).length + r.length := by rw [← hr, List.length_append]
        have hb := ih r.length (by omega) (l := r) (by omega) (fun d hd => ho d (by rw [← hr]; exact List.mem_append_right _ hd)) rfl
        obtain ⟨a, t, hat⟩ : ∃ a t, enc c = a :: t := by
          cases e2 : enc c with
          | nil => rw [e2] at hl; simp at hl
          | cons a t => exact ⟨a, t, rfl⟩
        have hoa := okB_iff.1 (ho a (by rw [← hr, hat]; simp))
        have hne : ∀ d : UInt8, d.toNat < 128 → c = d.toNat → a = d := fun d hd hcd => by
          rw [hcd, enc1 hd] at hat
          injection hat with h1 _
          rw [← h1]; simp
        rw [← hr]
        refine .cons (Is.piece hs rfl ?_ ?_ ?_ ?_) hb
        · rw [hat]; intro h9; injection h9 with h9; exact hoa.1 h9
        · rw [hat]; intro h9; injection h9 with h9; exact hoa.2.1 h9
        · intro h9; exact hoa.2.2.1 (hne 10 (by decide) h9)
        · intro h9; exact hoa.2.2.2 (hne 13 (by decide) h9)
      · rw [e] at h0; exact absurd rfl h0
theorem pce_line (b : List UInt8) : pce (10 :: b) = none := by
  have hn := nxt_is (is_enc (c := 10) (by decide) b)
  rw [enc1 (by decide)] at hn
  have hn2 : nxt (10 :: b) = (10, 1) := hn
  unfold pce
  rw [if_neg (by simp), hn2]; rfl
theorem mayB_iff {l : List UInt8} : mayB l = true ↔ thru l = l.length := by
  constructor
  · intro h; by_cases e : thru l = l.length
    · exact e
    · rw [mayB_at e] at h; cases h
  · exact mayB_all

set_option maxHeartbeats 1000000 in
set_option maxRecDepth 100000 in
theorem plain_law (a b : ByteArray) (w : World) (za : a.size ≤ 9223372036854775807) (zb : b.size ≤ 9223372036854775807) :
    Calls Try.prog 5 #[.string a, .string b] w fun e w' => e = .returned (.bool true) ∧ Below w.heap.size w w' := by
  by_cases ha : 300 < a.size
  · have ga : (300 : Int) < (a.size : Int) := by omega
    clear ha
    go_enter Try.func5, Try.ntmps5
    (try simp only [List.append_eq, List.cons_append, List.nil_append])
    go_wp2_with fail
    (with_reducible refine (awake_any _).mono ?_)
    rintro e w1 ⟨rfl, hb1⟩
    go_wp2_with fail
    go_ret
    exact ⟨by first | (simp; done) | (simp; omega), hb1⟩
  have ga : ¬ (300 : Int) < (a.size : Int) := by omega
  by_cases hb : 300 < b.size
  · have gb : (300 : Int) < (b.size : Int) := by omega
    clear ha hb
    go_enter Try.func5, Try.ntmps5
    (try simp only [List.append_eq, List.cons_append, List.nil_append])
    go_wp2_with fail
    (with_reducible refine (awake_any _).mono ?_)
    rintro e w1 ⟨rfl, hb1⟩
    go_wp2_with fail
    go_ret
    exact ⟨by first | (simp; done) | (simp; omega), hb1⟩
  have gb : ¬ (300 : Int) < (b.size : Int) := by omega
  have la : a.data.toList.length = a.size := (Lib.size_eq a).symm
  have lb : b.data.toList.length = b.size := (Lib.size_eq b).symm
  cases hm : mayB a.data.toList
  · have r1 := fun w => may_of a _ (by omega) hm w
    clear hm la lb ha hb
    go_enter Try.func5, Try.ntmps5
    (try simp only [List.append_eq, List.cons_append, List.nil_append])
    go_wp2_with fail
    (with_reducible refine (awake_any _).mono ?_)
    rintro e w1 ⟨rfl, hb1⟩
    go_wp2_with fail
    (with_reducible refine (r1 _).mono ?_)
    rintro e w2 ⟨rfl, hb2⟩
    go_wp2_with fail
    go_ret
    exact ⟨by first | (simp; done) | (simp; omega), (bel_trans hb1 hb2)⟩
  have r1 := fun w => may_of a _ (by omega) hm w
  have HM := Lib.hid (mayB_iff.1 hm)
  have HA := Lib.hid la
  have HB := Lib.hid lb
  clear hm la lb
  go_enter Try.func5, Try.ntmps5
  (try simp only [List.append_eq, List.cons_append, List.nil_append])
  go_wp2_with fail
  (with_reducible refine (awake_any _).mono ?_)
  rintro e w1 ⟨rfl, hb1⟩
  go_wp2_with fail
  (with_reducible refine (r1 _).mono ?_)
  rintro e w2 ⟨rfl, hb2⟩
  go_wp2_with fail
  go_loop [6] (fun i => ∃ k : Nat, k ≤ a.size ∧ i = .int .i64 k ∧ ∀ j (hj : j < a.size), j < k → okB a[j] = true) (fun i => a.size - (intOf i).toNat)
  case atStart => exact ⟨0, Nat.zero_le _, rfl, fun j hj h => absurd h (by omega)⟩
  case round =>
    obtain ⟨k, hk, rfl, hall⟩ := hrel
    have HALL := Lib.hid hall
    clear hall
    by_cases hlt : k < a.size
    · by_cases h34 : (a[k]).toNat = 34
      · have t34 : (((a[k]).toNat : Int) == 34) = true := by rw [h34]; rfl
        clear h34
        go_wp2_with fail
        go_ret
        exact ⟨rfl, bel_trans hb1 hb2⟩
      have t34 : (((a[k]).toNat : Int) == 34) = false := beq_false_of_ne (by omega)
      by_cases h92 : (a[k]).toNat = 92
      · have t92 : (((a[k]).toNat : Int) == 92) = true := by rw [h92]; rfl
        clear h34 h92
        go_wp2_with fail
        go_ret
        exact ⟨rfl, bel_trans hb1 hb2⟩
      have t92 : (((a[k]).toNat : Int) == 92) = false := beq_false_of_ne (by omega)
      by_cases h10 : (a[k]).toNat = 10
      · have t10 : (((a[k]).toNat : Int) == 10) = true := by rw [h10]; rfl
        clear h34 h92 h10
        go_wp2_with fail
        go_ret
        exact ⟨rfl, bel_trans hb1 hb2⟩
      have t10 : (((a[k]).toNat : Int) == 10) = false := beq_false_of_ne (by omega)
      by_cases h13 : (a[k]).toNat = 13
      · have t13 : (((a[k]).toNat : Int) == 13) = true := by rw [h13]; rfl
        clear h34 h92 h10 h13
        go_wp2_with fail
        go_ret
        exact ⟨rfl, bel_trans hb1 hb2⟩
      have t13 : (((a[k]).toNat : Int) == 13) = false := beq_false_of_ne (by omega)
      have hok : okB a[k] = true := okB_iff.2 ⟨fun e => h34 (by rw [e]; rfl), fun e => h92 (by rw [e]; rfl), fun e => h10 (by rw [e]; rfl), fun e => h13 (by rw [e]; rfl)⟩
      have HOK := Lib.hid hok
      clear h34 h92 h10 h13 hok
      go_wp2_with fail
      go_round
      case rel =>
        refine ⟨k + 1, by omega, by go_num, fun j hj h => ?_⟩
        by_cases e : j = k
        · subst e; exact HOK.out
        · exact HALL.out j hj (by omega)
      case measure => simp [intOf]; omega
    · have hbd : Bd a.data.toList a.data.toList := plain_bd HM.out (fun c hc => by
        obtain ⟨j, hj, e⟩ := List.getElem_of_mem hc
        have hj2 : j < a.size := by rw [← HA.out]; exact hj
        have := HALL.out j hj2 (by omega)
        rw [← e]; exact this)
      have lA := HA.out
      have lB := HB.out
      obtain ⟨Q, hQ⟩ : ∃ Q : ByteArray, Q = mkb [34] := ⟨_, rfl⟩
      obtain ⟨S1, h1, s1⟩ := sadd' (A := ⟨#[34]⟩) (a := [34]) (B := a) rfl (mkb_of a).symm (by first | (simp; done) | (simp; omega))
      obtain ⟨S2, h2, s2⟩ := sadd' (A := S1) (B := ⟨#[34]⟩) (b := [34]) h1 rfl (by first | (simp; done) | (simp; omega))
      obtain ⟨S3, h3, s3⟩ := sadd' (A := S2) (B := b) h2 (mkb_of b).symm (by first | (simp; done) | (simp; omega))
      obtain ⟨S4, h4, s4⟩ := sadd' (A := S1) (B := ⟨#[10]⟩) (b := [10]) h1 rfl (by first | (simp; done) | (simp; omega))
      obtain ⟨S5, h5, s5⟩ := sadd' (A := S4) (B := b) h4 (mkb_of b).symm (by first | (simp; done) | (simp; omega))
      have r2 : ∀ w, Calls Try.prog 11 #[.string S3, .int .i64 0] w fun e w' => e = .returned (.tuple #[.string a, .int .i64 ((a.size : Int) + 2), .bool true]) ∧ Below w.heap.size w w' := fun w =>
        string_c h3 (by have := strA_ends hbd b.data.toList; rw [← this]; congr 1; simp) (by rw [HA.out]; omega) (by first | (simp; done) | (simp; omega)) w
      have r3 : ∀ w, Calls Try.prog 11 #[.string S5, .int .i64 0] w fun e w' => e = .returned (.tuple #[.string ⟨#[]⟩, .int .i64 ((a.size : Int) + 1), .bool false]) ∧ Below w.heap.size w w' := fun w =>
        string_c h5 (by have := strA_open hbd (x := 10 :: b.data.toList) (by simp) (pce_line _); rw [← this]; congr 1; simp) (by rw [HA.out]; omega) (by first | (simp; done) | (simp; omega)) w
      have r4 : ∀ w, Calls Try.prog 11 #[.string S1, .int .i64 0] w fun e w' => e = .returned (.tuple #[.string ⟨#[]⟩, .int .i64 ((a.size : Int) + 1), .bool false]) ∧ Below w.heap.size w w' := fun w =>
        string_c h1 (by have := strA_alone hbd; rw [← this]; rfl) (by rw [HA.out]; omega) (by first | (simp; done) | (simp; omega)) w
      clear h1 h2 h3 h4 h5 hbd lA lB hQ HALL
      have hk2 : ¬ (k : Int) < (a.size : Int) := by omega
      go_wp2_with fail
      (with_reducible refine (r2 _).mono ?_)
      rintro e w3 ⟨rfl, hb3⟩
      go_wp2_with fail
      (with_reducible refine (r3 _).mono ?_)
      rintro e w4 ⟨rfl, hb4⟩
      go_wp2_with fail
      (with_reducible refine (r4 _).mono ?_)
      rintro e w5 ⟨rfl, hb5⟩
      go_wp2_with fail
      go_ret
      exact ⟨by first | (simp; done) | (simp; omega), (bel_trans (bel_trans (bel_trans (bel_trans hb1 hb2) hb3) hb4) hb5)⟩
end Go.Proofs.Ytfkokhagbdeahaa
