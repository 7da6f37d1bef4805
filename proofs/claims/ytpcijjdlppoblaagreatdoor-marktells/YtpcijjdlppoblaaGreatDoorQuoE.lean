/- Mathematics of the laws of layer 8: what is quoted is a string that tells the text. -/
import Derived.Test.YtpcijjdlppoblaaGreatDoorQuoC
import Derived.Test.YtpcijjdlppoblaaGreatDoorUtfD
namespace Go.Proofs.YtpcijjdlppoblaaGreatDoor
set_option linter.unusedVariables false

theorem enc_all {c : Nat} (h : 128 ≤ c) (h' : c ≤ 1114111) : ∀ b ∈ enc c, 128 ≤ b.toNat := by
  intro b hb
  unfold enc at hb
  repeat' split at hb
  all_goals simp only [List.mem_cons, List.not_mem_nil, or_false] at hb
  · omega
  · rcases hb with rfl | rfl <;> rw [toNat_ofNat (by omega)] <;> omega
  · rcases hb with rfl | rfl | rfl <;> rw [toNat_ofNat (by omega)] <;> omega
  · rcases hb with rfl | rfl | rfl | rfl <;> rw [toNat_ofNat (by omega)] <;> omega
theorem enc_hd {c : Nat} (h : 32 ≤ c) (h' : c ≤ 1114111) {b : UInt8} (hb : b.toNat < 128) (hne : c ≠ b.toNat) : (enc c).head? ≠ some b := by
  intro he
  by_cases h1 : c < 128
  · rw [enc1 h1] at he
    have : UInt8.ofNat c = b := by simpa using he
    rw [← this, toNat_ofNat (by omega)] at hne
    exact hne rfl
  · have := enc_all (by omega) h' b (List.mem_of_mem_head? (by rw [he]; rfl))
    omega

theorem hxd_hxL : ∀ n, n < 16 → hxd (hxL n) = some n := by decide +kernel
theorem pc_uni {c : Nat} (h : c < 32) : Pc [92, 117, 48, 48, hxL (c / 16), hxL (c % 16)] [UInt8.ofNat c] := by
  refine ⟨by simp, by simp, by simp, fun x => ?_⟩
  rw [pce_esc (by simp)]
  show esc (92 :: 117 :: 48 :: 48 :: hxL (c / 16) :: hxL (c % 16) :: x) = _
  rw [esc_uni]
  have hh := hx4_of (show hxd 48 = some 0 by decide) (show hxd 48 = some 0 by decide) (hxd_hxL (c / 16) (by omega)) (hxd_hxL (c % 16) (by omega)) x
  have e : ((0 * 16 + 0) * 16 + c / 16) * 16 + c % 16 = c := by omega
  rw [e] at hh
  rw [uni_one (n := c) (by rw [cod_of]; exact hh) (by rw [loB_no]; omega) (by rw [hiB_no]; omega)]
  simp [putC, h]
theorem pc_sh {a b : UInt8} (h : a ≠ 117) (hs : shB a = some b) : Pc [92, a] [b] := by
  refine ⟨by simp, by simp, by simp, fun x => ?_⟩
  rw [pce_esc (by simp)]
  show esc (92 :: a :: x) = _
  rw [esc_sh h, hs]; rfl
theorem pc_qp {c : Nat} (h : okC c) : Pc (qp c) (enc c) := by
  by_cases h1 : 32 ≤ c ∧ c ≠ 34 ∧ c ≠ 92
  · have hs : srcB c = true := by rcases h with h | h; omega; exact h
    have hb := okC_lt h
    rw [qp_self h1.1 h1.2.1 h1.2.2]
    exact Is.piece hs rfl (enc_hd h1.1 hb (by decide) h1.2.1) (enc_hd h1.1 hb (by decide) h1.2.2) (by omega) (by omega)
  · have e : enc c = [UInt8.ofNat c] := enc1 (by omega)
    rw [e]
    have hq : qp c = stF c := by
      unfold qp; rw [if_neg]
      have : ∀ c, c < 93 → (32 ≤ c ∧ c ≠ 34 ∧ c ≠ 92) ∨ stF c ≠ [] := by decide +kernel
      rcases this c (by omega) with h2 | h2
      · exact absurd h2 h1
      · exact h2
    rw [hq]
    by_cases c8 : c = 8
    · subst c8; exact pc_sh (by decide) (by decide)
    by_cases c9 : c = 9
    · subst c9; exact pc_sh (by decide) (by decide)
    by_cases c10 : c = 10
    · subst c10; exact pc_sh (by decide) (by decide)
    by_cases c12 : c = 12
    · subst c12; exact pc_sh (by decide) (by decide)
    by_cases c13 : c = 13
    · subst c13; exact pc_sh (by decide) (by decide)
    by_cases c34 : c = 34
    · subst c34; exact pc_sh (by decide) (by decide)
    by_cases c92 : c = 92
    · subst c92; exact pc_sh (by decide) (by decide)
    have h32 : c < 32 := by omega
    have e2 : stF c = [92, 117, 48, 48, hxL (c / 16), hxL (c % 16)] := by
      unfold stF; rw [if_neg c8, if_neg c9, if_neg c10, if_neg c12, if_neg c13, if_pos h32]
    rw [e2]; exact pc_uni h32
/-- What is quoted tells the text. -/
theorem Qt.bd {cs : List Nat} {l : List UInt8} (h : Qt cs l) : Bd (qb cs) l := by
  induction h with
  | nil => exact .nil
  | cons hc _ ih => rw [qb_cons]; exact .cons (pc_qp hc) ih
theorem str_quo {cs : List Nat} {l : List UInt8} (h : Qt cs l) (b : List UInt8) : strA (quo cs ++ b) 0 = ⟨l, (quo cs).length, true⟩ := by
  unfold strA
  rw [if_pos ⟨by omega, by simp [quo]⟩]
  have e : (quo cs ++ b).drop (Int.toNat 0 + 1) = qb cs ++ 34 :: b := by simp [quo]
  rw [e, bod_ends h.bd]
  simp [quo]
theorem Qt.inj {a b : List Nat} {l m : List UInt8} (h : Qt a l) (k : Qt b m) (e : quo a = quo b) : l = m := by
  have e1 := str_quo h []
  have e2 := str_quo k []
  rw [e, e2] at e1
  injection e1 with e1; exact e1.symm

/-- Made of source characters. -/
theorem thru_chr {c : Nat} (h : srcB c = true) : thru (enc c) = (enc c).length := by
  have e := nxt_is (is_enc h [])
  rw [List.append_nil] at e
  have hp := enc_pos c
  rw [thru_go (by rw [e]; dsimp; omega), e]
  simp [thru_stop, nxt_nil]
theorem thru_ascii {l : List UInt8} (h : ∀ b ∈ l, 32 ≤ b.toNat ∧ b.toNat < 128) : thru l = l.length := by
  induction l with
  | nil => simp [thru_stop, nxt_nil]
  | cons b t ih =>
    have hb := h b (by simp)
    have h1 := thru_chr (c := b.toNat) (by rw [srcB_iff]; omega)
    rw [enc1 hb.2, byte_ofNat] at h1
    have := thru_append h1 t
    rw [show b :: t = [b] ++ t from rfl, this, ih (fun x hx => h x (by simp [hx]))]
    simp; omega
theorem st_bytes : ∀ c, c < 93 → ∀ b ∈ stF c, 32 ≤ b.toNat ∧ b.toNat < 128 := by decide +kernel
theorem qp_src {c : Nat} (h : okC c) : thru (qp c) = (qp c).length ∧ ∀ b ∈ qp c, 32 ≤ b.toNat := by
  unfold qp
  by_cases h0 : stF c = []
  · rw [if_pos h0]
    have h32 : 32 ≤ c := by
      by_cases h3 : c < 32
      · exact absurd h0 (stF_low c h3)
      · omega
    have hs : srcB c = true := by rcases h with h | h; omega; exact h
    refine ⟨thru_chr hs, fun b hb => ?_⟩
    by_cases h1 : c < 128
    · rw [enc1 h1] at hb
      have : b = UInt8.ofNat c := by simpa using hb
      rw [this, toNat_ofNat (by omega)]; exact h32
    · have := enc_all (by omega) (okC_lt h) b hb; omega
  · rw [if_neg h0]
    have h93 : c < 93 := by
      by_cases h3 : c < 93
      · exact h3
      · exact absurd (stF_no (by omega) (by omega) (by omega)) h0
    exact ⟨thru_ascii (st_bytes c h93), fun b hb => (st_bytes c h93 b hb).1⟩
theorem Qt.src {cs : List Nat} {l : List UInt8} (h : Qt cs l) : thru (qb cs) = (qb cs).length ∧ ∀ b ∈ qb cs, 32 ≤ b.toNat := by
  induction h with
  | nil => exact ⟨by simp [qb, thru_stop, nxt_nil], by simp [qb]⟩
  | cons hc _ ih =>
    have hq := qp_src hc
    rw [qb_cons]
    refine ⟨by rw [thru_append hq.1, ih.1, List.length_append], fun b hb => ?_⟩
    rcases List.mem_append.1 hb with h | h
    · exact hq.2 b h
    · exact ih.2 b h
theorem Qt.quo {cs : List Nat} {l : List UInt8} (h : Qt cs l) : thru (quo cs) = (quo cs).length ∧ ∀ b ∈ quo cs, 32 ≤ b.toNat := by
  have h34 : thru [34] = ([34] : List UInt8).length := thru_ascii (by decide)
  have hs := h.src
  have e : Go.Proofs.YtpcijjdlppoblaaGreatDoor.quo cs = [34] ++ (qb cs ++ [34]) := rfl
  rw [e]
  refine ⟨by rw [thru_append h34, thru_append hs.1, h34]; simp; omega, fun b hb => ?_⟩
  simp only [List.mem_append, List.mem_singleton] at hb
  rcases hb with rfl | hb | rfl
  · decide
  · exact hs.2 b hb
  · decide

/-- Bytes that stand for themselves. -/
def plB (b : UInt8) : Bool := decide (32 ≤ b.toNat) && b != 34 && b != 92
theorem plB_iff {b : UInt8} : plB b = true ↔ 32 ≤ b.toNat ∧ b ≠ 34 ∧ b ≠ 92 := by simp [plB, and_assoc]
theorem enc_first {c : Nat} (h : c < 128) : UInt8.ofNat c ∈ enc c := by rw [enc1 h]; simp
theorem pl_qp {c : Nat} (h : okC c) (hp : ∀ b ∈ enc c, plB b = true) : qp c = enc c ∧ srcB c = true := by
  by_cases h1 : c < 128
  · have := plB_iff.1 (hp _ (enc_first h1))
    rw [toNat_ofNat (by omega)] at this
    refine ⟨qp_self this.1 ?_ ?_, by rw [srcB_iff]; omega⟩
    · rintro rfl; exact this.2.1 rfl
    · rintro rfl; exact this.2.2 rfl
  · exact ⟨qp_self (by omega) (by omega) (by omega), by rcases h with h | h; omega; exact h⟩
theorem Qt.plain {cs : List Nat} {l : List UInt8} (h : Qt cs l) (hp : ∀ b ∈ l, plB b = true) : qb cs = l ∧ thru l = l.length := by
  induction h with
  | nil => exact ⟨rfl, by simp [thru_stop, nxt_nil]⟩
  | cons hc _ ih =>
    have h1 := pl_qp hc (fun b hb => hp b (List.mem_append_left _ hb))
    have h2 := ih (fun b hb => hp b (List.mem_append_right _ hb))
    exact ⟨by rw [qb_cons, h1.1, h2.1], by rw [thru_append (thru_chr h1.2), h2.2, List.length_append]⟩
theorem qt_thru {l : List UInt8} (h : thru l = l.length) : ∃ cs, Qt cs l := by
  induction hn : l.length using Nat.strongRecOn generalizing l with
  | _ m ih =>
    subst hn
    by_cases h0 : (nxt l).2 = 0
    · rw [thru_stop h0] at h
      have : l = [] := List.length_eq_zero_iff.1 h.symm
      subst this; exact ⟨[], .nil⟩
    · rcases nxt_cases l with ⟨c, hc, e⟩ | ⟨_, e⟩
      · obtain ⟨hs, r, rfl⟩ := hc
        have hl := enc_pos c
        have hg := thru_append (thru_chr hs) r
        rw [h, List.length_append] at hg
        obtain ⟨ds, hd⟩ := ih r.length (by simp; omega) (l := r) (by omega) rfl
        exact ⟨c :: ds, .cons (.inr hs) hd⟩
      · rw [e] at h0; exact absurd rfl h0
end Go.Proofs.YtpcijjdlppoblaaGreatDoor
