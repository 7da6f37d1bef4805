/- Plain mathematics of layer 8: which texts may be quoted, and what stands for each character. No program. -/
import Derived.Test.YtcedfonkahffcaaDoorTextM
import Derived.Test.YtcedfonkahffcaaDoorBytes
import Derived.Laws.RangeAny
namespace Go.Proofs.YtcedfonkahffcaaDoor
set_option linter.unusedVariables false

/-- A number that may stand in a quoted text. -/
def okC (c : Nat) : Prop := c < 32 ∨ srcB c = true
theorem okC_lt {c : Nat} (h : okC c) : c ≤ 1114111 := by
  rcases h with h | h
  · omega
  · rw [srcB_iff] at h; omega
/-- The character that l begins with, and how many bytes it has: none, 0. -/
def qc : List UInt8 → Nat × Nat
  | [] => (0, 0)
  | b :: t => if b.toNat < 32 then (b.toNat, 1) else nxt (b :: t)
theorem qc_low {b : UInt8} (h : b.toNat < 32) (t : List UInt8) : qc (b :: t) = (b.toNat, 1) := by simp [qc, h]
theorem qc_high {b : UInt8} (h : ¬ b.toNat < 32) (t : List UInt8) : qc (b :: t) = nxt (b :: t) := by simp [qc, h]
theorem enc_low {c : Nat} (h : c < 128) : enc c = [UInt8.ofNat c] := enc1 h
theorem enc_head {c : Nat} (h : 32 ≤ c) (h' : c ≤ 1114111) : ∃ b t, enc c = b :: t ∧ 32 ≤ b.toNat := by
  unfold enc
  repeat' split
  · exact ⟨_, _, rfl, by rw [toNat_ofNat (by omega)]; exact h⟩
  · exact ⟨_, _, rfl, by rw [toNat_ofNat (by omega)]; omega⟩
  · exact ⟨_, _, rfl, by rw [toNat_ofNat (by omega)]; omega⟩
  · exact ⟨_, _, rfl, by rw [toNat_ofNat (by omega)]; omega⟩
/-- What a character's bytes begin with is it. -/
theorem qc_enc {c : Nat} (h : okC c) (t : List UInt8) : qc (enc c ++ t) = (c, (enc c).length) := by
  by_cases hc : c < 32
  · rw [enc1 (by omega)]
    have e : (UInt8.ofNat c).toNat = c := toNat_ofNat (by omega)
    rw [List.cons_append, qc_low (by omega), e]; rfl
  · have hs : srcB c = true := by rcases h with h | h; exact absurd h hc; exact h
    obtain ⟨b, r, e, hb⟩ := enc_head (c := c) (by omega) (okC_lt h)
    have := nxt_is (is_enc hs t)
    rw [e] at this ⊢
    rw [List.cons_append] at this ⊢
    rw [qc_high (by omega), this]
theorem qc_cases (l : List UInt8) : (∃ c t, okC c ∧ l = enc c ++ t ∧ qc l = (c, (enc c).length)) ∨ (qc l = (0, 0) ∧ (∀ c t, okC c → l ≠ enc c ++ t)) := by
  by_cases h : ∃ c t, okC c ∧ l = enc c ++ t
  · obtain ⟨c, t, hc, rfl⟩ := h
    exact .inl ⟨c, t, hc, rfl, qc_enc hc t⟩
  · refine .inr ⟨?_, fun c t hc e => h ⟨c, t, hc, e⟩⟩
    cases l with
    | nil => rfl
    | cons b t =>
      by_cases hb : b.toNat < 32
      · exact absurd ⟨b.toNat, t, .inl hb, by rw [enc1 (by omega)]; simp⟩ h
      · rw [qc_high hb]
        refine nxt_none fun c hc => ?_
        obtain ⟨hs, u, e⟩ := hc
        exact h ⟨c, u, .inr hs, e.symm⟩
theorem qc_le (l : List UInt8) : (qc l).2 ≤ l.length := by
  rcases qc_cases l with ⟨c, t, hc, rfl, e⟩ | ⟨e, _⟩
  · rw [e]; simp
  · rw [e]; simp

/-- Quotable texts. -/
inductive Qt : List Nat → List UInt8 → Prop
  | nil : Qt [] []
  | cons {c : Nat} {cs : List Nat} {l : List UInt8} : okC c → Qt cs l → Qt (c :: cs) (enc c ++ l)
theorem Qt.append {a b : List Nat} {l m : List UInt8} (h : Qt a l) (k : Qt b m) : Qt (a ++ b) (l ++ m) := by
  induction h with
  | nil => exact k
  | cons hc _ ih => rw [List.append_assoc]; exact .cons hc ih

/-- The characters of a text, as far as it may be quoted, and whether it may. -/
def qtF : Nat → List UInt8 → Option (List Nat)
  | 0, _ => none
  | f + 1, l => if l = [] then some [] else if (qc l).2 = 0 then none else (qtF f (l.drop (qc l).2)).map ((qc l).1 :: ·)
def qtA (l : List UInt8) : Option (List Nat) := qtF (l.length + 1) l
theorem qtF_more {f g : Nat} {l : List UInt8} (hf : l.length < f) (hg : l.length < g) : qtF f l = qtF g l := by
  induction f generalizing g l with
  | zero => omega
  | succ f ih =>
    cases g with
    | zero => omega
    | succ g =>
      unfold qtF
      by_cases h : l = []
      · rw [if_pos h, if_pos h]
      · rw [if_neg h, if_neg h]
        by_cases h0 : (qc l).2 = 0
        · rw [if_pos h0, if_pos h0]
        · rw [if_neg h0, if_neg h0]
          have := List.length_pos_iff.2 h
          rw [ih (g := g) (by simp; omega) (by simp; omega)]
theorem qtA_nil : qtA [] = some [] := by simp [qtA, qtF]
theorem qtA_none {l : List UInt8} (h : l ≠ []) (h0 : (qc l).2 = 0) : qtA l = none := by unfold qtA qtF; rw [if_neg h, if_pos h0]
theorem qtA_go {c : Nat} (h : okC c) (t : List UInt8) : qtA (enc c ++ t) = (qtA t).map (c :: ·) := by
  have e := qc_enc h t
  have hp := enc_pos c
  unfold qtA
  rw [show qtF ((enc c ++ t).length + 1) (enc c ++ t) = (qtF (enc c ++ t).length ((enc c ++ t).drop (qc (enc c ++ t)).2)).map ((qc (enc c ++ t)).1 :: ·) by
    conv => lhs; unfold qtF
    rw [if_neg (by simp [enc_ne]), if_neg (by rw [e]; dsimp; omega)]]
  rw [e]
  dsimp only
  rw [List.drop_left, qtF_more (g := t.length + 1) (by simp; omega) (by omega)]
theorem qtA_iff {l : List UInt8} {cs : List Nat} : qtA l = some cs ↔ Qt cs l := by
  constructor
  · intro h
    induction hn : l.length using Nat.strongRecOn generalizing l cs with
    | _ n ih =>
      subst hn
      by_cases h0 : l = []
      · subst h0; rw [qtA_nil] at h; cases h; exact .nil
      · rcases qc_cases l with ⟨c, t, hc, rfl, e⟩ | ⟨e, _⟩
        · rw [qtA_go hc, Option.map_eq_some_iff] at h
          obtain ⟨ds, hd, rfl⟩ := h
          have := enc_pos c
          exact .cons hc (ih t.length (by simp; omega) hd rfl)
        · rw [qtA_none h0 (by rw [e])] at h; cases h
  · intro h
    induction h with
    | nil => exact qtA_nil
    | cons hc _ ih => rw [qtA_go hc, ih]; rfl
theorem Qt.one {a b : List Nat} {l : List UInt8} (h : Qt a l) (k : Qt b l) : a = b := by
  rw [← qtA_iff] at h k; rw [h] at k; exact Option.some.inj k

/-- A digit to the base of 16. -/
def hxL (n : Nat) : UInt8 := if n < 10 then UInt8.ofNat (48 + n) else UInt8.ofNat (87 + n)
/-- What stands for a character by the table; nothing: it stands for itself. -/
def stF (c : Nat) : List UInt8 :=
  if c = 8 then [92, 98] else if c = 9 then [92, 116] else if c = 10 then [92, 110] else if c = 12 then [92, 102] else if c = 13 then [92, 114]
  else if c < 32 then [92, 117, 48, 48, hxL (c / 16), hxL (c % 16)] else if c = 34 then [92, 34] else if c = 92 then [92, 92] else []
def qp (c : Nat) : List UInt8 := if stF c = [] then enc c else stF c
theorem stF_low : ∀ c, c < 32 → stF c ≠ [] := by decide
theorem stF_no {c : Nat} (h : 32 ≤ c) (h1 : c ≠ 34) (h2 : c ≠ 92) : stF c = [] := by
  unfold stF
  rw [if_neg (by omega), if_neg (by omega), if_neg (by omega), if_neg (by omega), if_neg (by omega), if_neg (by omega), if_neg h1, if_neg h2]
theorem qp_self {c : Nat} (h : 32 ≤ c) (h1 : c ≠ 34) (h2 : c ≠ 92) : qp c = enc c := by unfold qp; rw [if_pos (stF_no h h1 h2)]
theorem qp_len {c : Nat} (h : okC c) : (enc c).length ≤ (qp c).length ∧ (qp c).length ≤ 6 * (enc c).length := by
  by_cases h1 : 32 ≤ c ∧ c ≠ 34 ∧ c ≠ 92
  · rw [qp_self h1.1 h1.2.1 h1.2.2]; omega
  · have : ∀ c, c < 93 → (32 ≤ c ∧ c ≠ 34 ∧ c ≠ 92) ∨ (1 ≤ (qp c).length ∧ (qp c).length ≤ 6) := by decide
    rcases this c (by omega) with h2 | h2
    · exact absurd h2 h1
    · rw [enc1 (c := c) (by omega)]; simpa using h2
/-- What stands between the quotes. -/
def qb (cs : List Nat) : List UInt8 := cs.flatMap qp
theorem qb_nil : qb [] = [] := rfl
theorem qb_cons (c : Nat) (cs : List Nat) : qb (c :: cs) = qp c ++ qb cs := by simp [qb]
theorem qb_app (a b : List Nat) : qb (a ++ b) = qb a ++ qb b := by simp [qb]
theorem Qt.len {cs : List Nat} {l : List UInt8} (h : Qt cs l) : l.length ≤ (qb cs).length ∧ (qb cs).length ≤ 6 * l.length := by
  induction h with
  | nil => simp [qb]
  | cons hc _ ih => have := qp_len hc; rw [qb_cons]; simp only [List.length_append]; omega
/-- The text in quotes. -/
def quo (cs : List Nat) : List UInt8 := 34 :: (qb cs ++ [34])
theorem quo_len (cs : List Nat) : (quo cs).length = (qb cs).length + 2 := by simp [quo]

/-- What the model's range over a text tells. -/
theorem get_drop (s : ByteArray) (k j : Nat) : s.get! (k + j) = (mkb (s.data.toList.drop k)).get! (0 + j) := by
  show s.data[k + j]! = (s.data.toList.drop k).toArray[0 + j]!
  rw [Array.getElem!_eq_getD, Array.getElem!_eq_getD, Array.getD_eq_getD_getElem?, Array.getD_eq_getD_getElem?]
  simp
theorem decode_drop (s : ByteArray) (k : Nat) : Utf8.decode s k = Utf8.decode (mkb (s.data.toList.drop k)) 0 := by
  have hz : ∀ j, (k + j < s.size) = (0 + j < (mkb (s.data.toList.drop k)).size) := fun j => by
    rw [mkb_size, List.length_drop, ← Lib.size_eq]; apply propext; omega
  unfold Utf8.decode
  simp only [get_drop s k, hz]
theorem decode_at (s : ByteArray) (k : Nat) (hk : k < s.size) (c : Nat) (t : List UInt8) (hc : okC c) (e : s.data.toList.drop k = enc c ++ t) : Utf8.decode s k = (c, (enc c).length) := by
  rw [decode_drop, e]
  by_cases h : c < 32
  · rw [enc1 (by omega)]
    have e1 : (UInt8.ofNat c).toNat = c := toNat_ofNat (by omega)
    simp only [Utf8.decode, mkb, List.cons_append, List.nil_append, Nat.zero_add, get0, e1]
    rw [if_pos (by omega)]; rfl
  · exact decode_enc c (by rcases hc with hc | hc; exact absurd hc h; exact hc) t
theorem decode_bad (s : ByteArray) (k : Nat) (hk : k < s.size) (e : (qc (s.data.toList.drop k)).2 = 0) : 32 ≤ (Utf8.decode s k).1 := by
  have hl : s.data.toList.drop k = s[k] :: s.data.toList.drop (k + 1) := by
    rw [List.drop_eq_getElem_cons (by rw [← Lib.size_eq]; exact hk)]; rfl
  rw [hl] at e
  by_cases hb : (s[k]).toNat < 32
  · rw [qc_low hb] at e; cases e
  · by_cases h2 : (s[k]).toNat < 128
    · have : Utf8.decode s k = ((s[k]).toNat, 1) := by
        unfold Utf8.decode
        simp only [get_at s k hk]
        rw [if_pos h2]
      rw [this]; dsimp; omega
    · have := (decode_high s k hk (by omega)).1; omega
end Go.Proofs.YtcedfonkahffcaaDoor
