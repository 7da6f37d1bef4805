/- Plain mathematics of layer 2: source characters, their bytes, what is next. No program. -/
import GoSem.Core.Utf8
namespace Go.Proofs.Ytfcjihfnimefhaa

/-- Is r a source character? -/
def srcB (r : Int) : Bool := decide (r = 9 ∨ r = 10 ∨ r = 13 ∨ (32 ≤ r ∧ r ≤ 55295) ∨ (57344 ≤ r ∧ r ≤ 1114111))
theorem srcB_iff (r : Int) : srcB r = true ↔ (r = 9 ∨ r = 10 ∨ r = 13 ∨ (32 ≤ r ∧ r ≤ 55295) ∨ (57344 ≤ r ∧ r ≤ 1114111)) := by simp [srcB]

/-- Its bytes. -/
def enc (c : Nat) : List UInt8 :=
  if c < 128 then [UInt8.ofNat c]
  else if c < 2048 then [UInt8.ofNat (192 + c / 64), UInt8.ofNat (128 + c % 64)]
  else if c < 65536 then [UInt8.ofNat (224 + c / 4096), UInt8.ofNat (128 + c / 64 % 64), UInt8.ofNat (128 + c % 64)]
  else [UInt8.ofNat (240 + c / 262144), UInt8.ofNat (128 + c / 4096 % 64), UInt8.ofNat (128 + c / 64 % 64), UInt8.ofNat (128 + c % 64)]

theorem enc1 {c : Nat} (h : c < 128) : enc c = [UInt8.ofNat c] := by simp [enc, h]
theorem enc2 {c : Nat} (h : 128 ≤ c) (h' : c < 2048) : enc c = [UInt8.ofNat (192 + c / 64), UInt8.ofNat (128 + c % 64)] := by
  unfold enc; rw [if_neg (by omega), if_pos h']
theorem enc3 {c : Nat} (h : 2048 ≤ c) (h' : c < 65536) : enc c = [UInt8.ofNat (224 + c / 4096), UInt8.ofNat (128 + c / 64 % 64), UInt8.ofNat (128 + c % 64)] := by
  unfold enc; rw [if_neg (by omega), if_neg (by omega), if_pos h']
theorem enc4 {c : Nat} (h : 65536 ≤ c) : enc c = [UInt8.ofNat (240 + c / 262144), UInt8.ofNat (128 + c / 4096 % 64), UInt8.ofNat (128 + c / 64 % 64), UInt8.ofNat (128 + c % 64)] := by
  unfold enc; rw [if_neg (by omega), if_neg (by omega), if_neg (by omega)]

theorem enc_len (c : Nat) : (enc c).length = if c < 128 then 1 else if c < 2048 then 2 else if c < 65536 then 3 else 4 := by
  unfold enc; repeat' split
  all_goals rfl
theorem enc_pos (c : Nat) : 1 ≤ (enc c).length ∧ (enc c).length ≤ 4 := by rw [enc_len]; repeat' split
                                                                          all_goals omega
theorem enc_ne (c : Nat) : enc c ≠ [] := by intro h; have := enc_pos c; rw [h] at this; simp at this

/-- What the model writes is enc. -/
theorem encode_eq (r : Int) (h : srcB r = true) : Utf8.encode r = ⟨(enc r.toNat).toArray⟩ := by
  have hv : Utf8.valid r = true := by
    rw [srcB_iff] at h; simp [Utf8.valid]; omega
  unfold Utf8.encode enc
  simp only [hv, if_true]
  split
  · rfl
  · split
    · rfl
    · split <;> rfl

/-- The bytes put for r: none if r is no source character. -/
def putL (r : Int) : List UInt8 := if srcB r = true then enc r.toNat else []
def putA (r : Int) : ByteArray := ⟨(putL r).toArray⟩

theorem toNat_ofNat {n : Nat} (h : n < 256) : (UInt8.ofNat n).toNat = n := by simp; omega

theorem byte_ofNat (b : UInt8) : UInt8.ofNat b.toNat = b := by simp
theorem byte_eq {b : UInt8} {n : Nat} (h : b.toNat = n) : b = UInt8.ofNat n := by rw [← h]; simp

theorem get0 (b : UInt8) (l : List UInt8) : (⟨(b :: l).toArray⟩ : ByteArray).get! 0 = b := by rfl
theorem get1 (a b : UInt8) (l : List UInt8) : (⟨(a :: b :: l).toArray⟩ : ByteArray).get! 1 = b := by rfl
theorem get2 (a b c : UInt8) (l : List UInt8) : (⟨(a :: b :: c :: l).toArray⟩ : ByteArray).get! 2 = c := by rfl
theorem get3 (a b c d : UInt8) (l : List UInt8) : (⟨(a :: b :: c :: d :: l).toArray⟩ : ByteArray).get! 3 = d := by rfl

theorem lenA (l : List UInt8) : (⟨l.toArray⟩ : ByteArray).size = l.length := by simp [ByteArray.size]

/-- A character whose bytes stand first is decoded. -/
theorem decode_enc (c : Nat) (h : srcB c = true) (t : List UInt8) : Utf8.decode ⟨(enc c ++ t).toArray⟩ 0 = (c, (enc c).length) := by
  rw [srcB_iff] at h
  by_cases h1 : c < 128
  · rw [enc1 h1]
    have e : (UInt8.ofNat c).toNat = c := toNat_ofNat (by omega)
    simp only [Utf8.decode, List.cons_append, List.nil_append, Nat.zero_add, get0, e]
    rw [if_pos (by omega)]; rfl
  · by_cases h2 : c < 2048
    · rw [enc2 (by omega) h2]
      have e0 : (UInt8.ofNat (192 + c / 64)).toNat = 192 + c / 64 := toNat_ofNat (by omega)
      have e1 : (UInt8.ofNat (128 + c % 64)).toNat = 128 + c % 64 := toNat_ofNat (by omega)
      simp only [Utf8.decode, List.cons_append, List.nil_append, Nat.zero_add, get0, get1, e0, e1, lenA, List.length_cons]
      rw [if_neg (by omega), if_pos (by simp; omega), if_pos (by omega)]
      simp; omega
    · by_cases h3 : c < 65536
      · rw [enc3 (by omega) h3]
        have e0 : (UInt8.ofNat (224 + c / 4096)).toNat = 224 + c / 4096 := toNat_ofNat (by omega)
        have e1 : (UInt8.ofNat (128 + c / 64 % 64)).toNat = 128 + c / 64 % 64 := toNat_ofNat (by omega)
        have e2 : (UInt8.ofNat (128 + c % 64)).toNat = 128 + c % 64 := toNat_ofNat (by omega)
        have ec : (224 + c / 4096) % 16 * 4096 + (128 + c / 64 % 64) % 64 * 64 + (128 + c % 64) % 64 = c := by omega
        simp only [Utf8.decode, List.cons_append, List.nil_append, Nat.zero_add, get0, get1, get2, e0, e1, e2, lenA, List.length_cons, ec]
        rw [if_neg (by omega), if_neg (by simp; omega), if_pos (by simp; omega), if_pos (by simp [Utf8.valid]; omega)]
        rfl
      · rw [enc4 (by omega)]
        have e0 : (UInt8.ofNat (240 + c / 262144)).toNat = 240 + c / 262144 := toNat_ofNat (by omega)
        have e1 : (UInt8.ofNat (128 + c / 4096 % 64)).toNat = 128 + c / 4096 % 64 := toNat_ofNat (by omega)
        have e2 : (UInt8.ofNat (128 + c / 64 % 64)).toNat = 128 + c / 64 % 64 := toNat_ofNat (by omega)
        have e3 : (UInt8.ofNat (128 + c % 64)).toNat = 128 + c % 64 := toNat_ofNat (by omega)
        have ec : (240 + c / 262144) % 8 * 262144 + (128 + c / 4096 % 64) % 64 * 4096 + (128 + c / 64 % 64) % 64 * 64 + (128 + c % 64) % 64 = c := by omega
        simp only [Utf8.decode, List.cons_append, List.nil_append, Nat.zero_add, get0, get1, get2, get3, e0, e1, e2, e3, lenA, List.length_cons, ec]
        rw [if_neg (by omega), if_neg (by simp; omega), if_neg (by simp; omega), if_pos (by simp; omega), if_pos (by simp [Utf8.valid]; omega)]
        rfl

/-- c is the character whose bytes l begins with. -/
def Is (l : List UInt8) (c : Nat) : Prop := srcB c = true ∧ enc c <+: l

theorem Is.one {l : List UInt8} {c d : Nat} (h : Is l c) (k : Is l d) : c = d := by
  obtain ⟨t, rfl⟩ := h.2
  obtain ⟨u, hu⟩ := k.2
  have e1 := decode_enc c h.1 t
  have e2 := decode_enc d k.1 u
  rw [hu, e1] at e2
  exact (Prod.mk.inj e2).1

/-- What the program's Next answers on the rest l: the character and how many bytes. -/
def nxt (l : List UInt8) : Nat × Nat :=
  let c := (Utf8.decode ⟨l.toArray⟩ 0).1
  if srcB c = true ∧ enc c <+: l then (c, (enc c).length) else (0, 0)

theorem nxt_is {l : List UInt8} {c : Nat} (h : Is l c) : nxt l = (c, (enc c).length) := by
  obtain ⟨hs, t, rfl⟩ := h
  have e := decode_enc c hs t
  simp only [nxt, e]
  rw [if_pos ⟨hs, t, rfl⟩]
theorem nxt_cases (l : List UInt8) : (∃ c, Is l c ∧ nxt l = (c, (enc c).length)) ∨ ((∀ c, ¬ Is l c) ∧ nxt l = (0, 0)) := by
  by_cases h : ∃ c, Is l c
  · obtain ⟨c, hc⟩ := h
    exact .inl ⟨c, hc, nxt_is hc⟩
  · refine .inr ⟨fun c hc => h ⟨c, hc⟩, ?_⟩
    simp only [nxt]
    rw [if_neg]; exact fun hc => h ⟨(Utf8.decode ⟨l.toArray⟩ 0).1, hc⟩
theorem nxt_none {l : List UInt8} (h : ∀ c, ¬ Is l c) : nxt l = (0, 0) := by
  rcases nxt_cases l with ⟨c, hc, _⟩ | ⟨_, e⟩
  · exact absurd hc (h c)
  · exact e
theorem Is.len {l : List UInt8} {c : Nat} (h : Is l c) : (enc c).length ≤ l.length := h.2.length_le
theorem nxt_le (l : List UInt8) : (nxt l).2 ≤ l.length ∧ (nxt l).2 ≤ 4 ∧ (nxt l).1 ≤ 1114111 := by
  rcases nxt_cases l with ⟨c, hc, e⟩ | ⟨_, e⟩
  · rw [e]; have := enc_pos c; have h := hc.1; rw [srcB_iff] at h; exact ⟨hc.len, by omega, by dsimp; omega⟩
  · rw [e]; simp
theorem nxt_nil : nxt [] = (0, 0) := nxt_none fun c h => by
  have h1 := h.len
  have h2 := enc_pos c
  simp only [List.length_nil] at h1
  omega

theorem Is.append {l : List UInt8} {c : Nat} (h : Is l c) (t : List UInt8) : Is (l ++ t) c := ⟨h.1, h.2.trans (List.prefix_append _ _)⟩
theorem Is.of_append {l t : List UInt8} {c : Nat} (h : Is (l ++ t) c) (hl : (enc c).length ≤ l.length) : Is l c :=
  ⟨h.1, List.prefix_of_prefix_length_le h.2 (List.prefix_append _ _) hl⟩
theorem is_enc {c : Nat} (h : srcB c = true) (t : List UInt8) : Is (enc c ++ t) c := ⟨h, List.prefix_append _ _⟩

/-- How far a text is gone through, character by character. -/
def thru (l : List UInt8) : Nat := if _h : (nxt l).2 = 0 then 0 else (nxt l).2 + thru (l.drop (nxt l).2)
termination_by l.length
decreasing_by have := (nxt_le l).1; simp; omega

theorem thru_stop {l : List UInt8} (h : (nxt l).2 = 0) : thru l = 0 := by rw [thru, dif_pos h]
theorem thru_go {l : List UInt8} (h : (nxt l).2 ≠ 0) : thru l = (nxt l).2 + thru (l.drop (nxt l).2) := by rw [thru, dif_neg h]
theorem thru_le (l : List UInt8) : thru l ≤ l.length := by
  induction hn : l.length using Nat.strongRecOn generalizing l with
  | _ n ih =>
    subst hn
    by_cases h : (nxt l).2 = 0
    · rw [thru_stop h]; omega
    · rw [thru_go h]
      have hle := (nxt_le l).1
      have := ih (l.drop (nxt l).2).length (by simp; omega) _ rfl
      simp at this; omega

def badI (l : List UInt8) : Int := if thru l = l.length then -1 else thru l

/-- Where a text stops, nothing begins. -/
theorem thru_end (l : List UInt8) : (nxt (l.drop (thru l))).2 = 0 := by
  induction hn : l.length using Nat.strongRecOn generalizing l with
  | _ n ih =>
    subst hn
    by_cases h : (nxt l).2 = 0
    · rw [thru_stop h]; simpa using h
    · rw [thru_go h]
      have hle := (nxt_le l).1
      have := ih (l.drop (nxt l).2).length (by simp; omega) _ rfl
      rwa [List.drop_drop] at this

/-- A character's bytes behind a text that is gone through. -/
theorem nxt_append {l : List UInt8} (h : (nxt l).2 ≠ 0) (t : List UInt8) : nxt (l ++ t) = nxt l := by
  rcases nxt_cases l with ⟨c, hc, e⟩ | ⟨_, e⟩
  · rw [e, nxt_is (hc.append t)]
  · rw [e] at h; exact absurd rfl h

theorem thru_append {l : List UInt8} (h : thru l = l.length) (t : List UInt8) : thru (l ++ t) = l.length + thru t := by
  induction hn : l.length using Nat.strongRecOn generalizing l with
  | _ n ih =>
    subst hn
    by_cases h0 : (nxt l).2 = 0
    · rw [thru_stop h0] at h
      have : l = [] := List.length_eq_zero_iff.1 h.symm
      subst this; simp
    · have hle := (nxt_le l).1
      have hg := thru_go h0
      have ha := nxt_append h0 t
      have h0' : (nxt (l ++ t)).2 ≠ 0 := by rw [ha]; exact h0
      have e : (l ++ t).drop (nxt l).2 = l.drop (nxt l).2 ++ t := List.drop_append_of_le_length hle
      have hlen : (l.drop (nxt l).2).length = l.length - (nxt l).2 := by simp
      rw [thru_go h0', ha, e, ih (l.drop (nxt l).2).length (by simp; omega) (by simp; omega) rfl]
      omega

/-- What stands ahead of where a text stops is gone through. -/
theorem thru_take (l : List UInt8) : thru (l.take (thru l)) = thru l := by
  induction hn : l.length using Nat.strongRecOn generalizing l with
  | _ n ih =>
    subst hn
    by_cases h0 : (nxt l).2 = 0
    · rw [thru_stop h0]; simp [thru_stop, nxt_nil]
    · have hle := (nxt_le l).1
      have hg := thru_go h0
      have hrec := ih (l.drop (nxt l).2).length (by simp; omega) _ rfl
      have hb := thru_le (l.drop (nxt l).2)
      rcases nxt_cases l with ⟨c, hc, e⟩ | ⟨_, e⟩
      · have hn : (nxt l).2 = (enc c).length := by rw [e]
        have hi : Is (l.take (thru l)) c := by
          refine ⟨hc.1, ?_⟩
          rw [List.prefix_take_iff]
          exact ⟨hc.2, by omega⟩
        have h1 := nxt_is hi
        have h0' : (nxt (l.take (thru l))).2 ≠ 0 := by rw [h1]; have := enc_pos c; dsimp; omega
        have e2 : (nxt (l.take (thru l))).2 = (nxt l).2 := by rw [h1, e]
        rw [thru_go h0', e2]
        have e3 : (l.take (thru l)).drop (nxt l).2 = (l.drop (nxt l).2).take (thru (l.drop (nxt l).2)) := by
          rw [List.drop_take, hg]; congr 1; omega
        rw [e3, hrec, hg]
      · rw [e] at h0; exact absurd rfl h0

/-- A place where a text stops stays, whatever stands behind, if four bytes stand there. -/
theorem nxt_stay {l : List UInt8} (h : (nxt l).2 = 0) (h4 : 4 ≤ l.length) (t : List UInt8) : (nxt (l ++ t)).2 = 0 := by
  rcases nxt_cases (l ++ t) with ⟨c, hc, e⟩ | ⟨_, e⟩
  · have hp := enc_pos c
    have := nxt_is (hc.of_append (by omega))
    rw [this] at h; dsimp at h; omega
  · rw [e]

theorem thru_more (l t : List UInt8) : thru (l ++ t) = thru l + thru (l.drop (thru l) ++ t) := by
  have h := thru_take l
  have hle := thru_le l
  have e : l ++ t = l.take (thru l) ++ (l.drop (thru l) ++ t) := by rw [← List.append_assoc, List.take_append_drop]
  conv => lhs; rw [e]
  have hl : (l.take (thru l)).length = thru l := by simp; omega
  rw [thru_append (by rw [h, hl])]
  rw [hl]

end Go.Proofs.Ytfcjihfnimefhaa
