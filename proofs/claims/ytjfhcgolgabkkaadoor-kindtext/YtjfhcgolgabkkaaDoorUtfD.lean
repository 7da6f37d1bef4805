/- The chapter's example (awake); the laws UtfOrder and UtfLong: their mathematics and walks. -/
import Derived.Test.YtjfhcgolgabkkaaDoorUtfC
import Derived.Test.YtjfhcgolgabkkaaDoorBel
namespace Go.Proofs.YtjfhcgolgabkkaaDoor
open Go.RowKit


theorem exC : nxtC ⟨#[97, 195, 169]⟩ 1 = 233 := by decide +kernel
theorem exN : nxtN ⟨#[97, 195, 169]⟩ 1 = 2 := by decide +kernel
theorem exP : putA 233 = ⟨#[195, 169]⟩ := by decide +kernel
theorem exP0 : putA 0 = ⟨#[]⟩ := by decide +kernel
theorem exP1 : putA 55296 = ⟨#[]⟩ := by decide +kernel
theorem thru_ex1 : thru [97, 195, 169] = 3 := by
  rw [thru_go (by decide +kernel), show (nxt [97, 195, 169]).2 = 1 by decide +kernel]
  show 1 + thru [195, 169] = 3
  rw [thru_go (by decide +kernel), show (nxt [195, 169]).2 = 2 by decide +kernel]
  show 1 + (2 + thru []) = 3
  rw [thru_stop (by decide +kernel)]
theorem thru_ex2 : thru [97, 195] = 1 := by
  rw [thru_go (by decide +kernel), show (nxt [97, 195]).2 = 1 by decide +kernel]
  show 1 + thru [195] = 1
  rw [thru_stop (by decide +kernel)]
theorem exM : mayB [97, 195, 169] = true := by simp [mayB, badI, thru_ex1]
theorem exB : badI [97, 195] = 1 := by simp [badI, thru_ex2]

/-! ### UtfOrder -/
theorem bl_cons (a b : UInt8) (x y : List UInt8) : Op.bytesLess (a :: x) (b :: y) = true ↔ a.toNat < b.toNat ∨ (a.toNat = b.toNat ∧ Op.bytesLess x y = true) := by
  simp [Op.bytesLess, UInt8.lt_iff_toNat_lt, ← UInt8.toNat_inj]
theorem bl_nil (x : List UInt8) : Op.bytesLess x [] = true ↔ False := by cases x <;> simp [Op.bytesLess]

theorem enc_less {c d : Nat} (hc : srcB c = true) (hd : srcB d = true) : Op.bytesLess (enc c) (enc d) = true ↔ c < d := by
  rw [srcB_iff] at hc hd
  have k1 : c / 4096 = c / 64 / 64 := by omega
  have k2 : c / 262144 = c / 64 / 64 / 64 := by omega
  have k3 : d / 4096 = d / 64 / 64 := by omega
  have k4 : d / 262144 = d / 64 / 64 / 64 := by omega
  have t : ∀ n : Nat, n < 256 → (UInt8.ofNat n).toNat = n := fun n h => toNat_ofNat h
  by_cases c1 : c < 128
  · rw [enc1 c1]
    by_cases d1 : d < 128
    · rw [enc1 d1, bl_cons, bl_nil, t _ (by omega), t _ (by omega)]; (try simp only [and_false, or_false]); (try omega)
    · by_cases d2 : d < 2048
      · rw [enc2 (by omega) d2, bl_cons, t _ (by omega), t _ (by omega)]; (try simp only [and_false, or_false]); (try omega)
      · by_cases d3 : d < 65536
        · rw [enc3 (by omega) d3, bl_cons, t _ (by omega), t _ (by omega)]; (try simp only [and_false, or_false]); (try omega)
        · rw [enc4 (by omega), bl_cons, t _ (by omega), t _ (by omega)]; (try simp only [and_false, or_false]); (try omega)
  · by_cases c2 : c < 2048
    · rw [enc2 (by omega) c2]
      by_cases d1 : d < 128
      · rw [enc1 d1, bl_cons, bl_nil, t _ (by omega), t _ (by omega)]; (try simp only [and_false, or_false]); (try omega)
      · by_cases d2 : d < 2048
        · rw [enc2 (by omega) d2, bl_cons, bl_cons, bl_nil, t _ (by omega), t _ (by omega), t _ (by omega), t _ (by omega)]; (try simp only [and_false, or_false]); (try omega)
        · by_cases d3 : d < 65536
          · rw [enc3 (by omega) d3, bl_cons, t _ (by omega), t _ (by omega)]; (try simp only [and_false, or_false]); (try omega)
          · rw [enc4 (by omega), bl_cons, t _ (by omega), t _ (by omega)]; (try simp only [and_false, or_false]); (try omega)
    · by_cases c3 : c < 65536
      · rw [enc3 (by omega) c3]
        by_cases d1 : d < 128
        · rw [enc1 d1, bl_cons, bl_nil, t _ (by omega), t _ (by omega)]; (try simp only [and_false, or_false]); (try omega)
        · by_cases d2 : d < 2048
          · rw [enc2 (by omega) d2, bl_cons, t _ (by omega), t _ (by omega)]; (try simp only [and_false, or_false]); (try omega)
          · by_cases d3 : d < 65536
            · rw [enc3 (by omega) d3, bl_cons, bl_cons, bl_cons, bl_nil, t _ (by omega), t _ (by omega), t _ (by omega), t _ (by omega), t _ (by omega), t _ (by omega)]; (try simp only [and_false, or_false]); (try omega)
            · rw [enc4 (by omega), bl_cons, t _ (by omega), t _ (by omega)]; (try simp only [and_false, or_false]); (try omega)
      · rw [enc4 (by omega)]
        by_cases d1 : d < 128
        · rw [enc1 d1, bl_cons, bl_nil, t _ (by omega), t _ (by omega)]; (try simp only [and_false, or_false]); (try omega)
        · by_cases d2 : d < 2048
          · rw [enc2 (by omega) d2, bl_cons, t _ (by omega), t _ (by omega)]; (try simp only [and_false, or_false]); (try omega)
          · by_cases d3 : d < 65536
            · rw [enc3 (by omega) d3, bl_cons, t _ (by omega), t _ (by omega)]; (try simp only [and_false, or_false]); (try omega)
            · rw [enc4 (by omega), bl_cons, bl_cons, bl_cons, bl_cons, bl_nil, t _ (by omega), t _ (by omega), t _ (by omega), t _ (by omega), t _ (by omega), t _ (by omega), t _ (by omega), t _ (by omega)]; (try simp only [and_false, or_false]); (try omega)

theorem enc_inj {c d : Nat} (hc : srcB c = true) (hd : srcB d = true) (h : enc c = enc d) : c = d :=
  Is.one (l := enc c) ⟨hc, List.prefix_refl _⟩ ⟨hd, by rw [h]; exact List.prefix_refl _⟩

theorem putA_list (r : Int) : (putA r).toList = putL r := by simp [putA, ByteArray.toList_eq]
theorem putA_no {r : Int} (h : srcB r = false) : putA r = ⟨#[]⟩ := by simp [putA, putL_no h]
theorem putA_size (r : Int) : (putA r).size = (putL r).length := by simp [putA, lenA]
theorem src_nat {r : Int} (h : srcB r = true) : ((r.toNat : Nat) : Int) = r ∧ srcB ((r.toNat : Nat) : Int) = true := by
  have := (srcB_iff r).1 h
  have e : ((r.toNat : Nat) : Int) = r := by omega
  exact ⟨e, by rw [e]; exact h⟩
theorem put_ne {r : Int} (h : srcB r = true) : (putA r).toList.isEmpty = false ∧ ¬ (putA r).toList = [] := by
  have := enc_ne r.toNat
  rw [putA_list, putL_yes h]
  exact ⟨by simpa using this, this⟩

/-! ### UtfLong -/
def lenI (r : Int) : Int := if r < 128 then 1 else if r < 2048 then 2 else if r < 65536 then 3 else 4
theorem put_len {r : Int} (h : srcB r = true) : ((putA r).size : Int) = lenI r := by
  have := (srcB_iff r).1 h
  rw [putA_size, putL_yes h, enc_len]
  unfold lenI
  by_cases h1 : r < 128
  · rw [if_pos h1, if_pos (by omega)]; rfl
  · rw [if_neg h1, if_neg (by omega)]
    by_cases h2 : r < 2048
    · rw [if_pos h2, if_pos (by omega)]; rfl
    · rw [if_neg h2, if_neg (by omega)]
      by_cases h3 : r < 65536
      · rw [if_pos h3, if_pos (by omega)]; rfl
      · rw [if_neg h3, if_neg (by omega)]; rfl

/-- Bytes of a character: the first one, and the others. -/
theorem enc_bytes (c : Nat) (h : srcB c = true) : (c < 128 → ∀ k (hk : k < (enc c).length), ((enc c)[k]).toNat = c) ∧
    (128 ≤ c → ∀ k (hk : k < (enc c).length), (k = 0 → 192 ≤ ((enc c)[k]).toNat) ∧ (1 ≤ k → 128 ≤ ((enc c)[k]).toNat ∧ ((enc c)[k]).toNat < 192)) := by
  rw [srcB_iff] at h
  have t : ∀ n : Nat, n < 256 → (UInt8.ofNat n).toNat = n := fun n h => toNat_ofNat h
  refine ⟨fun h1 k hk => ?_, fun h1 k hk => ?_⟩
  · simp only [enc1 h1, List.length_cons, List.length_nil] at hk ⊢
    obtain rfl : k = 0 := by omega
    simp; omega
  · by_cases h2 : c < 2048
    · simp only [enc2 h1 h2, List.length_cons, List.length_nil] at hk ⊢
      match k, hk with
      | 0, _ => simp only [List.getElem_cons_zero]; rw [t _ (by omega)]; omega
      | 1, _ => simp only [List.getElem_cons_zero, List.getElem_cons_succ]; rw [t _ (by omega)]; omega
    · by_cases h3 : c < 65536
      · simp only [enc3 (c := c) (by omega) h3, List.length_cons, List.length_nil] at hk ⊢
        match k, hk with
        | 0, _ => simp only [List.getElem_cons_zero]; rw [t _ (by omega)]; omega
        | 1, _ => simp only [List.getElem_cons_zero, List.getElem_cons_succ]; rw [t _ (by omega)]; omega
        | 2, _ => simp only [List.getElem_cons_zero, List.getElem_cons_succ]; rw [t _ (by omega)]; omega
      · simp only [enc4 (c := c) (by omega), List.length_cons, List.length_nil] at hk ⊢
        match k, hk with
        | 0, _ => simp only [List.getElem_cons_zero]; rw [t _ (by omega)]; omega
        | 1, _ => simp only [List.getElem_cons_zero, List.getElem_cons_succ]; rw [t _ (by omega)]; omega
        | 2, _ => simp only [List.getElem_cons_zero, List.getElem_cons_succ]; rw [t _ (by omega)]; omega
        | 3, _ => simp only [List.getElem_cons_zero, List.getElem_cons_succ]; rw [t _ (by omega)]; omega

theorem putA_get {r : Int} (h : srcB r = true) (k : Nat) (hk : k < (putA r).size) : ((putA r)[k]'hk).toNat = ((enc r.toNat)[k]'(by rw [putA_size, putL_yes h] at hk; exact hk)).toNat := by
  have : ∀ (l l' : List UInt8) (e : l = l') (hk : k < (⟨l.toArray⟩ : ByteArray).size) (hk' : k < l'.length), ((⟨l.toArray⟩ : ByteArray)[k]'hk).toNat = (l'[k]'hk').toNat := by
    intro l l' e hk hk'; subst e; rfl
  exact this _ _ (putL_yes h) _ _

theorem long_math {r : Int} (h : srcB r = true) :
    (r < 128 → ∀ k (hk : k < (putA r).size), ((putA r)[k]'hk).toNat = r.toNat) ∧
    (128 ≤ r → ∀ k (hk : k < (putA r).size), (k = 0 → 192 ≤ ((putA r)[k]'hk).toNat) ∧ (1 ≤ k → 128 ≤ ((putA r)[k]'hk).toNat ∧ ((putA r)[k]'hk).toNat < 192)) := by
  obtain ⟨n, sn⟩ := src_nat h
  obtain ⟨p, q⟩ := enc_bytes r.toNat sn
  exact ⟨fun h1 k hk => by rw [putA_get h]; exact p (by omega) k _, fun h1 k hk => by rw [putA_get h]; exact q (by omega) k _⟩

end Go.Proofs.YtjfhcgolgabkkaaDoor
