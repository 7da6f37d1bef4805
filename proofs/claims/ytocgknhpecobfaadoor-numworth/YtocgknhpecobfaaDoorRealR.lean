/- Whole numbers' texts: what they are worth; the walk of RealWhole. -/
import Derived.Test.YtocgknhpecobfaaDoorRealI
namespace Go.Proofs.YtocgknhpecobfaaDoor
open Go.RowKit
set_option linter.unusedVariables false

theorem dval_cons (c : UInt8) (l : List UInt8) : dval (c :: l) = (c.toNat - 48) * 10 ^ l.length + dval l := by
  have e : dval (c :: l) = dval [c] * 10 ^ l.length + dval l := dval_app [c] l
  rw [e]; simp [dval]
theorem dval_tz (d : List UInt8) : dval (tz d) = dval d := by
  induction d with
  | nil => rfl
  | cons c d ih =>
    by_cases hc : c = 48
    · have e : tz (c :: d) = tz d := by unfold tz; rw [List.dropWhile_cons, if_pos (by simpa using hc)]
      rw [e, ih, dval_cons, hc]; simp
    · have e : tz (c :: d) = c :: d := by unfold tz; rw [List.dropWhile_cons, if_neg (by simpa using hc)]
      rw [e]
theorem W0 : W 0 = 0 := rfl
theorem W_ok {n : Nat} (h : n < 9007199254740992) : nanB (W n) = false ∧ W n < 9223372036854775808 := by
  have h1 := rungW_lt h
  have h2 := W_fin h
  refine ⟨?_, by unfold W; omega⟩
  unfold nanB
  exact decide_eq_false (by unfold isN; omega)
theorem e53 : (10:Nat)^15 < 9007199254740992 := by decide

theorem val0 {d : List UInt8} (hall : d.all isD = true) (h15 : d.length ≤ 15) : valB (tz d) 0 = W (dval d) := by
  have hl := tz_len d
  have hd := dval_lt15 d hall h15
  by_cases h0 : (tz d).length = 0
  · have e : tz d = [] := List.length_eq_zero_iff.1 h0
    rw [e, valB_nil, ← dval_tz, e]; rfl
  · unfold valB
    rw [if_neg h0, if_neg (by omega), if_neg (by omega), if_neg (by omega), if_neg (by omega), dval_tz, show (0 : Int).toNat = 0 from rfl, tenB_W 0 (by omega), mul_W _ _ (by omega) (by decide) (by simp; omega)]
    simp
theorem valneg {d : List UInt8} (hall : d.all isD = true) (h15 : d.length ≤ 15) {j m : Nat} (hj1 : 1 ≤ j) (hj : j ≤ 9) (hm : dval d = m * 10 ^ j) : valB (tz d) (-(j : Int)) = W m := by
  have hl := tz_len d
  have hd := dval_lt15 d hall h15
  by_cases h0 : (tz d).length = 0
  · have e : tz d = [] := List.length_eq_zero_iff.1 h0
    have z : dval d = 0 := by rw [← dval_tz, e]; rfl
    have hp : 0 < (10:Nat) ^ j := Nat.pow_pos (by decide)
    have : m = 0 := by
      rcases Nat.eq_zero_or_pos m with h | h
      · exact h
      · have := Nat.mul_pos h hp; omega
    rw [e, valB_nil, this]; rfl
  · have hm0 : m ≠ 0 := by
      rintro rfl
      rw [Nat.zero_mul] at hm
      rw [← dval_tz] at hm
      obtain ⟨c, t, hct⟩ : ∃ c t, tz d = c :: t := by
        cases hc : tz d with
        | nil => exact absurd (by rw [hc]; rfl) h0
        | cons c t => exact ⟨c, t, rfl⟩
      have hA := tz_all hall
      rw [hct] at hA hm
      simp only [List.all_cons, Bool.and_eq_true, isD_iff] at hA
      rw [dval_cons] at hm
      have hp : 0 < (10:Nat) ^ t.length := Nat.pow_pos (by decide)
      have hc48 : c ≠ 48 := by
        have := List.head?_dropWhile_not (fun x : UInt8 => x == 48) d
        intro e
        unfold tz at hct
        rw [hct] at this
        simp [e] at this
      have : c.toNat ≠ 48 := fun e => hc48 (UInt8.toNat_inj.1 e)
      have : 1 ≤ c.toNat - 48 := by omega
      have := Nat.mul_le_mul_right (10 ^ t.length) this
      omega
    have hp10 : (10:Nat) ^ j ≤ 10 ^ 9 := Nat.pow_le_pow_right (by decide) hj
    have hp9 : (10:Nat)^9 = 1000000000 := by decide
    unfold valB
    rw [if_neg h0, if_neg (by omega), if_neg (by omega), if_neg (by omega), if_pos (by omega), dval_tz, hm, show (- -(j : Int)).toNat = j by omega, tenB_W j (by omega)]
    rw [div_W m (10 ^ j) (Nat.pos_iff_ne_zero.1 (Nat.pow_pos (by decide))) hm0 (by omega) (by omega)]
    rfl
theorem valpos {d : List UInt8} (hall : d.all isD = true) (h15 : d.length ≤ 15) {j : Nat} (hj : j ≤ 15) (hb : dval d * 10 ^ j < 9007199254740992) : valB (tz d) (j : Int) = W (dval d * 10 ^ j) := by
  have hl := tz_len d
  have hd := dval_lt15 d hall h15
  by_cases h0 : (tz d).length = 0
  · have e : tz d = [] := List.length_eq_zero_iff.1 h0
    have z : dval d = 0 := by rw [← dval_tz, e]; rfl
    rw [e, valB_nil, z, Nat.zero_mul]; rfl
  · have hp10 : (10:Nat) ^ j ≤ 10 ^ 15 := Nat.pow_le_pow_right (by decide) hj
    have := e53
    unfold valB
    rw [if_neg h0, if_neg (by omega), if_neg (by omega), if_neg (by omega), if_neg (by omega), dval_tz, Int.toNat_natCast, tenB_W j (by omega), mul_W _ _ (by omega) (by omega) hb]
    rfl

theorem rv_plainv {s d : List UInt8} {x : Int} {v : Nat} (hp : plainD s = some (d, x)) (hm : ∀ u, s ≠ 45 :: u) (hv : valB (tz d) x = W v) (hb : v < 9007199254740992) : rv s = W v := by
  have hn : num s = some (false, d, x) := by rw [num_plain s hm, hp]; rfl
  have := W_ok hb
  rw [rv_of hn (by rw [hv]; exact this.1) (by rw [hv]; exact this.2), hv]; rfl

theorem zs_dval (k : Nat) : dval (List.replicate k 48) = 0 := by rw [← dval_tz, tz_zeros]; rfl
theorem dval_zs (D : List UInt8) (k : Nat) : dval (D ++ List.replicate k 48) = dval D * 10 ^ k := by
  rw [dval_app, zs_dval, List.length_replicate, Nat.add_zero]
theorem dig1 {k : Nat} (h : k ≤ 9) : ([UInt8.ofNat (48 + k)] : List UInt8).all isD = true ∧ pw [UInt8.ofNat (48 + k)] = k := by
  have e : (UInt8.ofNat (48 + k)).toNat = 48 + k := by simp [UInt8.toNat_ofNat']; omega
  constructor
  · simp only [List.all_cons, List.all_nil, Bool.and_true, isD_iff, e]; omega
  · simp only [pw, List.foldl_cons, List.foldl_nil, e]; omega

theorem n_lt {D : List UInt8} {n : Nat} (hall : D.all isD = true) (hne : D ≠ []) (h14 : D.length ≤ 14) (hn : dval D = n) : n < 100000000000000 := by
  have := dval_lt D hall
  have h2 : (10:Nat) ^ D.length ≤ 10 ^ 14 := Nat.pow_le_pow_right (by decide) h14
  have e14 : (10:Nat)^14 = 100000000000000 := by decide
  omega
theorem whole1 {D : List UInt8} {n : Nat} (hall : D.all isD = true) (hne : D ≠ []) (h14 : D.length ≤ 14) (hn : dval D = n) : rv D = W n := by
  have hp := plainD_B hall hne (ep := []) (.inl rfl)
  rw [List.append_nil, expoD_nil] at hp
  have hm := not_minus (r := []) hall hne
  rw [List.append_nil] at hm
  have := n_lt hall hne h14 hn
  exact rv_plainv hp hm (by rw [val0 hall (by omega), hn]) (by omega)
theorem whole2 {D : List UInt8} {n : Nat} (hall : D.all isD = true) (hne : D ≠ []) (h14 : D.length ≤ 14) (hn : dval D = n) : rv (D ++ [46, 48]) = W n := by
  have h48 : ([48] : List UInt8).all isD = true := by decide
  have hp := plainD_C hall hne h48 (by simp) (ep := []) (.inl rfl)
  rw [List.append_nil, expoD_nil] at hp
  have := n_lt hall hne h14 hn
  refine rv_plainv hp (not_minus hall hne) ?_ (by omega)
  have := valneg (d := D ++ [48]) (j := 1) (m := n) (by rw [List.all_append, hall, h48]; rfl) (by simp; omega) (by omega) (by omega) (by rw [dval_snoc, hn]; simp)
  exact this
theorem whole3 {D : List UInt8} {n : Nat} (hall : D.all isD = true) (hne : D ≠ []) (h14 : D.length ≤ 14) (hn : dval D = n) : rv (D ++ [101, 48]) = W n := by
  have h48 : ([48] : List UInt8).all isD = true := by decide
  have hp := plainD_B hall hne (ep := [101, 48]) (.inr ⟨101, _, rfl, .inl rfl⟩)
  rw [expoD_e (.inl rfl) h48 (by simp)] at hp
  have := n_lt hall hne h14 hn
  refine rv_plainv hp (not_minus hall hne) ?_ (by omega)
  have e : ((pw [48] : Nat) : Int) = 0 := by decide
  rw [e, val0 hall (by omega), hn]
theorem zall {D : List UInt8} {n k : Nat} (hall : D.all isD = true) (hne : D ≠ []) (h14 : D.length ≤ 14) (hn : dval D = n) : (D ++ List.replicate k 48).all isD = true := by rw [List.all_append, hall, zeros_all]; rfl
theorem whole4 {D : List UInt8} {n k : Nat} (hall : D.all isD = true) (hne : D ≠ []) (h14 : D.length ≤ 14) (hn : dval D = n) (hk : k ≤ 9) (h15 : D.length + k ≤ 15) : rv (D ++ List.replicate k 48 ++ [69, 45] ++ [UInt8.ofNat (48 + k)]) = W n := by
  obtain ⟨d1, d2⟩ := dig1 hk
  have hz := zall (k := k) hall hne h14 hn
  have hzne : D ++ List.replicate k 48 ≠ [] := by simp [hne]
  have hp := plainD_B hz hzne (ep := 69 :: 45 :: [UInt8.ofNat (48 + k)]) (.inr ⟨69, _, rfl, .inr rfl⟩)
  rw [expoD_sign (.inr rfl) (.inr rfl) d1 (by simp), d2] at hp
  have e : D ++ List.replicate k 48 ++ [69, 45] ++ [UInt8.ofNat (48 + k)] = D ++ List.replicate k 48 ++ 69 :: 45 :: [UInt8.ofNat (48 + k)] := by simp
  rw [e]
  have := n_lt hall hne h14 hn
  refine rv_plainv hp (not_minus hz hzne) ?_ (by omega)
  have es : sgnd [45] k = -(k : Int) := rfl
  rw [es]
  by_cases h0 : k = 0
  · subst h0
    have hv := val0 hall (by omega)
    rw [hn] at hv
    simpa using hv
  · exact valneg (d := D ++ List.replicate k 48) (j := k) (m := n) hz (by simp; omega) (by omega) hk (by rw [dval_zs, hn])
theorem nk_lt {D : List UInt8} {n k : Nat} (hall : D.all isD = true) (hne : D ≠ []) (h14 : D.length ≤ 14) (hn : dval D = n) (h15 : D.length + k ≤ 15) : n * 10 ^ k < 9007199254740992 := by
  have h1 := dval_lt _ (zall (k := k) hall hne h14 hn)
  rw [dval_zs, hn, List.length_append, List.length_replicate] at h1
  have h2 : (10:Nat) ^ (D.length + k) ≤ 10 ^ 15 := Nat.pow_le_pow_right (by decide) h15
  have := e53
  omega
theorem whole5 {D : List UInt8} {n k : Nat} (hall : D.all isD = true) (hne : D ≠ []) (h14 : D.length ≤ 14) (hn : dval D = n) (hk : k ≤ 9) (h15 : D.length + k ≤ 15) : rv (D ++ [101, 43] ++ [UInt8.ofNat (48 + k)]) = W (n * 10 ^ k) := by
  obtain ⟨d1, d2⟩ := dig1 hk
  have hp := plainD_B hall hne (ep := 101 :: 43 :: [UInt8.ofNat (48 + k)]) (.inr ⟨101, _, rfl, .inl rfl⟩)
  rw [expoD_sign (.inl rfl) (.inl rfl) d1 (by simp), d2] at hp
  have e : D ++ [101, 43] ++ [UInt8.ofNat (48 + k)] = D ++ 101 :: 43 :: [UInt8.ofNat (48 + k)] := by simp
  rw [e]
  have hb := nk_lt (k := k) hall hne h14 hn h15
  refine rv_plainv hp (not_minus hall hne) ?_ hb
  have es : sgnd [43] k = (k : Int) := rfl
  rw [es]
  have := valpos hall (by omega) (j := k) (by omega) (by rw [hn]; exact hb)
  rw [hn] at this
  exact this
theorem whole6 {D : List UInt8} {n k : Nat} (hall : D.all isD = true) (hne : D ≠ []) (h14 : D.length ≤ 14) (hn : dval D = n) (h15 : D.length + k ≤ 15) : rv (D ++ List.replicate k 48) = W (n * 10 ^ k) := by
  have hz := zall (k := k) hall hne h14 hn
  have hzne : D ++ List.replicate k 48 ≠ [] := by simp [hne]
  have hp := plainD_B hz hzne (ep := []) (.inl rfl)
  rw [List.append_nil, expoD_nil] at hp
  have hm := not_minus (r := []) hz hzne
  rw [List.append_nil] at hm
  have hb := nk_lt (k := k) hall hne h14 hn h15
  refine rv_plainv hp hm ?_ hb
  rw [val0 hz (by simp; omega), dval_zs, hn]
theorem zs10 (k : Nat) (h : k ≤ 10) : (⟨#[48, 48, 48, 48, 48, 48, 48, 48, 48, 48]⟩ : ByteArray).extract 0 k = mkb (List.replicate k 48) := by
  have e : (⟨#[48, 48, 48, 48, 48, 48, 48, 48, 48, 48]⟩ : ByteArray) = mkb (List.replicate 10 48) := rfl
  rw [e, mkb_extract, List.drop_zero, List.take_replicate]
  congr 2
  omega
theorem mod_step (n j : Nat) : n % 10 ^ (j + 1) = n / 10 ^ j % 10 * 10 ^ j + n % 10 ^ j := by
  rw [Nat.pow_succ, Nat.mod_mul, Nat.add_comm, Nat.mul_comm]
theorem div_step (n j : Nat) : n / 10 ^ (j + 1) = n / 10 ^ j / 10 := by rw [Nat.pow_succ, Nat.div_div_eq_div_mul]
end Go.Proofs.YtocgknhpecobfaaDoor
