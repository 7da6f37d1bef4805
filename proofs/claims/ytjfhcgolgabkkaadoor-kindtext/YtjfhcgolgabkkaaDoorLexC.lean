/- The contract of lex.One. -/
import Derived.Test.YtjfhcgolgabkkaaDoorLexB
namespace Go.Proofs.YtjfhcgolgabkkaaDoor
open Go.RowKit
set_option linter.unusedVariables false

theorem sh_at (l : List UInt8) (k : Nat) (h : k ≤ l.length) : Sc.numA l k = ⟨(Sc.numA (l.drop k) 0).k, (k : Int) + (((Sc.numA (l.drop k) 0).e.toNat : Nat) : Int), (Sc.numA (l.drop k) 0).b⟩ := by
  have h1 := Sc.num_sh (Sc.sh_drop l k h) (j := 0) (Int.le_refl _)
  rw [Int.zero_add] at h1
  rw [h1]
  have h2 := (num0 (l.drop k)).1
  unfold Sc.shift
  congr 1
  omega
theorem str_at (l : List UInt8) (k : Nat) : strA l k = strA (l.drop k) 0 := by
  unfold strA
  simp [List.drop_drop]
theorem raw_at (l : List UInt8) (k : Nat) (h : k ≤ l.length) : Fo.rawA l k = Fo.rawA (l.drop k) 0 := by
  cases e : Fo.stB l k Fo.q3 with
  | false =>
    have e2 : Fo.stB (l.drop k) 0 Fo.q3 = false := by
      rw [Fo.stB_at h] at e
      rw [show (0 : Int) = ((0 : Nat) : Int) from rfl, Fo.stB_at (Nat.zero_le _), List.drop_zero]; exact e
    rw [Fo.rawA_no e, Fo.rawA_no e2]
  | true =>
    have e2 : Fo.stB (l.drop k) ((0 : Nat) : Int) Fo.q3 = true := by
      rw [Fo.stB_at h] at e
      rw [Fo.stB_at (Nat.zero_le _), List.drop_zero]; exact e
    rw [Fo.rawA_at e, show (0 : Int) = ((0 : Nat) : Int) from rfl, Fo.rawA_at e2]
    simp [List.drop_drop]

/-- One, at a place of the text. -/
theorem one_at {s : ByteArray} {k : Nat} {t : Tk} (hs : s.size ≤ 1000000) (hk : k < s.size) (ht : tk (s.data.toList.drop k) = t) (w : World) :
    Calls Tryd.prog 31 #[.string s, .int .i64 k] w fun r w' => r = oneE t k ∧ Below w.heap.size w w' := by
  have hl : k < s.data.toList.length := by rw [← Lib.size_eq]; exact hk
  have hd : s.data.toList.drop k = s[k] :: s.data.toList.drop (k + 1) := List.drop_eq_getElem_cons hl
  have hw := way (s[k]) (s.data.toList.drop k)
  have htk : tkC (s[k]) (s.data.toList.drop k) = t := by rw [← ht, hd]; rfl
  rw [htk] at hw
  clear htk ht
  have k0 : (k : Int) + ((0 : Nat) : Int) = (k : Int) := by omega
  cases hw with
  | dots h1 h2 =>
    have := one_dots hs hk rfl h1 h2 w
    rw [show (s.data.toList.drop k).take 3 = d3 from Fo.pre_take.1 h2] at this
    exact this
  | dot h1 h2 => rw [oneE_no (by decide)]; show Calls _ _ _ _ fun r w' => r = tokE 0 ⟨#[]⟩ 0 0 2 ((k : Int) + ((0 : Nat) : Int)) ∧ _; rw [k0]; exact one_dot hs hk rfl h1 h2 w
  | sign h1 h2 =>
    have := one_sign hs hk rfl h1 h2 w
    rw [show (s.data.toList.drop k).take 1 = [s[k]] by rw [hd]; rfl] at this
    exact this
  | name h1 h2 h3 => exact one_name hs hk rfl h1 h2 h3 rfl w
  | num h1 h2 h3 h4 =>
    have hn := sh_at s.data.toList k (by omega)
    have h0 := num0 (s.data.toList.drop k)
    rw [List.length_drop, ← Lib.size_eq] at h0
    cases hb : (Sc.numA (s.data.toList.drop k) 0).b
    · rw [hb] at hn
      rw [show tkNum (s.data.toList.drop k) = ⟨0, [], (Sc.numA (s.data.toList.drop k) 0).e.toNat, 3⟩ by unfold tkNum; rw [if_neg (by rw [hb]; decide)], oneE_no (by simp)]
      exact one_num_no hs hk rfl h1 h2 h3 h4 hn w
    · rw [hb] at hn
      rw [show tkNum (s.data.toList.drop k) = ⟨(Sc.numA (s.data.toList.drop k) 0).k, (s.data.toList.drop k).take (Sc.numA (s.data.toList.drop k) 0).e.toNat, (Sc.numA (s.data.toList.drop k) 0).e.toNat, 0⟩ by unfold tkNum; rw [if_pos hb]]
      exact one_num_ok hs hk rfl h1 h2 h3 h4 hn (by omega) w
  | raw h1 h2 =>
    have hn := raw_at s.data.toList k (by omega)
    unfold tkRaw
    generalize Fo.rawA (s.data.toList.drop k) 0 = R at *
    obtain ⟨v, n, b⟩ := R
    cases b
    · rw [if_neg (by simp), oneE_no (by simp)]
      exact one_raw_no hs hk rfl h1 h2 hn w
    · rw [if_pos rfl]
      exact one_raw_ok hs hk rfl h1 h2 hn w
  | str h1 h2 =>
    have hn := str_at s.data.toList k
    unfold tkStr
    generalize strA (s.data.toList.drop k) 0 = R at *
    obtain ⟨v, n, b⟩ := R
    cases b
    · rw [if_neg (by simp), oneE_no (by simp)]
      exact one_str_no hs hk rfl h1 h2 hn w
    · rw [if_pos rfl]
      exact one_str_ok hs hk rfl h1 h2 hn w
  | bad h1 h2 h3 h4 h5 => rw [oneE_no (by decide)]; show Calls _ _ _ _ fun r w' => r = tokE 0 ⟨#[]⟩ 0 0 2 ((k : Int) + ((0 : Nat) : Int)) ∧ _; rw [k0]; exact one_bad hs hk rfl h1 h2 h3 h4 h5 w
end Go.Proofs.YtjfhcgolgabkkaaDoor
