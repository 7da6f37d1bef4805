/- Printing (plain mathematics). -/
import Derived.Test.YtfcjihfnimefhaaSpaM
namespace Go.Proofs.Ytfcjihfnimefhaa
set_option linter.unusedVariables false
set_option maxRecDepth 100000

/-! ### Printing -/
/-- What is told, the indent, the column, what is due, up to where it is flat. -/
structure Pg where
  out : List UInt8
  ind : Int
  col : Int
  due : Int
  fl : Int
def pg0 : Pg := ⟨[], 0, 0, 0, -1⟩
def putF (p : Pg) (s : ByteArray) : Pg := if s.size = 0 then p else ⟨p.out ++ (List.replicate p.due.toNat 32 ++ s.data.toList), p.ind, p.col + cols s.data.toList, 0, p.fl⟩
def lineF (p : Pg) : Pg := ⟨p.out ++ [10], p.ind, p.ind, p.ind, p.fl⟩
/-- One bit at place i, that needs n, and ends at m. -/
def bitF (w n m i : Int) (b : Bq) (p : Pg) : Pg :=
  if b.m = 6 then (if p.fl = -1 ∧ 0 ≤ n ∧ p.col + n ≤ w then ⟨p.out, p.ind, p.col, p.due, m⟩ else p)
  else if b.m = 7 then (if p.fl = i then ⟨p.out, p.ind, p.col, p.due, -1⟩ else p)
  else if b.m = 8 then ⟨p.out, p.ind + 2, p.col, p.due, p.fl⟩
  else if b.m = 9 then ⟨p.out, p.ind - 2, p.col, p.due, p.fl⟩
  else if brF b.m = true ∧ (p.fl = -1 ∨ b.m = 5) then lineF p
  else putF p (flV b)
noncomputable def mtc (l : List Bq) (i : Nat) : Int := Classical.choose (mtA_ex l i)
theorem mtc_spec (l : List Bq) (i : Nat) : MtA l i (mtc l i) := Classical.choose_spec (mtA_ex l i)
noncomputable def nec (l : List Bq) (i : Nat) : Int := Classical.choose (neA_ex l i)
theorem nec_spec (l : List Bq) (i : Nat) : NeA l i (nec l i) := Classical.choose_spec (neA_ex l i)
/-- Behind the first k. -/
noncomputable def pgs (l : List Bq) (w : Int) : Nat → Pg
  | 0 => pg0
  | k + 1 => match l[k]? with
    | some b => bitF w (nec l k) (mtc l k) k b (pgs l w k)
    | none => pgs l w k
theorem pgs_next {l : List Bq} {w : Int} {k : Nat} {b : Bq} (h : l[k]? = some b) : pgs l w (k + 1) = bitF w (nec l k) (mtc l k) k b (pgs l w k) := by
  rw [pgs, h]

/-! ### The marks, one by one -/
theorem bitF_open {w n m i : Int} {b : Bq} {p : Pg} (h : b.m = 6) (h1 : p.fl = -1) (h2 : 0 ≤ n) (h3 : p.col + n ≤ w) : bitF w n m i b p = ⟨p.out, p.ind, p.col, p.due, m⟩ := by
  rw [bitF, if_pos h, if_pos ⟨h1, h2, h3⟩]
theorem bitF_open_no {w n m i : Int} {b : Bq} {p : Pg} (h : b.m = 6) (h1 : ¬ (p.fl = -1 ∧ 0 ≤ n ∧ p.col + n ≤ w)) : bitF w n m i b p = p := by
  rw [bitF, if_pos h, if_neg h1]
theorem bitF_close {w n m i : Int} {b : Bq} {p : Pg} (h : b.m = 7) (h1 : p.fl = i) : bitF w n m i b p = ⟨p.out, p.ind, p.col, p.due, -1⟩ := by
  rw [bitF, if_neg (by omega), if_pos h, if_pos h1]
theorem bitF_close_no {w n m i : Int} {b : Bq} {p : Pg} (h : b.m = 7) (h1 : p.fl ≠ i) : bitF w n m i b p = p := by
  rw [bitF, if_neg (by omega), if_pos h, if_neg h1]
theorem bitF_in {w n m i : Int} {b : Bq} {p : Pg} (h : b.m = 8) : bitF w n m i b p = ⟨p.out, p.ind + 2, p.col, p.due, p.fl⟩ := by
  rw [bitF, if_neg (by omega), if_neg (by omega), if_pos h]
theorem bitF_out {w n m i : Int} {b : Bq} {p : Pg} (h : b.m = 9) : bitF w n m i b p = ⟨p.out, p.ind - 2, p.col, p.due, p.fl⟩ := by
  rw [bitF, if_neg (by omega), if_neg (by omega), if_neg (by omega), if_pos h]
theorem brF_iff (m : Int) : brF m = true ↔ (m = 2 ∨ m = 3 ∨ m = 4 ∨ m = 5) := by rw [brF, decide_eq_true_eq]
theorem bitF_line {w n m i : Int} {b : Bq} {p : Pg} (h : brF b.m = true) (h1 : p.fl = -1 ∨ b.m = 5) : bitF w n m i b p = lineF p := by
  have := (brF_iff _).1 h
  rw [bitF, if_neg (by omega), if_neg (by omega), if_neg (by omega), if_neg (by omega), if_pos ⟨h, h1⟩]
theorem bitF_put {w n m i : Int} {b : Bq} {p : Pg} (h6 : b.m ≠ 6) (h7 : b.m ≠ 7) (h8 : b.m ≠ 8) (h9 : b.m ≠ 9) (h : ¬ (brF b.m = true ∧ (p.fl = -1 ∨ b.m = 5))) : bitF w n m i b p = putF p (flV b) := by
  rw [bitF, if_neg h6, if_neg h7, if_neg h8, if_neg h9, if_neg h]
/-- One of all ways. -/
theorem bitF_ways (w n m i : Int) (b : Bq) (p : Pg) :
    (b.m = 6 ∧ (p.fl = -1 ∧ 0 ≤ n ∧ p.col + n ≤ w) ∧ bitF w n m i b p = ⟨p.out, p.ind, p.col, p.due, m⟩) ∨
    (b.m = 6 ∧ ¬ (p.fl = -1 ∧ 0 ≤ n ∧ p.col + n ≤ w) ∧ bitF w n m i b p = p) ∨
    (b.m = 7 ∧ p.fl = i ∧ bitF w n m i b p = ⟨p.out, p.ind, p.col, p.due, -1⟩) ∨
    (b.m = 7 ∧ p.fl ≠ i ∧ bitF w n m i b p = p) ∨
    (b.m = 8 ∧ bitF w n m i b p = ⟨p.out, p.ind + 2, p.col, p.due, p.fl⟩) ∨
    (b.m = 9 ∧ bitF w n m i b p = ⟨p.out, p.ind - 2, p.col, p.due, p.fl⟩) ∨
    (brF b.m = true ∧ (p.fl = -1 ∨ b.m = 5) ∧ bitF w n m i b p = lineF p) ∨
    (b.m ≠ 6 ∧ b.m ≠ 7 ∧ b.m ≠ 8 ∧ b.m ≠ 9 ∧ ¬ (brF b.m = true ∧ (p.fl = -1 ∨ b.m = 5)) ∧ bitF w n m i b p = putF p (flV b)) := by
  by_cases h6 : b.m = 6
  · by_cases h : p.fl = -1 ∧ 0 ≤ n ∧ p.col + n ≤ w
    · exact .inl ⟨h6, h, bitF_open h6 h.1 h.2.1 h.2.2⟩
    · exact .inr (.inl ⟨h6, h, bitF_open_no h6 h⟩)
  · by_cases h7 : b.m = 7
    · by_cases h : p.fl = i
      · exact .inr (.inr (.inl ⟨h7, h, bitF_close h7 h⟩))
      · exact .inr (.inr (.inr (.inl ⟨h7, h, bitF_close_no h7 h⟩)))
    · by_cases h8 : b.m = 8
      · exact .inr (.inr (.inr (.inr (.inl ⟨h8, bitF_in h8⟩))))
      · by_cases h9 : b.m = 9
        · exact .inr (.inr (.inr (.inr (.inr (.inl ⟨h9, bitF_out h9⟩)))))
        · by_cases h : brF b.m = true ∧ (p.fl = -1 ∨ b.m = 5)
          · exact .inr (.inr (.inr (.inr (.inr (.inr (.inl ⟨h.1, h.2, bitF_line h.1 h.2⟩))))))
          · exact .inr (.inr (.inr (.inr (.inr (.inr (.inr ⟨h6, h7, h8, h9, h, bitF_put h6 h7 h8 h9 h⟩))))))

/-! ### What holds all along -/
/-- By how much bits go in. -/
def iS : List Bq → Int
  | [] => 0
  | b :: l => dI b.m + iS l
theorem iS_app (a b : List Bq) : iS (a ++ b) = iS a + iS b := by
  induction a with
  | nil => simp [iS]
  | cons x a ih => rw [List.cons_append, iS, iS, ih]; omega
theorem iS_next {l : List Bq} {k : Nat} {b : Bq} (h : l[k]? = some b) : iS (l.take (k + 1)) = iS (l.take k) + dI b.m := by
  rw [List.take_add_one, h, iS_app, Option.toList_some]; simp [iS]
theorem mayF_in {l : List Bq} : ∀ {o i : Int}, mayF o i l = true → 0 ≤ i → i + iS l = 0 ∧ ∀ k, 0 ≤ i + iS (l.take k) := by
  induction l with
  | nil =>
    intro o i h h0
    rw [mayF, Bool.and_eq_true, beq_iff_eq, beq_iff_eq] at h
    refine ⟨by rw [h.2]; rfl, fun k => ?_⟩
    rw [List.take_nil]; simp [iS]; exact h0
  | cons b l ih =>
    intro o i h h0
    obtain ⟨-, -, h3, h4⟩ := mayF_parts h
    obtain ⟨e1, e2⟩ := ih h4 h3
    refine ⟨by rw [iS]; omega, fun k => ?_⟩
    cases k with
    | zero => simp [iS]; exact h0
    | succ k => have := e2 k; rw [List.take_succ_cons, iS]; omega
theorem mayF_ok {l : List Bq} : ∀ {o i : Int}, mayF o i l = true → ∀ b ∈ l, okB b = true := by
  induction l with
  | nil => intro o i _ b hb; cases hb
  | cons x l ih =>
    intro o i h b hb
    obtain ⟨h1, -, -, h4⟩ := mayF_parts h
    rcases List.mem_cons.1 hb with rfl | hb
    · exact h1
    · exact ih h4 b hb
/-- Bytes of all texts. -/
def vS : List Bq → Nat
  | [] => 0
  | b :: l => b.v.size + vS l
theorem vS_app (a b : List Bq) : vS (a ++ b) = vS a + vS b := by
  induction a with
  | nil => simp [vS]
  | cons x a ih => rw [List.cons_append, vS, vS, ih]; omega
theorem vS_next {l : List Bq} {k : Nat} {b : Bq} (h : l[k]? = some b) : vS (l.take (k + 1)) = vS (l.take k) + b.v.size := by
  rw [List.take_add_one, h, vS_app, Option.toList_some]; simp [vS]
theorem vS_le (l : List Bq) (k : Nat) : vS (l.take k) ≤ vS l := by
  have := congrArg vS (List.take_append_drop k l)
  rw [vS_app] at this
  omega
theorem flV_le (b : Bq) : (flV b).size ≤ b.v.size + 2 := by
  unfold flV flF
  repeat' split
  · exact Nat.le_add_right _ _
  · exact Nat.le_trans (of_decide_eq_true rfl) (Nat.le_add_left 2 _)
  · exact Nat.le_trans (of_decide_eq_true rfl) (Nat.le_add_left 2 _)
  · exact Nat.le_trans (of_decide_eq_true rfl) (Nat.le_add_left 2 _)
  · exact Nat.le_trans (of_decide_eq_true rfl) (Nat.le_add_left 2 _)
structure PgI (l : List Bq) (k : Nat) (p : Pg) : Prop where
  ind : p.ind = 2 * iS (l.take k)
  ind0 : 0 ≤ p.ind
  indk : p.ind ≤ 2 * k
  col0 : 0 ≤ p.col
  colk : p.col ≤ ((1000 * k + vS (l.take k) : Nat) : Int)
  due0 : 0 ≤ p.due
  duek : p.due ≤ 2 * k
  outk : p.out.length ≤ 1000 * k + vS (l.take k)
  fl : p.fl = -1 ∨ ∃ o m : Nat, o < k ∧ k ≤ m ∧ p.fl = m ∧ Mt l o m ∧ (bet l o m).all flI = true
theorem PgI.start (l : List Bq) : PgI l 0 pg0 := ⟨by simp [pg0, iS], by decide, by decide, by decide, by simp [pg0], by decide, by decide, by simp [pg0], .inl rfl⟩
theorem dI_le (m : Int) : dI m ≤ 1 := by unfold dI; repeat' split <;> omega
/-- A bit within the group that is flat. -/
theorem flat_in {l : List Bq} {o m k : Nat} {b : Bq} (ho : o < k) (hk : k < m) (hb : l[k]? = some b) (hall : (bet l o m).all flI = true) : flI b = true := by
  rw [List.all_eq_true] at hall
  refine hall b (List.mem_iff_getElem?.2 ⟨k - (o + 1), ?_⟩)
  rw [bet, List.getElem?_drop, show o + 1 + (k - (o + 1)) = k by omega, List.getElem?_take, if_pos hk]
  exact hb
theorem PgI.step {l : List Bq} {w : Int} {k : Nat} {b : Bq} {p : Pg} (hm : mayF 0 0 l = true) (hk : k ≤ 400) (hb : l[k]? = some b) (h : PgI l k p) : PgI l (k + 1) (bitF w (nec l k) (mtc l k) k b p) := by
  obtain ⟨h1, h2, h3, h4, h5, h6, h7, h8, h9⟩ := h
  have hi := iS_next hb
  have hv := vS_next hb
  have hi0 := (mayF_in hm (Int.le_refl 0)).2 (k + 1)
  have hd := dI_le b.m
  -- where it stays flat
  have keep : b.m ≠ 7 → ∀ f : Int, f = p.fl → (f = -1 ∨ ∃ o m : Nat, o < k + 1 ∧ k + 1 ≤ m ∧ f = m ∧ Mt l o m ∧ (bet l o m).all flI = true) := fun h7' f hf => by
    subst hf
    rcases h9 with e | ⟨o, m, g1, g2, g3, g4, g5⟩
    · exact .inl e
    · refine .inr ⟨o, m, by omega, ?_, g3, g4, g5⟩
      rcases Nat.lt_or_ge k m with e | e
      · exact e
      · obtain rfl : k = m := by omega
        obtain ⟨c, hc, hc7⟩ := g4.cl
        rw [hb] at hc
        obtain rfl := Option.some.inj hc
        exact absurd hc7 h7'
  have dO' : ∀ {m : Int}, m ≠ 8 → m ≠ 9 → dI m = 0 := fun a c => by unfold dI; rw [if_neg a, if_neg c]
  rcases bitF_ways w (nec l k) (mtc l k) k b p with ⟨e, c, q⟩ | ⟨e, c, q⟩ | ⟨e, c, q⟩ | ⟨e, c, q⟩ | ⟨e, q⟩ | ⟨e, q⟩ | ⟨e, c, q⟩ | ⟨e6, e7, e8, e9, c, q⟩ <;> rw [q]
  · have d0 : dI b.m = 0 := dO' (by omega) (by omega)
    refine ⟨by simp only; omega, h2, by simp only; omega, h4, by simp only; omega, h6, by simp only; omega, by simp only; omega, .inr ?_⟩
    obtain ⟨m, hmt⟩ := may_mt hm hb e
    have hn := (nec_spec l k).is hmt
    have hall : (bet l k m).all flI = true := by
      cases hx : (bet l k m).all flI
      · rw [ndF_no hx] at hn; omega
      · rfl
    exact ⟨k, m, by omega, hmt.lt, (mtc_spec l k).is hmt, hmt, hall⟩
  · have d0 : dI b.m = 0 := dO' (by omega) (by omega)
    exact ⟨by omega, h2, by omega, h4, by omega, h6, by omega, by omega, keep (by omega) _ rfl⟩
  · have d0 : dI b.m = 0 := dO' (by omega) (by omega)
    exact ⟨by simp only; omega, h2, by simp only; omega, h4, by simp only; omega, h6, by simp only; omega, by simp only; omega, .inl rfl⟩
  · have d0 : dI b.m = 0 := dO' (by omega) (by omega)
    refine ⟨by omega, h2, by omega, h4, by omega, h6, by omega, by omega, ?_⟩
    rcases h9 with e' | ⟨o, m, g1, g2, g3, g4, g5⟩
    · exact .inl e'
    · exact .inr ⟨o, m, by omega, by omega, g3, g4, g5⟩
  · have d0 : dI b.m = 1 := by rw [e]; rfl
    exact ⟨by simp only; omega, by simp only; omega, by simp only; omega, h4, by simp only; omega, h6, by simp only; omega, by simp only; omega, keep (by omega) _ rfl⟩
  · have d0 : dI b.m = -1 := by rw [e]; rfl
    exact ⟨by simp only; omega, by simp only; omega, by simp only; omega, h4, by simp only; omega, h6, by simp only; omega, by simp only; omega, keep (by omega) _ rfl⟩
  · have hbr := (brF_iff _).1 e
    have d0 : dI b.m = 0 := dO' (by omega) (by omega)
    refine ⟨by simp only [lineF]; omega, h2, by simp only [lineF]; omega, h2, by simp only [lineF]; omega, h2, by simp only [lineF]; omega, ?_, keep (by omega) _ rfl⟩
    simp only [lineF, List.length_append, List.length_singleton]; omega
  · have d0 : dI b.m = 0 := dO' e8 e9
    have hs := flV_le b
    have hc := cols_le (flV b).data.toList
    rw [← size_list] at hc
    unfold putF
    split
    · exact ⟨by omega, h2, by omega, h4, by omega, h6, by omega, by omega, keep (by omega) _ rfl⟩
    · refine ⟨by simp only; omega, h2, by simp only; omega, by simp only; omega, by simp only; omega, by simp only; omega, by simp only; omega, ?_, keep (by omega) _ rfl⟩
      simp only [List.length_append, List.length_replicate, ← size_list]; omega
theorem pgs_inv {l : List Bq} (w : Int) (hm : mayF 0 0 l = true) (hl : l.length ≤ 400) : ∀ k, k ≤ l.length → PgI l k (pgs l w k) := by
  intro k
  induction k with
  | zero => intro _; exact PgI.start l
  | succ k ih =>
    intro h
    obtain ⟨b, hb⟩ : ∃ b, l[k]? = some b := ⟨_, List.getElem?_eq_getElem (by omega)⟩
    rw [pgs_next hb]
    exact (ih (by omega)).step hm (by omega) hb
/-- A hard one is in no flat group. -/
theorem PgI.hard {l : List Bq} {k : Nat} {b : Bq} {p : Pg} (h : PgI l k p) (hb : l[k]? = some b) (h5 : b.m = 5) : p.fl = -1 := by
  rcases h.fl with e | ⟨o, m, g1, g2, g3, g4, g5⟩
  · exact e
  · have hkm : k < m := by
      rcases Nat.lt_or_ge k m with e | e
      · exact e
      · obtain rfl : k = m := by omega
        obtain ⟨c, hc, hc7⟩ := g4.cl
        rw [hb] at hc
        obtain rfl := Option.some.inj hc
        omega
    have := flat_in g1 hkm hb g5
    obtain ⟨bm, bv⟩ := b
    dsimp only at h5
    subst h5
    exact absurd this (by simp [flI, flF])
/-- Where it ends to be flat a group closes. -/
theorem PgI.close {l : List Bq} {k : Nat} {b : Bq} {p : Pg} (h : PgI l k p) (hb : l[k]? = some b) (he : p.fl = k) : b.m = 7 := by
  rcases h.fl with e | ⟨o, m, g1, g2, g3, g4, g5⟩
  · omega
  · obtain rfl : m = k := by omega
    obtain ⟨c, hc, hc7⟩ := g4.cl
    rw [hb] at hc
    obtain rfl := Option.some.inj hc
    exact hc7
end Go.Proofs.Ytfcjihfnimefhaa
