/- Columns, what a bit is on one line, where a group ends, what it needs (plain mathematics). -/
import Derived.Test.YtfcjihfnimefhaaBitM
import Derived.Test.YtfcjihfnimefhaaUtfM
namespace Go.Proofs.Ytfcjihfnimefhaa
set_option linter.unusedVariables false
set_option maxRecDepth 100000

/-! ### Columns -/
/-- How many characters: what is none counts by its bytes. -/
def cols (l : List UInt8) : Nat := if _h : l = [] then 0 else cols (l.drop (max (nxt l).2 1)) + 1
termination_by l.length
decreasing_by have := List.length_pos_iff.2 _h; simp; omega
theorem cols_nil : cols [] = 0 := by rw [cols, dif_pos rfl]
theorem cols_go {l : List UInt8} (h : l ≠ []) : cols l = cols (l.drop (max (nxt l).2 1)) + 1 := by rw [cols, dif_neg h]
theorem cols_le (l : List UInt8) : cols l ≤ l.length := by
  induction hn : l.length using Nat.strongRecOn generalizing l with
  | _ n ih =>
    subst hn
    by_cases h : l = []
    · rw [h, cols_nil]; exact Nat.le_refl _
    · have hp := List.length_pos_iff.2 h
      have := ih (l.drop (max (nxt l).2 1)).length (by simp; omega) _ rfl
      rw [cols_go h]
      simp at this
      omega
theorem cols_zero (l : List UInt8) : cols l = 0 ↔ l = [] := by
  constructor
  · intro h
    by_cases e : l = []
    · exact e
    · rw [cols_go e] at h; omega
  · intro e; rw [e, cols_nil]
theorem cols_app {a : List UInt8} (h : thru a = a.length) (b : List UInt8) : cols (a ++ b) = cols a + cols b := by
  induction hn : a.length using Nat.strongRecOn generalizing a with
  | _ n ih =>
    subst hn
    by_cases h0 : (nxt a).2 = 0
    · rw [thru_stop h0] at h
      have : a = [] := List.length_eq_zero_iff.1 h.symm
      subst this
      rw [cols_nil, List.nil_append, Nat.zero_add]
    · have hle := (nxt_le a).1
      have hg := thru_go h0
      have hm : max (nxt a).2 1 = (nxt a).2 := by omega
      have hne : a ≠ [] := fun e => by rw [e, nxt_nil] at h0; exact h0 rfl
      have hne2 : a ++ b ≠ [] := fun e => hne (List.append_eq_nil_iff.1 e).1
      have hlen : (a.drop (nxt a).2).length = a.length - (nxt a).2 := by simp
      rw [cols_go hne2, nxt_append h0, hm, List.drop_append_of_le_length hle, ih (a.drop (nxt a).2).length (by simp; omega) (by simp; omega) rfl, cols_go hne, hm]
      omega
theorem cols_enc {c : Nat} (h : srcB c = true) : cols (enc c) = 1 := by
  have hp := enc_pos c
  have hi : Is (enc c) c := ⟨h, List.prefix_refl _⟩
  rw [cols_go (enc_ne c), nxt_is hi, Nat.max_eq_left hp.1, List.drop_length, cols_nil]
theorem cols_put {r : Int} (h : srcB r = true) : cols (putL r) = 1 := by
  have h0 := (srcB_iff r).1 h
  rw [putL, if_pos h]
  exact cols_enc (by rw [Int.toNat_of_nonneg (by omega)]; exact h)
/-- One step. -/
theorem cols_step {l : List UInt8} {k n : Nat} (hk : k < l.length) (hn : max (nxt (l.drop k)).2 1 = n) : k + n ≤ l.length ∧ cols (l.drop k) = cols (l.drop (k + n)) + 1 := by
  have hne : l.drop k ≠ [] := fun e => by
    have := congrArg List.length e
    simp at this
    omega
  have hle := (nxt_le (l.drop k)).1
  rw [List.length_drop] at hle
  refine ⟨by omega, ?_⟩
  rw [cols_go hne, hn, List.drop_drop]

/-! ### On one line -/
def blK : ByteArray := ⟨#[32]⟩
def cmK : ByteArray := ⟨#[44, 32]⟩
/-- What a bit is on one line. -/
def flF (b : Bq) : Option ByteArray :=
  if b.m = 0 then some b.v else if b.m = 1 ∨ b.m = 2 then some blK else if b.m = 4 then some cmK else if b.m = 3 ∨ b.m = 6 ∨ b.m = 7 ∨ b.m = 8 ∨ b.m = 9 then some noV else none
def flV (b : Bq) : ByteArray := (flF b).getD noV
def flI (b : Bq) : Bool := (flF b).isSome
/-- Does it break? -/
def brF (m : Int) : Bool := decide (m = 2 ∨ m = 3 ∨ m = 4 ∨ m = 5)
/-- Its columns. -/
def colB (b : Bq) : Nat := cols (flV b).data.toList
/-- No text is larger than the machine's reach. -/
def SzB (l : List Bq) : Prop := ∀ b ∈ l, b.v.size ≤ 140737488351232
theorem size_list (v : ByteArray) : v.size = v.data.toList.length := by rw [Array.length_toList]; rfl
theorem flV_size (b : Bq) (h : b.v.size ≤ 140737488351232) : (flV b).size ≤ 140737488351232 := by
  unfold flV flF
  repeat' split
  · exact h
  all_goals exact of_decide_eq_true rfl
theorem colB_le (b : Bq) (h : b.v.size ≤ 140737488351232) : colB b ≤ 140737488351232 := by
  have := cols_le (flV b).data.toList
  have := flV_size b h
  rw [size_list] at this
  unfold colB
  omega
/-- Columns of all. -/
def colS : List Bq → Nat
  | [] => 0
  | b :: l => colB b + colS l
theorem colS_app (a b : List Bq) : colS (a ++ b) = colS a + colS b := by
  induction a with
  | nil => simp [colS]
  | cons x a ih => rw [List.cons_append, colS, colS, ih]; omega
theorem colS_le {l : List Bq} (h : SzB l) : colS l ≤ l.length * 140737488351232 := by
  induction l with
  | nil => exact Nat.zero_le _
  | cons b l ih =>
    have h1 := colB_le b (h b (List.mem_cons_self ..))
    have h2 := ih fun x hx => h x (List.mem_cons_of_mem _ hx)
    rw [colS, List.length_cons, Nat.add_mul]
    omega
/-- Behind, up to the first that breaks. -/
def beF : List Bq → Nat
  | [] => 0
  | b :: l => if brF b.m = true then 0 else colB b + beF l
theorem beF_le (l : List Bq) : beF l ≤ colS l := by
  induction l with
  | nil => exact Nat.le_refl _
  | cons b l ih => rw [beF, colS]; split <;> omega
theorem SzB.take {l : List Bq} (h : SzB l) (k : Nat) : SzB (l.take k) := fun b hb => h b (List.mem_of_mem_take hb)
theorem SzB.drop {l : List Bq} (h : SzB l) (k : Nat) : SzB (l.drop k) := fun b hb => h b (List.mem_of_mem_drop hb)
theorem SzB.app {a b : List Bq} (h : SzB a) (k : SzB b) : SzB (a ++ b) := fun x hx => (List.mem_append.1 hx).elim (h x) (k x)

/-! ### Where a group ends -/
/-- By how much bits open. -/
def oS : List Bq → Int
  | [] => 0
  | b :: l => dO b.m + oS l
theorem oS_app (a b : List Bq) : oS (a ++ b) = oS a + oS b := by
  induction a with
  | nil => simp [oS]
  | cons x a ih => rw [List.cons_append, oS, oS, ih]; omega
theorem oS_one (b : Bq) : oS [b] = dO b.m := by simp [oS]
theorem oS_next {l : List Bq} {k : Nat} {b : Bq} (h : l[k]? = some b) : oS (l.take (k + 1)) = oS (l.take k) + dO b.m := by
  rw [List.take_add_one, h, oS_app, Option.toList_some, oS_one]
theorem dO_cases (m : Int) : (m = 6 ∧ dO m = 1) ∨ (m = 7 ∧ dO m = -1) ∨ (m ≠ 6 ∧ m ≠ 7 ∧ dO m = 0) := by
  unfold dO
  by_cases h6 : m = 6
  · exact .inl ⟨h6, by rw [if_pos h6]⟩
  · by_cases h7 : m = 7
    · exact .inr (.inl ⟨h7, by rw [if_neg h6, if_pos h7]⟩)
    · exact .inr (.inr ⟨h6, h7, by rw [if_neg h6, if_neg h7]⟩)
/-- The group at i ends at m. -/
structure Mt (l : List Bq) (i m : Nat) : Prop where
  op : ∃ b, l[i]? = some b ∧ b.m = 6
  lt : i < m
  cl : ∃ b, l[m]? = some b ∧ b.m = 7
  eq : oS (l.take (m + 1)) = oS (l.take i)
  gt : ∀ j, i < j → j ≤ m → oS (l.take i) < oS (l.take j)
theorem Mt.len {l : List Bq} {i m : Nat} (h : Mt l i m) : m < l.length := by
  obtain ⟨b, hb, _⟩ := h.cl
  exact (List.getElem?_eq_some_iff.1 hb).1
theorem Mt.one {l : List Bq} {i m m' : Nat} (h : Mt l i m) (k : Mt l i m') : m = m' := by
  have h1 : ¬ m < m' := fun e => by have := k.gt (m + 1) (by have := h.lt; omega) (by omega); have := h.eq; omega
  have h2 : ¬ m' < m := fun e => by have := h.gt (m' + 1) (by have := k.lt; omega) (by omega); have := k.eq; omega
  omega
/-- Behind one that opens: until less is open again. -/
theorem mt_found {l : List Bq} {i m : Nat} {b c : Bq} (hi : l[i]? = some b) (h6 : b.m = 6) (him : i ≤ m) (hm : l[m]? = some c) (hgt : ∀ j, i < j → j ≤ m → oS (l.take i) < oS (l.take j)) (he : oS (l.take (m + 1)) ≤ oS (l.take i)) : Mt l i m := by
  have hlt : i < m := by
    rcases Nat.lt_or_ge i m with h | h
    · exact h
    · obtain rfl : i = m := by omega
      rw [oS_next hi, h6] at he
      simp [dO] at he
      omega
  have hn := oS_next hm
  have hg := hgt m hlt (Nat.le_refl _)
  rcases dO_cases c.m with ⟨e, d⟩ | ⟨e, d⟩ | ⟨e1, e2, d⟩
  · omega
  · exact ⟨⟨b, hi, h6⟩, hlt, ⟨c, hm, e⟩, by omega, hgt⟩
  · omega
theorem least_le (l : List Bq) (i : Nat) : ∀ e, i < e → e ≤ l.length → oS (l.take e) ≤ oS (l.take i) → ∃ j, i < j ∧ j ≤ e ∧ oS (l.take j) ≤ oS (l.take i) ∧ ∀ k, i < k → k < j → oS (l.take i) < oS (l.take k) := by
  intro e
  induction e using Nat.strongRecOn with
  | _ e ih =>
    intro h1 h2 h3
    by_cases h : ∃ k, i < k ∧ k < e ∧ oS (l.take k) ≤ oS (l.take i)
    · obtain ⟨k, k1, k2, k3⟩ := h
      obtain ⟨j, j1, j2, j3, j4⟩ := ih k k2 k1 (by omega) k3
      exact ⟨j, j1, by omega, j3, j4⟩
    · refine ⟨e, h1, Nat.le_refl _, h3, fun k k1 k2 => ?_⟩
      rcases Int.lt_or_le (oS (l.take i)) (oS (l.take k)) with h' | h'
      · exact h'
      · exact absurd ⟨k, k1, k2, h'⟩ h
theorem mt_below {l : List Bq} {i e : Nat} {b : Bq} (hi : l[i]? = some b) (h6 : b.m = 6) (he : i < e) (hl : e ≤ l.length) (h : oS (l.take e) ≤ oS (l.take i)) : ∃ m, m < e ∧ Mt l i m := by
  obtain ⟨j, j1, j2, j3, j4⟩ := least_le l i e he hl h
  obtain ⟨m, rfl⟩ : ∃ m, j = m + 1 := ⟨j - 1, by omega⟩
  obtain ⟨c, hc⟩ : ∃ c, l[m]? = some c := ⟨_, List.getElem?_eq_getElem (by omega)⟩
  exact ⟨m, by omega, mt_found hi h6 (by omega) hc (fun k k1 k2 => j4 k k1 (by omega)) j3⟩
/-- What may be printed. -/
theorem mayF_sum {l : List Bq} : ∀ {o i : Int}, mayF o i l = true → o + oS l = 0 ∧ ∀ k, 0 ≤ o + oS (l.take k) ∨ k = 0 := by
  induction l with
  | nil =>
    intro o i h
    rw [mayF, Bool.and_eq_true, beq_iff_eq, beq_iff_eq] at h
    refine ⟨by rw [h.1]; rfl, fun k => .inl ?_⟩
    rw [h.1, List.take_nil]; exact Int.le_refl _
  | cons b l ih =>
    intro o i h
    obtain ⟨-, h2, -, h4⟩ := mayF_parts h
    obtain ⟨e1, e2⟩ := ih h4
    refine ⟨by rw [oS]; omega, fun k => ?_⟩
    cases k with
    | zero => exact .inr rfl
    | succ k =>
      refine .inl ?_
      rw [List.take_succ_cons, oS]
      rcases e2 k with h | h
      · omega
      · subst h; rw [List.take_zero, oS]; omega
theorem may_mt {l : List Bq} (h : mayF 0 0 l = true) {i : Nat} {b : Bq} (hi : l[i]? = some b) (h6 : b.m = 6) : ∃ m, Mt l i m := by
  obtain ⟨e1, e2⟩ := mayF_sum h
  have hl := (List.getElem?_eq_some_iff.1 hi).1
  have h0 : 0 ≤ oS (l.take i) := by
    rcases e2 i with h | h
    · omega
    · subst h; simp [oS]
  obtain ⟨m, _, hm⟩ := mt_below hi h6 hl (Nat.le_refl _) (by rw [List.take_length]; omega)
  exact ⟨m, hm⟩
/-- Groups in groups. -/
theorem mt_sub {l : List Bq} {i m k : Nat} {b : Bq} (h : Mt l i m) (h1 : i < k) (h2 : k < m) (hk : l[k]? = some b) (h6 : b.m = 6) : ∃ n, n < m ∧ Mt l k n := by
  have hg := h.gt k h1 (by omega)
  obtain ⟨n, hn, hm⟩ := mt_below hk h6 (e := m + 1) (by omega) h.len (by rw [h.eq]; omega)
  refine ⟨n, ?_, hm⟩
  rcases Nat.lt_or_ge n m with h' | h'
  · exact h'
  · obtain rfl : n = m := by omega
    have := hm.eq
    have := h.eq
    omega
theorem mt_in {l : List Bq} {i m k n : Nat} (h : Mt l i m) (g : Mt l k n) (h1 : i < k) (h2 : k < m) : n < m := by
  obtain ⟨b, hb, h6⟩ := g.op
  obtain ⟨n', hn, hm⟩ := mt_sub h h1 h2 hb h6
  rw [g.one hm]; exact hn
theorem mt_apart {l : List Bq} {i m k n : Nat} (h : Mt l i m) (g : Mt l k n) : (k = i ∨ n ≠ m) ∧ (¬ (i < k ∧ k < m) ∨ n < m) ∧ (i < k ∨ k = i ∨ n < i ∨ m < n) := by
  have hne : ∀ {a b : Nat}, Mt l a b → Mt l b n → False := fun x y => by
    obtain ⟨b1, hb1, e1⟩ := x.cl
    obtain ⟨b2, hb2, e2⟩ := y.op
    rw [hb1] at hb2
    obtain rfl := Option.some.inj hb2
    omega
  have hl := h.lt
  have gl := g.lt
  rcases Nat.lt_trichotomy k i with e | e | e
  · have h1 : n < i ∨ m < n := by
      rcases Nat.lt_trichotomy n i with e1 | e1 | e1
      · exact .inl e1
      · subst e1
        obtain ⟨b1, hb1, f1⟩ := g.cl
        obtain ⟨b2, hb2, f2⟩ := h.op
        rw [hb1] at hb2
        obtain rfl := Option.some.inj hb2
        omega
      · exact .inr (mt_in g h e e1)
    exact ⟨.inr (by omega), .inl (by omega), by omega⟩
  · subst e
    exact ⟨.inl rfl, .inl (by omega), .inr (.inl rfl)⟩
  · by_cases e2 : k < m
    · have := mt_in h g e e2
      exact ⟨.inr (by omega), .inr this, .inl e⟩
    · by_cases e3 : k = m
      · subst e3; exact (hne h g).elim
      · exact ⟨.inr (by omega), .inl (by omega), .inl e⟩
theorem mt_cons (x : Bq) {l : List Bq} {i m : Nat} : Mt (x :: l) (i + 1) (m + 1) ↔ Mt l i m := by
  have e : ∀ k, oS ((x :: l).take (k + 1)) = dO x.m + oS (l.take k) := fun k => by rw [List.take_succ_cons, oS]
  constructor
  · rintro ⟨h1, h2, h3, h4, h5⟩
    rw [e, e] at h4
    refine ⟨by simpa using h1, by omega, by simpa using h3, by omega, fun j j1 j2 => ?_⟩
    have := h5 (j + 1) (by omega) (by omega)
    rw [e, e] at this
    omega
  · rintro ⟨h1, h2, h3, h4, h5⟩
    refine ⟨by simpa using h1, by omega, by simpa using h3, by rw [e, e]; omega, fun j j1 j2 => ?_⟩
    obtain ⟨k, rfl⟩ : ∃ k, j = k + 1 := ⟨j - 1, by omega⟩
    have := h5 k (by omega) (by omega)
    rw [e, e]
    omega
/-- The same up to the end. -/
theorem mt_same {l X : List Bq} {i m : Nat} (h : Mt l i m) (hX : X.take (m + 1) = l.take (m + 1)) : Mt X i m := by
  have hat : ∀ j, j ≤ m → X[j]? = l[j]? := fun j hj => by
    have := congrArg (fun z => z[j]?) hX
    simp only [List.getElem?_take, if_pos (show j < m + 1 by omega)] at this
    exact this
  have htk : ∀ j, j ≤ m + 1 → X.take j = l.take j := fun j hj => by
    have := congrArg (List.take j) hX
    rw [List.take_take, List.take_take, Nat.min_eq_left hj] at this
    exact this
  have hl := h.lt
  obtain ⟨h1, h2, h3, h4, h5⟩ := h
  refine ⟨by rw [hat i (by omega)]; exact h1, h2, by rw [hat m (Nat.le_refl _)]; exact h3, by rw [htk _ (Nat.le_refl _), htk i (by omega)]; exact h4, fun j j1 j2 => ?_⟩
  rw [htk i (by omega), htk j (by omega)]
  exact h5 j j1 j2
/-- One more within. -/
theorem mt_more {l : List Bq} {i m k : Nat} {b : Bq} (h : Mt l i m) (h1 : i < k) (h2 : k ≤ m) (hb : dO b.m = 0) : Mt (l.take k ++ b :: l.drop k) i (m + 1) := by
  have hlen := h.len
  have hk : (l.take k).length = k := by rw [List.length_take]; omega
  have lo : ∀ j, j ≤ k → (l.take k ++ b :: l.drop k).take j = l.take j := fun j hj => by
    rw [List.take_append_of_le_length (by omega), List.take_take, Nat.min_eq_left hj]
  have hi : ∀ j, k ≤ j → oS ((l.take k ++ b :: l.drop k).take (j + 1)) = oS (l.take j) := fun j hj => by
    rw [List.take_append, hk, List.take_of_length_le (by omega), show j + 1 - k = (j - k) + 1 by omega, List.take_succ_cons, oS_app, oS, hb]
    have : l.take j = l.take k ++ (l.drop k).take (j - k) := by
      rw [← List.take_add, show k + (j - k) = j by omega]
    rw [this, oS_app]; omega
  obtain ⟨c, hc, h7⟩ := h.cl
  obtain ⟨a, ha, h6⟩ := h.op
  refine ⟨⟨a, ?_, h6⟩, by have := h.lt; omega, ⟨c, ?_, h7⟩, ?_, fun j j1 j2 => ?_⟩
  · rw [List.getElem?_append_left (by omega), List.getElem?_take, if_pos h1]; exact ha
  · rw [List.getElem?_append_right (by omega), hk, show m + 1 - k = (m - k) + 1 by omega, List.getElem?_cons_succ, List.getElem?_drop, show k + (m - k) = m by omega]; exact hc
  · rw [hi (m + 1) (by omega), lo i (by omega)]; exact h.eq
  · rw [lo i (by omega)]
    rcases Nat.lt_or_ge k j with e | e
    · obtain ⟨j', rfl⟩ : ∃ j', j = j' + 1 := ⟨j - 1, by omega⟩
      rw [hi j' (by omega)]
      exact h.gt j' (by omega) (by omega)
    · rw [lo j e]
      exact h.gt j j1 (by omega)

/-- What Match answers. -/
def MtA (l : List Bq) (i r : Int) : Prop := (∃ j m : Nat, i = j ∧ r = m ∧ Mt l j m) ∨ (r = -1 ∧ ∀ j m : Nat, i = j → ¬ Mt l j m)
theorem mtA_ex (l : List Bq) (i : Int) : ∃ r, MtA l i r := by
  by_cases h : ∃ j m : Nat, i = j ∧ Mt l j m
  · obtain ⟨j, m, h1, h2⟩ := h
    exact ⟨m, .inl ⟨j, m, h1, rfl, h2⟩⟩
  · exact ⟨-1, .inr ⟨rfl, fun j m h1 h2 => h ⟨j, m, h1, h2⟩⟩⟩
theorem MtA.is {l : List Bq} {j m : Nat} {r : Int} (h : MtA l j r) (hm : Mt l j m) : r = m := by
  rcases h with ⟨j', m', e1, e2, h'⟩ | ⟨-, h'⟩
  · obtain rfl : j = j' := by omega
    rw [e2, hm.one h']
  · exact absurd hm (h' _ _ rfl)
theorem MtA.no {l : List Bq} {i r : Int} (h : MtA l i r) (hn : ∀ j m : Nat, i = j → ¬ Mt l j m) : r = -1 := by
  rcases h with ⟨j, m, e1, e2, h'⟩ | ⟨e, -⟩
  · exact absurd h' (hn j m e1)
  · exact e
theorem MtA.mk {l : List Bq} {j m : Nat} (h : Mt l j m) : MtA l j m := .inl ⟨j, m, rfl, rfl, h⟩

/-! ### What a group needs -/
/-- What stands between. -/
def bet (l : List Bq) (i m : Nat) : List Bq := (l.take m).drop (i + 1)
/-- What a group from i to m needs. -/
def ndF (l : List Bq) (i m : Nat) : Int := if (bet l i m).all flI = true then ((colS (bet l i m) + beF (l.drop (m + 1)) : Nat) : Int) else -1
theorem ndF_yes {l : List Bq} {i m : Nat} (h : (bet l i m).all flI = true) : ndF l i m = ((colS (bet l i m) + beF (l.drop (m + 1)) : Nat) : Int) := by rw [ndF, if_pos h]
theorem ndF_no {l : List Bq} {i m : Nat} (h : (bet l i m).all flI = false) : ndF l i m = -1 := by rw [ndF, if_neg (by rw [h]; exact Bool.false_ne_true)]
/-- What Need answers. -/
def NeA (l : List Bq) (i r : Int) : Prop := (∃ j m : Nat, i = j ∧ r = ndF l j m ∧ Mt l j m) ∨ (r = -1 ∧ ∀ j m : Nat, i = j → ¬ Mt l j m)
theorem neA_ex (l : List Bq) (i : Int) : ∃ r, NeA l i r := by
  by_cases h : ∃ j m : Nat, i = j ∧ Mt l j m
  · obtain ⟨j, m, h1, h2⟩ := h
    exact ⟨ndF l j m, .inl ⟨j, m, h1, rfl, h2⟩⟩
  · exact ⟨-1, .inr ⟨rfl, fun j m h1 h2 => h ⟨j, m, h1, h2⟩⟩⟩
theorem NeA.is {l : List Bq} {j m : Nat} {r : Int} (h : NeA l j r) (hm : Mt l j m) : r = ndF l j m := by
  rcases h with ⟨j', m', e1, e2, h'⟩ | ⟨-, h'⟩
  · obtain rfl : j = j' := by omega
    rw [e2, hm.one h']
  · exact absurd hm (h' _ _ rfl)
theorem NeA.no {l : List Bq} {i r : Int} (h : NeA l i r) (hn : ∀ j m : Nat, i = j → ¬ Mt l j m) : r = -1 := by
  rcases h with ⟨j, m, e1, e2, h'⟩ | ⟨e, -⟩
  · exact absurd h' (hn j m e1)
  · exact e
theorem NeA.mk {l : List Bq} {j m : Nat} (h : Mt l j m) : NeA l j (ndF l j m) := .inl ⟨j, m, rfl, rfl, h⟩
/-- All are within int. -/
theorem need_bd {l : List Bq} (hs : SzB l) (hl : l.length ≤ 1000) (i m : Nat) : colS (bet l i m) ≤ 140737488351232000 ∧ beF (l.drop (m + 1)) ≤ 140737488351232000 := by
  have h1 := colS_le ((hs.take m).drop (i + 1))
  have h2 := colS_le (hs.drop (m + 1))
  have h3 := beF_le (l.drop (m + 1))
  have h4 : ((l.take m).drop (i + 1)).length ≤ 1000 := by rw [List.length_drop, List.length_take]; omega
  have h5 : (l.drop (m + 1)).length ≤ 1000 := by rw [List.length_drop]; omega
  have h6 := Nat.mul_le_mul_right 140737488351232 h4
  have h7 := Nat.mul_le_mul_right 140737488351232 h5
  unfold bet
  omega
theorem neA_range {l : List Bq} (hs : SzB l) (hl : l.length ≤ 1000) {i r : Int} (h : NeA l i r) : -1 ≤ r ∧ r ≤ 281474976702464000 := by
  rcases h with ⟨j, m, -, e, -⟩ | ⟨e, -⟩
  · rw [e, ndF]
    have := need_bd hs hl j m
    split <;> omega
  · omega
/-! ### One after the other -/
theorem oS_seg (l : List Bq) (j k : Nat) : oS ((l.drop j).take k) = oS (l.take (j + k)) - oS (l.take j) := by
  rw [List.take_add, oS_app]; omega
theorem oS_bd (l : List Bq) : -(l.length : Int) ≤ oS l ∧ oS l ≤ l.length := by
  induction l with
  | nil => exact ⟨Int.le_refl _, Int.le_refl _⟩
  | cons b l ih =>
    rw [oS, List.length_cons]
    rcases dO_cases b.m with ⟨_, d⟩ | ⟨_, d⟩ | ⟨_, _, d⟩ <;> omega
/-- From j on none of k bits closes what j opens. -/
def NoZ (l : List Bq) : Prop := ∀ k, 0 < k → k ≤ l.length → oS (l.take k) ≠ 0
theorem NoZ.nil : NoZ [] := fun k h1 h2 => by simp at h2; omega
theorem NoZ.snoc {l : List Bq} {b : Bq} (h : NoZ l) (hb : oS (l ++ [b]) ≠ 0) : NoZ (l ++ [b]) := fun k h1 h2 => by
  rw [List.length_append, List.length_singleton] at h2
  by_cases e : k = l.length + 1
  · rw [List.take_of_length_le (by simp; omega)]; exact hb
  · rw [List.take_append_of_le_length (by omega)]; exact h k h1 (by omega)
theorem noz_found {l : List Bq} {j k : Nat} {b : Bq} (hj : l[j]? = some b) (h6 : b.m = 6) (hk : j + k < l.length) (hn : NoZ ((l.drop j).take k)) (he : oS ((l.drop j).take (k + 1)) = 0) : Mt l j (j + k) := by
  have hlen : ((l.drop j).take k).length = k := by rw [List.length_take, List.length_drop]; omega
  have hne : ∀ t, 0 < t → t ≤ k → oS (l.take (j + t)) - oS (l.take j) ≠ 0 := fun t h1 h2 => by
    have := hn t h1 (by omega)
    rwa [List.take_take, Nat.min_eq_left h2, oS_seg] at this
  have hpos : ∀ t, 0 < t → t ≤ k → oS (l.take j) < oS (l.take (j + t)) := by
    intro t
    induction t with
    | zero => intro h; omega
    | succ t ih =>
      intro _ h2
      have h3 := hne (t + 1) (by omega) h2
      by_cases ht : t = 0
      · subst ht
        rw [oS_next hj, h6] at h3 ⊢
        simp [dO]
        omega
      · have h4 := ih (by omega) (by omega)
        obtain ⟨c, hc⟩ : ∃ c, l[j + t]? = some c := ⟨_, List.getElem?_eq_getElem (by omega)⟩
        have h5 := oS_next hc
        rw [← Nat.add_assoc] at h3 ⊢
        rcases dO_cases c.m with ⟨_, d⟩ | ⟨_, d⟩ | ⟨_, _, d⟩ <;> omega
  obtain ⟨c, hc⟩ : ∃ c, l[j + k]? = some c := ⟨_, List.getElem?_eq_getElem hk⟩
  rw [oS_seg] at he
  refine mt_found hj h6 (Nat.le_add_right _ _) hc (fun t h1 h2 => ?_) (by rw [Nat.add_assoc]; omega)
  obtain ⟨t', rfl⟩ : ∃ t', t = j + t' := ⟨t - j, by omega⟩
  exact hpos t' (by omega) (by omega)
theorem noz_none {l : List Bq} {j : Nat} (hn : NoZ (l.drop j)) (m : Nat) : ¬ Mt l j m := fun h => by
  have h1 := h.len
  have h2 := h.lt
  have h3 := hn (m + 1 - j) (by omega) (by rw [List.length_drop]; omega)
  rw [oS_seg, show j + (m + 1 - j) = m + 1 by omega, h.eq] at h3
  omega
theorem beF_all {l : List Bq} (h : ∀ b ∈ l, brF b.m = false) : beF l = colS l := by
  induction l with
  | nil => rfl
  | cons b l ih => rw [beF, colS, h b (List.mem_cons_self ..), ih fun x hx => h x (List.mem_cons_of_mem _ hx)]; rfl
theorem beF_cut {a : List Bq} (h : ∀ b ∈ a, brF b.m = false) {x : Bq} (hx : brF x.m = true) (r : List Bq) : beF (a ++ x :: r) = colS a := by
  induction a with
  | nil => rw [List.nil_append, beF, if_pos hx]; rfl
  | cons b a ih => rw [List.cons_append, beF, colS, h b (List.mem_cons_self ..), ih fun x hx => h x (List.mem_cons_of_mem _ hx)]; rfl
end Go.Proofs.Ytfcjihfnimefhaa
