/- The mathematics of chapter 18's laws (no program). -/
import Derived.Test.YtfcjihfnimefhaaWidM
namespace Go.Proofs.Ytfcjihfnimefhaa
set_option linter.unusedVariables false
set_option maxRecDepth 100000

/-- A string's byte. -/
theorem at_str {S : ByteArray} {j : Nat} (h : j < S.size) : S.data.toList[j]? = some S[j] := by
  rw [List.getElem?_eq_getElem (by rw [← size_list]; exact h)]; rfl
theorem byt_is {x : UInt8} {n : Nat} (hn : n < 256) : ((x.toNat : Int) == (n : Int)) = (x == UInt8.ofNat n) := by
  rw [Bool.eq_iff_iff, beq_iff_eq, beq_iff_eq]
  constructor
  · intro h
    have h2 : x.toNat = n := by omega
    rw [← h2]; simp
  · intro h
    rw [h]; simp; omega

/-! ### What is told grows -/
theorem bitF_grows (w n m i : Int) (b : Bq) (p : Pg) : ∃ x, (bitF w n m i b p).out = p.out ++ x := by
  rcases bitF_ways w n m i b p with ⟨-, -, q⟩ | ⟨-, -, q⟩ | ⟨-, -, q⟩ | ⟨-, -, q⟩ | ⟨-, q⟩ | ⟨-, q⟩ | ⟨-, -, q⟩ | ⟨-, -, -, -, -, q⟩ <;> rw [q]
  iterate 6 exact ⟨[], (List.append_nil _).symm⟩
  · exact ⟨[10], rfl⟩
  · unfold putF
    split
    · exact ⟨[], (List.append_nil _).symm⟩
    · exact ⟨_, rfl⟩
theorem pgs_grows (l : List Bq) (w : Int) (k d : Nat) : ∃ x, (pgs l w (k + d)).out = (pgs l w k).out ++ x := by
  induction d with
  | zero => exact ⟨[], (List.append_nil _).symm⟩
  | succ d ih =>
    obtain ⟨x, hx⟩ := ih
    rw [← Nat.add_assoc, pgs]
    cases h : l[k + d]? with
    | none => exact ⟨x, hx⟩
    | some b =>
      obtain ⟨y, hy⟩ := bitF_grows w (nec l (k + d)) (mtc l (k + d)) ((k + d : Nat) : Int) b (pgs l w (k + d))
      exact ⟨x ++ y, by rw [← List.append_assoc, ← hx]; exact hy⟩
theorem pgs_mem {l : List Bq} {w : Int} {k : Nat} {c : UInt8} (hk : k ≤ l.length) (h : c ∈ (pgs l w k).out) : c ∈ (pgs l w l.length).out := by
  obtain ⟨x, hx⟩ := pgs_grows l w k (l.length - k)
  rw [show k + (l.length - k) = l.length by omega] at hx
  rw [hx]; exact List.mem_append_left _ h

/-! ### A greater width -/
theorem width_math {l : List Bq} {w v : Int} (hm : mayF 0 0 l = true) (hl : l.length ≤ 400) (hwv : w ≤ v) (h10 : (10 : UInt8) ∉ (pgs l w l.length).out) :
    (pgs l v l.length).out = (pgs l w l.length).out := by
  have key : ∀ k, k ≤ l.length → (pgs l v k).out = (pgs l w k).out ∧ (pgs l v k).ind = (pgs l w k).ind ∧ (pgs l v k).col = (pgs l w k).col ∧ (pgs l v k).due = (pgs l w k).due ∧ ((pgs l w k).fl = -1 ∨ ((pgs l v k).fl ≠ -1 ∧ (pgs l w k).fl ≤ (pgs l v k).fl)) := by
    intro k
    induction k with
    | zero => intro _; exact ⟨rfl, rfl, rfl, rfl, .inl rfl⟩
    | succ k ih =>
      intro hk
      obtain ⟨h1, h2, h3, h4, h5⟩ := ih (by omega)
      obtain ⟨b, hb⟩ : ∃ b, l[k]? = some b := ⟨_, List.getElem?_eq_getElem (by omega)⟩
      have hp := pgs_inv w hm hl k (by omega)
      have hq := pgs_inv v hm hl k (by omega)
      have hno : (10 : UInt8) ∉ (pgs l w (k + 1)).out := fun h => h10 (pgs_mem hk h)
      rw [pgs_next hb, pgs_next hb]
      rw [pgs_next hb] at hno
      generalize pgs l w k = p at *
      generalize pgs l v k = q at *
      rcases bitF_ways w (nec l k) (mtc l k) k b p with ⟨e, c, g⟩ | ⟨e, c, g⟩ | ⟨e, c, g⟩ | ⟨e, c, g⟩ | ⟨e, g⟩ | ⟨e, g⟩ | ⟨e, c, g⟩ | ⟨e6, e7, e8, e9, c, g⟩ <;> rw [g]
      · by_cases hf : q.fl = -1
        · rw [bitF_open e hf c.2.1 (by omega)]
          obtain ⟨m, hmt⟩ := may_mt hm hb e
          have := (mtc_spec l k).is hmt
          exact ⟨h1, h2, h3, h4, .inr ⟨by show mtc l k ≠ -1; omega, Int.le_refl _⟩⟩
        · rw [bitF_open_no e (fun h => hf h.1)]
          refine ⟨h1, h2, h3, h4, .inr ⟨hf, ?_⟩⟩
          show mtc l k ≤ q.fl
          obtain ⟨m, hmt⟩ := may_mt hm hb e
          have hmm := (mtc_spec l k).is hmt
          rcases hq.fl with h | ⟨o, M, g1, g2, g3, g4, g5⟩
          · exact absurd h hf
          · have hkM : k < M := by
              rcases Nat.lt_or_ge k M with h | h
              · exact h
              · obtain rfl : k = M := by omega
                obtain ⟨x, hx, h7⟩ := g4.cl
                rw [hb] at hx
                obtain rfl := Option.some.inj hx
                omega
            have := mt_in g4 hmt g1 hkM
            omega
      · by_cases hf : q.fl = -1 ∧ 0 ≤ nec l k ∧ q.col + nec l k ≤ v
        · rw [bitF_open e hf.1 hf.2.1 hf.2.2]
          refine ⟨h1, h2, h3, h4, ?_⟩
          rcases h5 with h | h
          · exact .inl h
          · exact absurd hf.1 h.1
        · rw [bitF_open_no e hf]; exact ⟨h1, h2, h3, h4, h5⟩
      · by_cases hf : q.fl = k
        · rw [bitF_close e hf]; exact ⟨h1, h2, h3, h4, .inl rfl⟩
        · rw [bitF_close_no e hf]; exact ⟨h1, h2, h3, h4, .inl rfl⟩
      · by_cases hf : q.fl = k
        · rw [bitF_close e hf]
          refine ⟨h1, h2, h3, h4, ?_⟩
          rcases h5 with h | h
          · exact .inl h
          · rcases hp.fl with h' | ⟨o, M, g1, g2, g3, g4, g5⟩
            · exact .inl h'
            · omega
        · rw [bitF_close_no e hf]; exact ⟨h1, h2, h3, h4, h5⟩
      · rw [bitF_in e]; exact ⟨h1, by show q.ind + 2 = p.ind + 2; omega, h3, h4, h5⟩
      · rw [bitF_out e]; exact ⟨h1, by show q.ind - 2 = p.ind - 2; omega, h3, h4, h5⟩
      · exact absurd (by rw [g]; exact List.mem_append_right _ (List.mem_singleton.2 rfl)) hno
      · have hc' : ¬ (brF b.m = true ∧ (q.fl = -1 ∨ b.m = 5)) := fun ⟨h, h'⟩ => by
          have hb5 : b.m ≠ 5 := fun e => c ⟨h, .inr e⟩
          have hpf : p.fl ≠ -1 := fun e => c ⟨h, .inl e⟩
          rcases h5 with h5 | h5
          · exact hpf h5
          · rcases h' with h' | h'
            · exact h5.1 h'
            · exact hb5 h'
        rw [bitF_put e6 e7 e8 e9 hc']
        unfold putF
        split
        · exact ⟨h1, h2, h3, h4, h5⟩
        · refine ⟨?_, h2, ?_, rfl, h5⟩
          · show q.out ++ _ = p.out ++ _
            rw [h1, h4]
          · show q.col + _ = p.col + _
            rw [h3]
  exact (key l.length (Nat.le_refl _)).1

/-! ### Texts alone -/
def ntB (c : UInt8) : Bool := c != 32 && c != 44 && c != 10
/-- The texts, one behind the other. -/
def txS (l : List Bq) : List UInt8 := l.flatMap fun b => b.v.data.toList
theorem txS_next {l : List Bq} {k : Nat} {b : Bq} (h : l[k]? = some b) : txS (l.take (k + 1)) = txS (l.take k) ++ b.v.data.toList := by
  rw [List.take_add_one, h]; simp [txS]
theorem txS_len (l : List Bq) : (txS l).length = vS l := by
  induction l with
  | nil => rfl
  | cons b l ih => rw [txS, List.flatMap_cons, List.length_append, vS, size_list]; rw [txS] at ih; omega
theorem ok_text {b : Bq} (h : okB b = true) (h0 : b.m ≠ 0) : b.v.data.toList = [] := by
  rw [okB, Bool.and_eq_true, Bool.or_eq_true, decide_eq_true_eq, decide_eq_true_eq] at h
  have := h.2.resolve_right h0
  rw [size_list] at this
  exact List.length_eq_zero_iff.1 this
theorem filter_all {l : List UInt8} (h : ∀ c ∈ l, ntB c = true) : l.filter ntB = l := List.filter_eq_self.2 h
theorem filter_blanks (n : Nat) : (List.replicate n (32 : UInt8)).filter ntB = [] := List.filter_eq_nil_iff.2 fun c hc => by rw [(List.mem_replicate.1 hc).2]; decide
theorem filter_flV {b : Bq} (hok : okB b = true) (h : ∀ c ∈ b.v.data.toList, ntB c = true) : (flV b).data.toList.filter ntB = b.v.data.toList := by
  by_cases h0 : b.m = 0
  · have : flV b = b.v := by rw [flV, flF, if_pos h0]; rfl
    rw [this]; exact filter_all h
  · rw [ok_text hok h0]
    unfold flV flF
    rw [if_neg h0]
    repeat' split
    all_goals rfl
theorem texts_math {l : List Bq} {w : Int} (hm : mayF 0 0 l = true) (h : ∀ b ∈ l, ∀ c ∈ b.v.data.toList, ntB c = true) : ∀ k, k ≤ l.length → (pgs l w k).out.filter ntB = txS (l.take k) := by
  intro k
  induction k with
  | zero => intro _; rfl
  | succ k ih =>
    intro hk
    obtain ⟨b, hb⟩ : ∃ b, l[k]? = some b := ⟨_, List.getElem?_eq_getElem (by omega)⟩
    have hok := mayF_ok hm b (List.mem_of_getElem? hb)
    have hf := filter_flV hok (h b (List.mem_of_getElem? hb))
    have i0 := ih (by omega)
    rw [pgs_next hb, txS_next hb]
    generalize pgs l w k = p at *
    rcases bitF_ways w (nec l k) (mtc l k) k b p with ⟨e, c, g⟩ | ⟨e, c, g⟩ | ⟨e, c, g⟩ | ⟨e, c, g⟩ | ⟨e, g⟩ | ⟨e, g⟩ | ⟨e, c, g⟩ | ⟨e6, e7, e8, e9, c, g⟩ <;> rw [g]
    iterate 6 (rw [ok_text hok (by omega), List.append_nil]; exact i0)
    · have := (brF_iff _).1 e
      rw [ok_text hok (by omega), List.append_nil, lineF]
      show (p.out ++ [10]).filter ntB = _
      rw [List.filter_append, i0]
      exact List.append_nil _
    · unfold putF
      split
      · rename_i h0
        have : (flV b).data.toList = [] := List.length_eq_zero_iff.1 (by rw [← size_list]; exact h0)
        rw [this] at hf
        rw [← hf, List.filter_nil, List.append_nil]; exact i0
      · show (p.out ++ (List.replicate p.due.toNat 32 ++ (flV b).data.toList)).filter ntB = _
        rw [List.filter_append, List.filter_append, filter_blanks, List.nil_append, hf, i0]

/-! ### On one line -/
/-- What all bits are on one line. -/
def flS (l : List Bq) : List UInt8 := l.flatMap fun b => (flV b).data.toList
theorem flS_next {l : List Bq} {k : Nat} {b : Bq} (h : l[k]? = some b) : flS (l.take (k + 1)) = flS (l.take k) ++ (flV b).data.toList := by
  rw [List.take_add_one, h]; simp [flS]
theorem flS_len (l : List Bq) : (flS l).length ≤ vS l + 2 * l.length := by
  induction l with
  | nil => exact Nat.zero_le _
  | cons b l ih =>
    have := flV_le b
    rw [size_list] at this
    rw [flS, List.flatMap_cons, List.length_append, vS, List.length_cons]
    rw [flS] at ih
    omega
def grp (l : List Bq) : List Bq := ⟨6, noV⟩ :: (l ++ [⟨7, noV⟩])
theorem grp_len (l : List Bq) : (grp l).length = l.length + 2 := by simp [grp]
theorem grp_at {l : List Bq} {k : Nat} (h : k < l.length) : (grp l)[k + 1]? = l[k]? := by
  rw [grp, List.getElem?_cons_succ, List.getElem?_append_left h]
theorem grp_mt {l : List Bq} (hm : mayF 0 0 l = true) : Mt (grp l) 0 (l.length + 1) := by
  obtain ⟨m, h⟩ := may_mt (mayF_group hm) (i := 0) (b := ⟨6, noV⟩) rfl rfl
  have h' : Mt (grp l) 0 m := h
  have hl := h'.len
  rw [grp_len] at hl
  have he := h'.eq
  have : ¬ m < l.length + 1 := fun hlt => by
    have e : (grp l).take (m + 1) = ⟨6, noV⟩ :: l.take m := by rw [grp, List.take_succ_cons, List.take_append_of_le_length (by omega)]
    have e6 : dO (6 : Int) = 1 := rfl
    rw [e, oS, List.take_zero] at he
    have := (mayF_sum hm).2 m
    have e0 : oS [] = 0 := rfl
    rw [e0] at he
    rcases this with h | h
    · have e2 : dO (⟨6, noV⟩ : Bq).m = 1 := rfl
      omega
    · subst h
      have := h'.lt
      omega
  rw [show l.length + 1 = m by omega]; exact h'
theorem grp_need {l : List Bq} (hm : mayF 0 0 l = true) : nec (grp l) 0 = if l.all flI = true then ((colS l : Nat) : Int) else -1 := by
  rw [(nec_spec (grp l) 0).is (grp_mt hm), ndF]
  have e1 : bet (grp l) 0 (l.length + 1) = l := by
    rw [bet, grp, List.take_succ_cons, List.take_append_of_le_length (Nat.le_refl _), List.take_length]; rfl
  have e2 : beF ((grp l).drop (l.length + 1 + 1)) = 0 := by
    rw [List.drop_eq_nil_of_le (by rw [grp_len]; exact Nat.le_refl _)]; rfl
  rw [e1, e2, Nat.add_zero]
theorem fits_math {l : List Bq} {w : Int} (hm : mayF 0 0 l = true) (hall : l.all flI = true) (hw : ((colS l : Nat) : Int) ≤ w) : (pgs (grp l) w (l.length + 2)).out = flS l := by
  have h1 : pgs (grp l) w 1 = ⟨[], 0, 0, 0, ((l.length + 1 : Nat) : Int)⟩ := by
    rw [pgs_next (k := 0) (b := ⟨6, noV⟩) rfl, bitF_open rfl rfl (by rw [grp_need hm, if_pos hall]; omega) (by rw [grp_need hm, if_pos hall]; show (0 : Int) + _ ≤ w; omega), (mtc_spec (grp l) 0).is (grp_mt hm)]
    rfl
  have key : ∀ k, k ≤ l.length → (pgs (grp l) w (k + 1)).out = flS (l.take k) ∧ (pgs (grp l) w (k + 1)).due = 0 ∧ (pgs (grp l) w (k + 1)).fl = ((l.length + 1 : Nat) : Int) := by
    intro k
    induction k with
    | zero => intro _; rw [h1]; exact ⟨rfl, rfl, rfl⟩
    | succ k ih =>
      intro hk
      obtain ⟨i1, i2, i3⟩ := ih (by omega)
      obtain ⟨b, hb⟩ : ∃ b, l[k]? = some b := ⟨_, List.getElem?_eq_getElem (by omega)⟩
      have hfb : flI b = true := (List.all_eq_true.1 hall) b (List.mem_of_getElem? hb)
      rw [pgs_next ((grp_at (by omega)).trans hb), flS_next hb]
      generalize pgs (grp l) w (k + 1) = p at *
      have nofl : ∀ {m : Int}, b.m = m → (m = 6 ∨ m = 7 ∨ m = 8 ∨ m = 9) → (flV b).data.toList = [] := fun {m} e h => by
        unfold flV flF
        rw [e]
        rcases h with rfl | rfl | rfl | rfl <;> rfl
      rcases bitF_ways w (nec (grp l) (k + 1)) (mtc (grp l) (k + 1)) ((k + 1 : Nat) : Int) b p with ⟨e, c, g⟩ | ⟨e, c, g⟩ | ⟨e, c, g⟩ | ⟨e, c, g⟩ | ⟨e, g⟩ | ⟨e, g⟩ | ⟨e, c, g⟩ | ⟨e6, e7, e8, e9, c, g⟩ <;> rw [g]
      · omega
      · rw [nofl e (by omega), List.append_nil]; exact ⟨i1, i2, i3⟩
      · omega
      · rw [nofl e (by omega), List.append_nil]; exact ⟨i1, i2, i3⟩
      · rw [nofl e (by omega), List.append_nil]; exact ⟨i1, i2, i3⟩
      · rw [nofl e (by omega), List.append_nil]; exact ⟨i1, i2, i3⟩
      · have h5 : b.m = 5 := c.resolve_left (by omega)
        exact absurd hfb (by unfold flI flF; rw [h5]; simp)
      · unfold putF
        split
        · rename_i h0
          have : (flV b).data.toList = [] := List.length_eq_zero_iff.1 (by rw [← size_list]; exact h0)
          rw [this, List.append_nil]; exact ⟨i1, i2, i3⟩
        · refine ⟨?_, rfl, i3⟩
          show p.out ++ (List.replicate p.due.toNat 32 ++ (flV b).data.toList) = _
          rw [i1, i2]; rfl
  obtain ⟨k1, k2, k3⟩ := key l.length (Nat.le_refl _)
  have hc : (grp l)[l.length + 1]? = some ⟨7, noV⟩ := by
    rw [grp, List.getElem?_cons_succ, List.getElem?_append_right (Nat.le_refl _), Nat.sub_self]; rfl
  rw [pgs_next hc, bitF_close rfl k3]
  show (pgs (grp l) w (l.length + 1)).out = _
  rw [k1, List.take_length]
theorem hard_math {l : List Bq} {w : Int} (hm : mayF 0 0 l = true) (hall : l.all flI = false) : (10 : UInt8) ∈ (pgs (grp l) w (l.length + 2)).out := by
  obtain ⟨b, hb, hf⟩ : ∃ b ∈ l, flI b = false := by
    rw [List.all_eq_false] at hall
    obtain ⟨b, hb, h⟩ := hall
    exact ⟨b, hb, by cases h' : flI b; rfl; exact absurd h' h⟩
  obtain ⟨k, hk⟩ := List.mem_iff_getElem?.1 hb
  have hkl := (List.getElem?_eq_some_iff.1 hk).1
  have hok := mayF_ok hm b hb
  have h5 : b.m = 5 := by
    rw [okB, Bool.and_eq_true, Bool.and_eq_true, decide_eq_true_eq, decide_eq_true_eq] at hok
    obtain ⟨⟨h1, h2⟩, -⟩ := hok
    by_cases h0 : b.m = 0
    · exact absurd hf (by unfold flI flF; rw [if_pos h0]; simp)
    · unfold flI flF at hf
      rw [if_neg h0] at hf
      by_cases a : b.m = 1 ∨ b.m = 2
      · rw [if_pos a] at hf; cases hf
      · rw [if_neg a] at hf
        by_cases a2 : b.m = 4
        · rw [if_pos a2] at hf; cases hf
        · rw [if_neg a2] at hf
          by_cases a3 : b.m = 3 ∨ b.m = 6 ∨ b.m = 7 ∨ b.m = 8 ∨ b.m = 9
          · rw [if_pos a3] at hf; cases hf
          · omega
  have hg : (10 : UInt8) ∈ (pgs (grp l) w (k + 1 + 1)).out := by
    rw [pgs_next ((grp_at hkl).trans hk), bitF_line (by rw [h5]; rfl) (.inr h5)]
    exact List.mem_append_right _ (List.mem_singleton.2 rfl)
  have := pgs_mem (l := grp l) (w := w) (by rw [grp_len]; omega) hg
  rwa [grp_len] at this
end Go.Proofs.Ytfcjihfnimefhaa
