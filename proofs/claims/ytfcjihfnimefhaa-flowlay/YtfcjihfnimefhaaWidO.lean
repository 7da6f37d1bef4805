/- The mathematics of chapter 18's laws WideIn, WideCol, WideFirst (no program). -/
import Derived.Test.YtfcjihfnimefhaaWidN
namespace Go.Proofs.Ytfcjihfnimefhaa
set_option linter.unusedVariables false
set_option maxRecDepth 100000

/-! ### Moved in -/
/-- Two blanks more ahead of each line that has something, and is not the first one. -/
def insL : Bool → List UInt8 → List UInt8
  | _, [] => []
  | p, c :: r => (if (p && c != 10) = true then [32, 32] else []) ++ c :: insL (c == 10) r
/-- Does it end by a new line? -/
def laB : Bool → List UInt8 → Bool
  | p, [] => p
  | _, c :: r => laB (c == 10) r
theorem insL_app (a b : List UInt8) : ∀ p, insL p (a ++ b) = insL p a ++ insL (laB p a) b := by
  induction a with
  | nil => intro p; rfl
  | cons c a ih => intro p; rw [List.cons_append, insL, insL, laB, ih, List.append_assoc, List.cons_append]
theorem laB_app (a b : List UInt8) : ∀ p, laB p (a ++ b) = laB (laB p a) b := by
  induction a with
  | nil => intro p; rfl
  | cons c a ih => intro p; rw [List.cons_append, laB, laB, ih]
theorem insL_plain {l : List UInt8} (h : (10 : UInt8) ∉ l) : insL false l = l ∧ laB false l = false := by
  induction l with
  | nil => exact ⟨rfl, rfl⟩
  | cons c l ih =>
    have hc : (c == 10) = false := by
      rw [beq_eq_false_iff_ne]
      exact fun e => h (by rw [e]; exact List.mem_cons_self ..)
    obtain ⟨h1, h2⟩ := ih (fun h' => h (List.mem_cons_of_mem _ h'))
    refine ⟨?_, ?_⟩
    · rw [insL, hc, h1]; rfl
    · rw [laB, hc, h2]
theorem insL_true {l : List UInt8} (h : (10 : UInt8) ∉ l) (h0 : l ≠ []) : insL true l = 32 :: 32 :: l ∧ laB true l = false := by
  cases l with
  | nil => exact absurd rfl h0
  | cons c l =>
    have hc : (c == 10) = false := by
      rw [beq_eq_false_iff_ne]
      exact fun e => h (by rw [e]; exact List.mem_cons_self ..)
    obtain ⟨h1, h2⟩ := insL_plain (fun h' => h (List.mem_cons_of_mem _ h'))
    refine ⟨?_, ?_⟩
    · have hc2 : (c != 10) = true := by rw [bne, hc]; rfl
      rw [insL, hc, hc2, h1]; rfl
    · rw [laB, hc, h2]
def ming (l : List Bq) : List Bq := ⟨8, noV⟩ :: (l ++ [⟨9, noV⟩])
theorem ming_len (l : List Bq) : (ming l).length = l.length + 2 := by simp [ming]
theorem ming_at {l : List Bq} {k : Nat} (h : k < l.length) : (ming l)[k + 1]? = l[k]? := by
  rw [ming, List.getElem?_cons_succ, List.getElem?_append_left h]
theorem mayF_ming {a : List Bq} (h : mayF 0 0 a = true) : mayF 0 0 (ming a) = true := by
  rw [ming, mayF_on _ (by decide) (by decide) (by decide)]
  have := mayF_app 0 1 [⟨9, noV⟩] h (by decide) (by decide)
  exact this.trans (by decide)
theorem no10_flV {b : Bq} (h : (10 : UInt8) ∉ b.v.data.toList) : (10 : UInt8) ∉ (flV b).data.toList := by
  by_cases h0 : b.m = 0
  · have : flV b = b.v := by rw [flV, flF, if_pos h0]; rfl
    rw [this]; exact h
  · unfold flV flF
    rw [if_neg h0]
    repeat' split
    all_goals decide
theorem in_math {l : List Bq} {w : Int} (h6 : ∀ b ∈ l, b.m ≠ 6) (h10 : ∀ b ∈ l, (10 : UInt8) ∉ b.v.data.toList) (hi : mayF 0 0 l = true) (hl : l.length ≤ 398) :
    (pgs (ming l) w (l.length + 2)).out = insL false (pgs l w l.length).out := by
  have h1 : pgs (ming l) w 1 = ⟨[], 2, 0, 0, -1⟩ := by
    rw [pgs_next (k := 0) (b := ⟨8, noV⟩) rfl, bitF_in rfl]; rfl
  have key : ∀ k, k ≤ l.length → (pgs l w k).fl = -1 ∧ (pgs (ming l) w (k + 1)).fl = -1 ∧ (pgs (ming l) w (k + 1)).ind = (pgs l w k).ind + 2 ∧ (pgs (ming l) w (k + 1)).out = insL false (pgs l w k).out ∧
      (laB false (pgs l w k).out = true → (pgs (ming l) w (k + 1)).due = (pgs l w k).due + 2) ∧ (laB false (pgs l w k).out = false → (pgs l w k).due = 0 ∧ (pgs (ming l) w (k + 1)).due = 0) := by
    intro k
    induction k with
    | zero => intro _; rw [h1]; exact ⟨rfl, rfl, rfl, rfl, (fun h => by cases h), fun _ => ⟨rfl, rfl⟩⟩
    | succ k ih =>
      intro hk
      obtain ⟨i1, i2, i3, i4, i5, i6⟩ := ih (by omega)
      obtain ⟨b, hb⟩ : ∃ b, l[k]? = some b := ⟨_, List.getElem?_eq_getElem (by omega)⟩
      have hmem := List.mem_of_getElem? hb
      have hinv := pgs_inv w hi (by omega) k (by omega)
      rw [pgs_next ((ming_at (by omega)).trans hb), pgs_next hb]
      have hd := hinv.due0
      clear hinv
      generalize pgs l w k = p at *
      generalize pgs (ming l) w (k + 1) = q at *
      have hb6 := h6 b hmem
      have hbn := no10_flV (h10 b hmem)
      rcases bitF_ways w (nec l k) (mtc l k) k b p with ⟨e, c, g⟩ | ⟨e, c, g⟩ | ⟨e, c, g⟩ | ⟨e, c, g⟩ | ⟨e, g⟩ | ⟨e, g⟩ | ⟨e, c, g⟩ | ⟨e6, e7, e8, e9, c, g⟩ <;> rw [g]
      · exact absurd e hb6
      · exact absurd e hb6
      · omega
      · rw [bitF_close_no e (by omega)]; exact ⟨i1, i2, i3, i4, i5, i6⟩
      · rw [bitF_in e]; exact ⟨i1, i2, by show q.ind + 2 = p.ind + 2 + 2; omega, i4, i5, i6⟩
      · rw [bitF_out e]; exact ⟨i1, i2, by show q.ind - 2 = p.ind - 2 + 2; omega, i4, i5, i6⟩
      · rw [bitF_line e (.inl i2)]
        refine ⟨i1, i2, i3, ?_, fun _ => i3, fun h => ?_⟩
        · show q.out ++ [10] = insL false (p.out ++ [10])
          rw [insL_app, i4]
          congr 1
          cases laB false p.out <;> rfl
        · have : laB false (p.out ++ [10]) = false := h
          rw [laB_app] at this
          cases this
      · rw [bitF_put e6 e7 e8 e9 (fun h => c ⟨h.1, .inl i1⟩)]
        unfold putF
        split
        · exact ⟨i1, i2, i3, i4, i5, i6⟩
        · rename_i h0
          have hne : (flV b).data.toList ≠ [] := fun e => h0 (by rw [size_list, e]; rfl)
          have hb10 : ∀ n, (10 : UInt8) ∉ List.replicate n 32 ++ (flV b).data.toList := fun n h => by
            rcases List.mem_append.1 h with h | h
            · exact absurd (List.mem_replicate.1 h).2 (by decide)
            · exact hbn h
          have hne2 : ∀ n, List.replicate n (32 : UInt8) ++ (flV b).data.toList ≠ [] := fun n h => hne (List.append_eq_nil_iff.1 h).2
          cases hla : laB false p.out
          · obtain ⟨d1, d2⟩ := i6 hla
            obtain ⟨f1, f2⟩ := insL_plain (hb10 0)
            refine ⟨i1, i2, i3, ?_, fun h => ?_, fun _ => ⟨rfl, rfl⟩⟩
            · show q.out ++ (List.replicate q.due.toNat 32 ++ _) = insL false (p.out ++ (List.replicate p.due.toNat 32 ++ _))
              rw [insL_app, hla, d1, d2, i4]
              show _ ++ (List.replicate 0 32 ++ _) = _ ++ insL false (List.replicate 0 32 ++ _)
              rw [f1]
            · have h' : laB false (p.out ++ (List.replicate p.due.toNat 32 ++ (flV b).data.toList)) = true := h
              rw [laB_app, hla, d1] at h'
              exact absurd h' (by show ¬ laB false (List.replicate 0 32 ++ _) = true; rw [f2]; decide)
          · have d1 := i5 hla
            obtain ⟨f1, f2⟩ := insL_true (hb10 p.due.toNat) (hne2 _)
            refine ⟨i1, i2, i3, ?_, fun h => ?_, fun _ => ⟨rfl, rfl⟩⟩
            · show q.out ++ (List.replicate q.due.toNat 32 ++ _) = insL false (p.out ++ (List.replicate p.due.toNat 32 ++ _))
              rw [insL_app, hla, f1, i4, d1, show (p.due + 2).toNat = p.due.toNat + 1 + 1 by omega]; rfl
            · have h' : laB false (p.out ++ (List.replicate p.due.toNat 32 ++ (flV b).data.toList)) = true := h
              rw [laB_app, hla, f2] at h'
              cases h'
  obtain ⟨k1, k2, k3, k4, -, -⟩ := key l.length (Nat.le_refl _)
  have hc : (ming l)[l.length + 1]? = some ⟨9, noV⟩ := by
    rw [ming, List.getElem?_cons_succ, List.getElem?_append_right (Nat.le_refl _), Nat.sub_self]; rfl
  rw [pgs_next hc, bitF_out rfl]
  exact k4
/-- Up to i, one more. -/
theorem insL_next {l : List UInt8} {i : Nat} {c : UInt8} (h : l[i]? = some c) : insL false (l.take (i + 1)) = insL false (l.take i) ++ (if (laB false (l.take i) && c != 10) = true then [32, 32] else []) ++ [c] := by
  rw [List.take_add_one, h, Option.toList_some, insL_app, insL, insL, List.append_assoc]
theorem laB_take {l : List UInt8} {i : Nat} {c : UInt8} (h : l[i]? = some c) : laB false (l.take (i + 1)) = (c == 10) := by
  rw [List.take_add_one, h, Option.toList_some, laB_app]; rfl
theorem insL_len (l : List UInt8) : ∀ p, (insL p l).length ≤ 3 * l.length := by
  induction l with
  | nil => intro p; exact Nat.le_refl _
  | cons c l ih =>
    intro p
    have := ih (c == 10)
    rw [insL, List.length_append, List.length_cons, List.length_cons]
    split
    · show 2 + _ ≤ _; omega
    · show 0 + _ ≤ _; omega

/-! ### Columns -/
theorem col_math {l : List Bq} {w : Int} {k : Nat} {b : Bq} (hm : mayF 0 0 l = true) (hl : l.length ≤ 400) (hb : l[k]? = some b) :
    ((b.m = 0 ∨ b.m = 1) → (pgs l w (k + 1)).col = (pgs l w k).col + cols (flV b).data.toList) ∧
    (b.m = 5 → ∃ z : Int, 0 ≤ z ∧ (pgs l w (k + 1)).col = 2 * z) ∧
    ((pgs l w (k + 1)).col = (pgs l w k).col ∨ (∃ z : Int, 0 ≤ z ∧ (pgs l w (k + 1)).col = 2 * z) ∨ (pgs l w (k + 1)).col = (pgs l w k).col + cols (flV b).data.toList) := by
  have hk := (List.getElem?_eq_some_iff.1 hb).1
  have hi := pgs_inv w hm hl k (by omega)
  have h1 := hi.ind
  have h2 := hi.ind0
  rw [pgs_next hb]
  generalize pgs l w k = p at *
  have hput : (putF p (flV b)).col = p.col + cols (flV b).data.toList := by
    unfold putF
    split
    · rename_i h0
      rw [size_list] at h0
      rw [List.length_eq_zero_iff.1 h0, cols_nil]; omega
    · rfl
  have hev : ∃ z : Int, 0 ≤ z ∧ (lineF p).col = 2 * z := ⟨iS (l.take k), by omega, h1⟩
  rcases bitF_ways w (nec l k) (mtc l k) k b p with ⟨e, c, g⟩ | ⟨e, c, g⟩ | ⟨e, c, g⟩ | ⟨e, c, g⟩ | ⟨e, g⟩ | ⟨e, g⟩ | ⟨e, c, g⟩ | ⟨e6, e7, e8, e9, c, g⟩ <;> rw [g]
  iterate 6 exact ⟨fun h => by omega, fun h => by omega, .inl rfl⟩
  · have := (brF_iff _).1 e
    exact ⟨fun h => by omega, fun _ => hev, .inr (.inl hev)⟩
  · exact ⟨fun _ => hput, fun h => absurd ⟨(brF_iff _).2 (.inr (.inr (.inr h))), .inr h⟩ c, .inr (.inr hput)⟩

/-! ### One behind the other -/
/-- The same bits ahead of a new line that is no other. -/
theorem beF_hard (a r : List Bq) : beF (a ++ ⟨5, noV⟩ :: r) = beF (a ++ [⟨5, noV⟩]) := by
  induction a with
  | nil => rfl
  | cons b a ih => rw [List.cons_append, List.cons_append, beF, beF, ih]
theorem nec_hard {a r : List Bq} (hm : mayF 0 0 a = true) {k : Nat} {b : Bq} (hb : a[k]? = some b) (h6 : b.m = 6) :
    nec (a ++ ⟨5, noV⟩ :: r) k = nec (a ++ [⟨5, noV⟩]) k ∧ mtc (a ++ ⟨5, noV⟩ :: r) k = mtc (a ++ [⟨5, noV⟩]) k := by
  obtain ⟨m, hmt⟩ := may_mt hm hb h6
  have hl := hmt.len
  have e : ∀ X : List Bq, (a ++ X).take (m + 1) = a.take (m + 1) := fun X => List.take_append_of_le_length (by omega)
  have h1 := mt_same hmt (e (⟨5, noV⟩ :: r))
  have h2 := mt_same hmt (e [⟨5, noV⟩])
  refine ⟨?_, by rw [(mtc_spec _ k).is h1, (mtc_spec _ k).is h2]⟩
  rw [(nec_spec _ k).is h1, (nec_spec _ k).is h2]
  have eb : ∀ X : List Bq, bet (a ++ X) k m = bet a k m := fun X => by rw [bet, List.take_append_of_le_length (by omega)]; rfl
  have ed : ∀ X : List Bq, (a ++ X).drop (m + 1) = a.drop (m + 1) ++ X := fun X => List.drop_append_of_le_length (by omega)
  rw [ndF, ndF, eb, eb, ed, ed, beF_hard]
theorem pgs_ahead {a r : List Bq} {w : Int} (hm : mayF 0 0 a = true) : ∀ k, k ≤ a.length + 1 → pgs (a ++ ⟨5, noV⟩ :: r) w k = pgs (a ++ [⟨5, noV⟩]) w k := by
  intro k
  induction k with
  | zero => intro _; rfl
  | succ k ih =>
    intro hk
    have i0 := ih (by omega)
    by_cases hka : k < a.length
    · obtain ⟨b, hb⟩ : ∃ b, a[k]? = some b := ⟨_, List.getElem?_eq_getElem hka⟩
      have e : ∀ X : List Bq, (a ++ X)[k]? = some b := fun X => by rw [List.getElem?_append_left hka]; exact hb
      rw [pgs_next (e _), pgs_next (e _), i0]
      by_cases h6 : b.m = 6
      · obtain ⟨n1, n2⟩ := nec_hard (r := r) hm hb h6
        rw [n1, n2]
      · unfold bitF
        rw [if_neg h6, if_neg h6]
    · obtain rfl : k = a.length := by omega
      have e : ∀ X : List Bq, (a ++ ⟨5, noV⟩ :: X)[a.length]? = some ⟨5, noV⟩ := fun X => by rw [List.getElem?_append_right (Nat.le_refl _), Nat.sub_self]; rfl
      rw [pgs_next (e r), pgs_next (e []), i0, bitF_line rfl (.inr rfl), bitF_line rfl (.inr rfl)]
/-- Behind the new line all begins anew. -/
theorem pgs_line {a : List Bq} {w : Int} (hm : mayF 0 0 a = true) (hl : a.length ≤ 399) : ∃ o, pgs (a ++ [⟨5, noV⟩]) w (a.length + 1) = ⟨o, 0, 0, 0, -1⟩ := by
  have hm2 : mayF 0 0 (a ++ [⟨5, noV⟩]) = true := (mayF_app 0 0 _ hm (Int.le_refl _) (Int.le_refl _)).trans (by decide)
  have hlen : (a ++ [(⟨5, noV⟩ : Bq)]).length = a.length + 1 := by simp
  have e : (a ++ [(⟨5, noV⟩ : Bq)])[a.length]? = some ⟨5, noV⟩ := by rw [List.getElem?_append_right (Nat.le_refl _), Nat.sub_self]; rfl
  have hi := pgs_inv w hm2 (by rw [hlen]; omega) a.length (by rw [hlen]; omega)
  have hf := hi.hard e rfl
  have hd := hi.ind
  have h0 := (mayF_in hm (Int.le_refl 0)).1
  rw [List.take_append_of_le_length (Nat.le_refl _), List.take_length] at hd
  rw [pgs_next e, bitF_line rfl (.inr rfl)]
  generalize pgs (a ++ [⟨5, noV⟩]) w a.length = p at *
  obtain ⟨o, i, c, d, f⟩ := p
  dsimp only at hf hd
  subst hf
  obtain rfl : i = 0 := by omega
  exact ⟨o ++ [10], rfl⟩
theorem mt_behind {b : List Bq} : ∀ (a : List Bq) {k m : Nat}, Mt b k m → Mt (a ++ b) (a.length + k) (a.length + m)
  | [], k, m, h => by simpa using h
  | x :: a, k, m, h => by
    have := (mt_cons x).2 (mt_behind a h)
    rw [List.cons_append, List.length_cons, show a.length + 1 + k = a.length + k + 1 by omega, show a.length + 1 + m = a.length + m + 1 by omega]
    exact this
theorem ndF_behind (a b : List Bq) (k m : Nat) : ndF (a ++ b) (a.length + k) (a.length + m) = ndF b k m := by
  have e1 : bet (a ++ b) (a.length + k) (a.length + m) = bet b k m := by
    rw [bet, List.take_append, List.take_of_length_le (Nat.le_add_right _ _), Nat.add_sub_cancel_left, Nat.add_assoc, List.drop_append, List.drop_eq_nil_of_le (Nat.le_add_right _ _), Nat.add_sub_cancel_left, List.nil_append]; rfl
  have e2 : (a ++ b).drop (a.length + m + 1) = b.drop (m + 1) := by
    rw [Nat.add_assoc, List.drop_append, List.drop_eq_nil_of_le (Nat.le_add_right _ _), Nat.add_sub_cancel_left, List.nil_append]
  rw [ndF, ndF, e1, e2]
theorem first_math {a b : List Bq} {w : Int} (ha : mayF 0 0 a = true) (hb : mayF 0 0 b = true) (hl : a.length ≤ 399) (hlb : b.length ≤ 400) :
    (pgs (a ++ ⟨5, noV⟩ :: b) w (a.length + 1 + b.length)).out = (pgs (a ++ [⟨5, noV⟩]) w (a.length + 1)).out ++ (pgs b w b.length).out := by
  obtain ⟨o, ho⟩ := pgs_line (w := w) ha hl
  have hK : (a ++ [(⟨5, noV⟩ : Bq)]).length = a.length + 1 := by simp
  have hX : a ++ ⟨5, noV⟩ :: b = (a ++ [⟨5, noV⟩]) ++ b := by simp
  have key : ∀ k, k ≤ b.length → (pgs (a ++ ⟨5, noV⟩ :: b) w (a.length + 1 + k)).out = o ++ (pgs b w k).out ∧ (pgs (a ++ ⟨5, noV⟩ :: b) w (a.length + 1 + k)).ind = (pgs b w k).ind ∧ (pgs (a ++ ⟨5, noV⟩ :: b) w (a.length + 1 + k)).col = (pgs b w k).col ∧ (pgs (a ++ ⟨5, noV⟩ :: b) w (a.length + 1 + k)).due = (pgs b w k).due ∧
      (((pgs b w k).fl = -1 ∧ (pgs (a ++ ⟨5, noV⟩ :: b) w (a.length + 1 + k)).fl = -1) ∨ ((pgs b w k).fl ≠ -1 ∧ (pgs (a ++ ⟨5, noV⟩ :: b) w (a.length + 1 + k)).fl = (pgs b w k).fl + ((a.length + 1 : Nat) : Int))) := by
    intro k
    induction k with
    | zero =>
      intro _
      rw [Nat.add_zero, pgs_ahead ha _ (Nat.le_refl _), ho]
      exact ⟨(List.append_nil _).symm, rfl, rfl, rfl, .inl ⟨rfl, rfl⟩⟩
    | succ k ih =>
      intro hk
      obtain ⟨h1, h2, h3, h4, h5⟩ := ih (by omega)
      obtain ⟨x, hx⟩ : ∃ x, b[k]? = some x := ⟨_, List.getElem?_eq_getElem (by omega)⟩
      have hx2 : (a ++ ⟨5, noV⟩ :: b)[a.length + 1 + k]? = some x := by
        rw [hX, List.getElem?_append_right (by rw [hK]; omega), hK, Nat.add_sub_cancel_left]; exact hx
      have hinv := (pgs_inv w hb hlb k (by omega)).fl
      rw [← Nat.add_assoc, pgs_next hx2, pgs_next hx]
      have hneed : x.m = 6 → nec (a ++ ⟨5, noV⟩ :: b) (a.length + 1 + k) = nec b k ∧ mtc (a ++ ⟨5, noV⟩ :: b) (a.length + 1 + k) = mtc b k + ((a.length + 1 : Nat) : Int) ∧ mtc b k ≠ -1 := fun h6 => by
        obtain ⟨m, hmt⟩ := may_mt hb hx h6
        have h' := mt_behind (a ++ [⟨5, noV⟩]) hmt
        rw [hK, ← hX] at h'
        have e := ndF_behind (a ++ [⟨5, noV⟩]) b k m
        rw [hK, ← hX] at e
        rw [(nec_spec _ _).is h', (nec_spec b k).is hmt, e, (mtc_spec _ _).is h', (mtc_spec b k).is hmt]
        exact ⟨rfl, by omega, by omega⟩
      generalize pgs b w k = p at *
      generalize pgs (a ++ ⟨5, noV⟩ :: b) w (a.length + 1 + k) = q at *
      have hff : q.fl = -1 ↔ p.fl = -1 := by
        rcases h5 with ⟨e1, e2⟩ | ⟨e1, e2⟩
        · exact ⟨fun _ => e1, fun _ => e2⟩
        · rcases hinv with h | ⟨_, m, -, -, h, -⟩
          · exact absurd h e1
          · constructor <;> intro h' <;> omega
      rcases bitF_ways w (nec b k) (mtc b k) k x p with ⟨e, c, g⟩ | ⟨e, c, g⟩ | ⟨e, c, g⟩ | ⟨e, c, g⟩ | ⟨e, g⟩ | ⟨e, g⟩ | ⟨e, c, g⟩ | ⟨e6, e7, e8, e9, c, g⟩ <;> rw [g]
      · obtain ⟨n1, n2, n3⟩ := hneed e
        rw [bitF_open e (hff.2 c.1) (by omega) (by omega)]
        exact ⟨h1, h2, h3, h4, .inr ⟨n3, n2⟩⟩
      · obtain ⟨n1, n2, n3⟩ := hneed e
        rw [bitF_open_no e (fun h => c ⟨hff.1 h.1, by omega, by omega⟩)]
        exact ⟨h1, h2, h3, h4, h5⟩
      · have hq : q.fl = ((a.length + 1 + k : Nat) : Int) := by
          rcases h5 with ⟨e1, e2⟩ | ⟨e1, e2⟩ <;> omega
        rw [bitF_close e hq]
        exact ⟨h1, h2, h3, h4, .inl ⟨rfl, rfl⟩⟩
      · have hq : q.fl ≠ ((a.length + 1 + k : Nat) : Int) := by
          rcases h5 with ⟨e1, e2⟩ | ⟨e1, e2⟩ <;> omega
        rw [bitF_close_no e hq]
        exact ⟨h1, h2, h3, h4, h5⟩
      · rw [bitF_in e]; exact ⟨h1, by show q.ind + 2 = p.ind + 2; omega, h3, h4, h5⟩
      · rw [bitF_out e]; exact ⟨h1, by show q.ind - 2 = p.ind - 2; omega, h3, h4, h5⟩
      · rw [bitF_line e (c.imp hff.2 id)]
        refine ⟨?_, h2, h2, h2, h5⟩
        show q.out ++ [10] = o ++ (p.out ++ [10])
        rw [h1, List.append_assoc]
      · rw [bitF_put e6 e7 e8 e9 (fun h => c ⟨h.1, h.2.imp hff.1 id⟩)]
        unfold putF
        split
        · exact ⟨h1, h2, h3, h4, h5⟩
        · refine ⟨?_, h2, ?_, rfl, h5⟩
          · show q.out ++ _ = o ++ (p.out ++ _)
            rw [h1, h4, List.append_assoc]
          · show q.col + _ = p.col + _
            rw [h3]
  rw [(key b.length (Nat.le_refl _)).1, ho]
end Go.Proofs.Ytfcjihfnimefhaa
