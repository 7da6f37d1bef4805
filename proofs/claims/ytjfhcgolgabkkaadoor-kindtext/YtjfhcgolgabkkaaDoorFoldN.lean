/- Plain mathematics of layer 7: lines, indents, folding. No program. -/
import Derived.Test.YtjfhcgolgabkkaaDoorFoldM
namespace Go.Proofs.YtjfhcgolgabkkaaDoor.Fo
set_option linter.unusedVariables false

/-! ### Lines -/
/-- A byte ahead of the first line. -/
def addF (c : UInt8) : List (List UInt8) → List (List UInt8)
  | [] => [[c]]
  | h :: r => (c :: h) :: r
/-- The lines of l; p: a byte 13 stands ahead of it. -/
def lnA : Bool → List UInt8 → List (List UInt8)
  | _, [] => [[]]
  | p, c :: t => if c = 10 then (if p = true then lnA false t else [] :: lnA false t) else if c = 13 then [] :: lnA true t else addF c (lnA false t)
def lns (l : List UInt8) : List (List UInt8) := lnA false l
def skp : List UInt8 → List UInt8
  | [] => []
  | c :: t => if c = 10 then t else c :: t
def noE (l : List UInt8) : Prop := ∀ b ∈ l, b ≠ 10 ∧ b ≠ 13

theorem lnA_10 (t : List UInt8) : lnA false (10 :: t) = [] :: lnA false t := rfl
theorem lnA_s10 (t : List UInt8) : lnA true (10 :: t) = lnA false t := rfl
theorem lnA_13 (p : Bool) (t : List UInt8) : lnA p (13 :: t) = [] :: lnA true t := by cases p <;> rfl
theorem lnA_c {c : UInt8} (h1 : c ≠ 10) (h2 : c ≠ 13) (p : Bool) (t : List UInt8) : lnA p (c :: t) = addF c (lnA false t) := by
  conv => lhs; unfold lnA
  rw [if_neg h1, if_neg h2]
theorem skp_c {c : UInt8} (h : c ≠ 10) (t : List UInt8) : skp (c :: t) = c :: t := by simp [skp, h]
theorem lnA_true (t : List UInt8) : lnA true t = lns (skp t) := by
  cases t with
  | nil => rfl
  | cons c t =>
    by_cases h : c = 10
    · subst h; simp [skp, lnA_s10, lns]
    · rw [skp_c h]
      by_cases h2 : c = 13
      · subst h2; rw [lns, lnA_13, lnA_13]
      · rw [lns, lnA_c h h2, lnA_c h h2]
theorem addF_ne (c : UInt8) (ls : List (List UInt8)) : addF c ls ≠ [] := by cases ls <;> simp [addF]
theorem lnA_ne (p : Bool) (l : List UInt8) : lnA p l ≠ [] := by
  induction l generalizing p with
  | nil => simp [lnA]
  | cons c t ih =>
    unfold lnA
    split
    · split
      · exact ih _
      · simp
    · split
      · simp
      · exact addF_ne _ _
theorem lns_ne (l : List UInt8) : lns l ≠ [] := lnA_ne _ _
theorem lns_pos (l : List UInt8) : 1 ≤ (lns l).length := List.length_pos_iff.2 (lns_ne l)
theorem addF_app {c : UInt8} {a b : List (List UInt8)} (h : a ≠ []) : addF c (a ++ b) = addF c a ++ b := by
  cases a with
  | nil => exact absurd rfl h
  | cons x y => rfl
/-- Bytes ahead of the first line. -/
def addL (s : List UInt8) : List (List UInt8) → List (List UInt8)
  | [] => [s]
  | h :: r => (s ++ h) :: r
theorem lns_seg {s : List UInt8} (h : noE s) (t : List UInt8) : lns (s ++ t) = addL s (lns t) := by
  induction s with
  | nil => cases e : lns t with
    | nil => exact absurd e (lns_ne t)
    | cons a b => simp [addL, e]
  | cons c s ih =>
    have hc := h c (by simp)
    have := ih (fun b hb => h b (by simp [hb]))
    rw [List.cons_append, lns, lnA_c hc.1 hc.2]
    unfold lns at this
    rw [this]
    show addF c (addL s (lns t)) = _
    cases e : lns t with
    | nil => exact absurd e (lns_ne t)
    | cons a b => rfl
theorem lns_10 {s : List UInt8} (h : noE s) (t : List UInt8) : lns (s ++ 10 :: t) = s :: lns t := by
  rw [lns_seg h, lns, lnA_10]; simp [addL, lns]
theorem lns_13 {s : List UInt8} (h : noE s) (t : List UInt8) : lns (s ++ 13 :: t) = s :: lns (skp t) := by
  rw [lns_seg h, lns, lnA_13, lnA_true]; simp [addL]
theorem lns_one {s : List UInt8} (h : noE s) : lns s = [s] := by
  have := lns_seg h []
  rw [List.append_nil] at this
  rw [this]; simp [lns, lnA, addL]
theorem lnA_noE (p : Bool) (l : List UInt8) : ∀ x ∈ lnA p l, noE x := by
  induction l generalizing p with
  | nil => intro x hx; simp [lnA] at hx; subst hx; intro b hb; simp at hb
  | cons c t ih =>
    unfold lnA
    split
    · split
      · exact ih _
      · intro x hx
        rcases List.mem_cons.1 hx with rfl | hx
        · intro b hb; simp at hb
        · exact ih _ x hx
    · split
      · intro x hx
        rcases List.mem_cons.1 hx with rfl | hx
        · intro b hb; simp at hb
        · exact ih _ x hx
      · rename_i h1 h2
        intro x hx
        have hr := ih false
        cases e : lnA false t with
        | nil => exact absurd e (lnA_ne _ _)
        | cons a r =>
          rw [e] at hx hr
          rcases List.mem_cons.1 hx with rfl | hx
          · intro b hb
            rcases List.mem_cons.1 hb with rfl | hb
            · exact ⟨h1, h2⟩
            · exact hr a (by simp) b hb
          · exact hr x (by simp [hx])
theorem lns_noE (l : List UInt8) : ∀ x ∈ lns l, noE x := lnA_noE _ _
theorem addF_len (c : UInt8) {ls : List (List UInt8)} (h : ls ≠ []) : (addF c ls).length = ls.length := by
  cases ls with
  | nil => exact absurd rfl h
  | cons a b => rfl
theorem lns_len1 {l : List UInt8} (h : (lns l).length = 1) : noE l := by
  induction l with
  | nil => intro b hb; simp at hb
  | cons c t ih =>
    by_cases h1 : c = 10
    · subst h1; rw [lns, lnA_10] at h
      simp at h; exact absurd h (lnA_ne _ _)
    · by_cases h2 : c = 13
      · subst h2; rw [lns, lnA_13] at h
        simp at h; exact absurd h (lnA_ne _ _)
      · rw [lns, lnA_c h1 h2, addF_len _ (lnA_ne _ _)] at h
        intro b hb
        rcases List.mem_cons.1 hb with rfl | hb
        · exact ⟨h1, h2⟩
        · exact ih h b hb

/-- Is the last byte 13? p: if there is none. -/
def fl : Bool → List UInt8 → Bool
  | p, [] => p
  | p, c :: t => fl (c == 13) t
theorem fl_last {a : List UInt8} (h : a.getLast? ≠ some 13) : fl false a = false := by
  have : ∀ (a : List UInt8) (p : Bool), (a = [] → p = false) → a.getLast? ≠ some 13 → fl p a = false := by
    intro a
    induction a with
    | nil => intro p hp _; exact hp rfl
    | cons c t ih =>
      intro p hp hl
      unfold fl
      refine ih _ (fun ht => ?_) ?_
      · subst ht; simp at hl; simpa using hl
      · cases t with
        | nil => simp
        | cons d t => simpa [List.getLast?_cons_cons] using hl
  exact this a false (fun _ => rfl) h
theorem lnA_app10 {a : List UInt8} {p : Bool} (h : fl p a = false) (b : List UInt8) : lnA p (a ++ 10 :: b) = lnA p a ++ lns b := by
  induction a generalizing p with
  | nil => obtain rfl : p = false := h; rfl
  | cons c t ih =>
    unfold fl at h
    by_cases h1 : c = 10
    · subst h1
      have := ih (p := false) h
      cases p
      · rw [List.cons_append, lnA_10, lnA_10, this]; rfl
      · rw [List.cons_append, lnA_s10, lnA_s10, this]
    · by_cases h2 : c = 13
      · subst h2
        rw [List.cons_append, lnA_13, lnA_13, ih (p := true) h]; rfl
      · have hc : (c == 13) = false := by simpa using h2
        rw [hc] at h
        rw [List.cons_append, lnA_c h1 h2, lnA_c h1 h2, ih h, addF_app (lnA_ne _ _)]
theorem lnA_app13 (a : List UInt8) (p : Bool) (b : List UInt8) : lnA p (a ++ 13 :: b) = lnA p a ++ lns (skp b) := by
  induction a generalizing p with
  | nil => rw [List.nil_append, lnA_13, lnA_true]; rfl
  | cons c t ih =>
    by_cases h1 : c = 10
    · subst h1
      cases p
      · rw [List.cons_append, lnA_10, lnA_10, ih]; rfl
      · rw [List.cons_append, lnA_s10, lnA_s10, ih]
    · by_cases h2 : c = 13
      · subst h2
        rw [List.cons_append, lnA_13, lnA_13, ih]; rfl
      · rw [List.cons_append, lnA_c h1 h2, lnA_c h1 h2, ih, addF_app (lnA_ne _ _)]
theorem skp_no {b : List UInt8} (h : b.head? ≠ some 10) : skp b = b := by
  cases b with
  | nil => rfl
  | cons c t => exact skp_c (by simpa using h) t
theorem lns_app10 {a : List UInt8} (h : a.getLast? ≠ some 13) (b : List UInt8) : lns (a ++ 10 :: b) = lns a ++ lns b := lnA_app10 (fl_last h) b
theorem lns_app13 (a : List UInt8) {b : List UInt8} (h : b.head? ≠ some 10) : lns (a ++ 13 :: b) = lns a ++ lns b := by
  have := lnA_app13 a false b
  rwa [skp_no h] at this
theorem lns_app1310 (a b : List UInt8) : lns (a ++ 13 :: 10 :: b) = lns a ++ lns b := lnA_app13 a false (10 :: b)

/-- Lines with bytes 10 between have just these lines. -/
theorem lns_join {xs : List (List UInt8)} (h : ∀ x ∈ xs, noE x) (h0 : xs ≠ []) : lns (Lib.join xs [10]) = xs := by
  induction xs with
  | nil => exact absurd rfl h0
  | cons x r ih =>
    cases r with
    | nil => rw [Lib.join_one]; exact lns_one (h x (by simp))
    | cons y r =>
      have e : Lib.join (x :: y :: r) [10] = x ++ 10 :: Lib.join (y :: r) [10] := by
        rw [Lib.join_cons, Lib.join_cons]; simp [Lib.joinTail]
      rw [e, lns_10 (h x (by simp)), ih (fun z hz => h z (by simp [hz])) (by simp)]

/-! ### Indents -/
def blB (c : UInt8) : Bool := c == 9 || c == 32
def mg (l : List UInt8) : Nat := (l.takeWhile blB).length
def blk (l : List UInt8) : Bool := l.all blB
theorem mg_le (l : List UInt8) : mg l ≤ l.length := by
  unfold mg; exact (List.takeWhile_sublist _).length_le
theorem mg_nil : mg [] = 0 := rfl
theorem mg_y {c : UInt8} (h : blB c = true) (t : List UInt8) : mg (c :: t) = mg t + 1 := by unfold mg; rw [List.takeWhile_cons, if_pos h]; rfl
theorem mg_n {c : UInt8} (h : blB c = false) (t : List UInt8) : mg (c :: t) = 0 := by unfold mg; rw [List.takeWhile_cons, if_neg (by simp [h])]; rfl
theorem blk_cons (c : UInt8) (t : List UInt8) : blk (c :: t) = (blB c && blk t) := by simp [blk]
theorem blk_mg (l : List UInt8) : blk l = true ↔ mg l = l.length := by
  induction l with
  | nil => simp [blk, mg]
  | cons c t ih =>
    cases h : blB c
    · rw [mg_n h, blk_cons, h]; simp
    · rw [mg_y h, blk_cons, h, Bool.true_and, ih]; simp
theorem blk_no {l : List UInt8} (h : blk l = false) : mg l < l.length := by
  have := mg_le l
  have h2 : mg l ≠ l.length := fun e => by rw [(blk_mg l).2 e] at h; cases h
  omega
theorem blk_ne {l : List UInt8} (h : blk l = false) : l ≠ [] := by rintro rfl; cases h
theorem blk_drop {l : List UInt8} (h : blk l = true) (n : Nat) : blk (l.drop n) = true := by
  unfold blk at h ⊢
  rw [List.all_eq_true] at h ⊢
  exact fun x hx => h x (List.mem_of_mem_drop hx)
theorem mg_drop {l : List UInt8} {n : Nat} (h : n ≤ mg l) : mg (l.drop n) = mg l - n ∧ blk (l.drop n) = blk l := by
  induction n generalizing l with
  | zero => simp
  | succ n ih =>
    cases l with
    | nil => rw [mg_nil] at h; omega
    | cons c t =>
      cases hc : blB c
      · rw [mg_n hc] at h; omega
      · rw [mg_y hc] at h ⊢
        have := ih (l := t) (by omega)
        rw [List.drop_succ_cons, blk_cons, hc, Bool.true_and, this.1]
        exact ⟨by omega, this.2⟩
/-- What stands at the end of an indent. -/
theorem mg_at {l : List UInt8} {k : Nat} (h : ∀ j, j < k → ∃ c, l[j]? = some c ∧ blB c = true) (hk : k = l.length ∨ ∃ c, l[k]? = some c ∧ blB c = false) : mg l = k := by
  induction k generalizing l with
  | zero =>
    cases l with
    | nil => rfl
    | cons c t =>
      rcases hk with hk | ⟨d, hd, hb⟩
      · simp at hk
      · simp at hd; subst hd; exact mg_n hb t
  | succ k ih =>
    cases l with
    | nil => obtain ⟨c, hc, _⟩ := h 0 (by omega); simp at hc
    | cons c t =>
      obtain ⟨d, hd, hb⟩ := h 0 (by omega)
      simp at hd; subst hd
      rw [mg_y hb, ih (l := t)]
      · intro j hj; have := h (j + 1) (by omega); simpa using this
      · rcases hk with hk | ⟨d, hd, hb2⟩
        · left; simpa using hk
        · right; exact ⟨d, by simpa using hd, hb2⟩

def indS (a : Int) (x : List UInt8) : Int := if blk x = true then a else if a < 0 ∨ (mg x : Int) < a then mg x else a
def indT (t : List (List UInt8)) : Int := t.foldl indS (-1)
/-- The least indent of the lines but the first one. -/
def ind (ls : List (List UInt8)) : Int := indT ls.tail
theorem indS_b {x : List UInt8} (h : blk x = true) (a : Int) : indS a x = a := by unfold indS; rw [if_pos h]
theorem indS_y {x : List UInt8} (h : blk x = false) {a : Int} (k : a < 0 ∨ (mg x : Int) < a) : indS a x = mg x := by unfold indS; rw [if_neg (by simp [h]), if_pos k]
theorem indS_n {x : List UInt8} {a : Int} (k : ¬ (a < 0 ∨ (mg x : Int) < a)) : indS a x = a := by
  unfold indS; rw [if_neg k]; split <;> rfl
theorem indF_is (t : List (List UInt8)) (a : Int) (ha : -1 ≤ a) : (t.foldl indS a = a ∧ ∀ y ∈ t, blk y = false → 0 ≤ a ∧ a ≤ mg y) ∨
    (∃ x ∈ t, blk x = false ∧ t.foldl indS a = mg x ∧ (a < 0 ∨ (mg x : Int) < a) ∧ ∀ y ∈ t, blk y = false → mg x ≤ mg y) := by
  induction t generalizing a with
  | nil => left; simp
  | cons x t ih =>
    rw [List.foldl_cons]
    cases hb : blk x
    · by_cases hk : a < 0 ∨ (mg x : Int) < a
      · rw [indS_y hb hk]
        rcases ih (mg x) (by omega) with ⟨e, h⟩ | ⟨z, hz, h1, h2, h3, h4⟩
        · right
          refine ⟨x, by simp, hb, e, hk, fun y hy hyb => ?_⟩
          rcases List.mem_cons.1 hy with rfl | hy
          · exact Nat.le_refl _
          · have := (h y hy hyb).2; omega
        · right
          refine ⟨z, by simp [hz], h1, h2, by omega, fun y hy hyb => ?_⟩
          rcases List.mem_cons.1 hy with rfl | hy
          · omega
          · exact h4 y hy hyb
      · rw [indS_n hk]
        rcases ih a ha with ⟨e, h⟩ | ⟨z, hz, h1, h2, h3, h4⟩
        · left
          refine ⟨e, fun y hy hyb => ?_⟩
          rcases List.mem_cons.1 hy with rfl | hy
          · omega
          · exact h y hy hyb
        · right
          refine ⟨z, by simp [hz], h1, h2, h3, fun y hy hyb => ?_⟩
          rcases List.mem_cons.1 hy with rfl | hy
          · omega
          · exact h4 y hy hyb
    · rw [indS_b hb]
      rcases ih a ha with ⟨e, h⟩ | ⟨z, hz, h1, h2, h3, h4⟩
      · left
        refine ⟨e, fun y hy hyb => ?_⟩
        rcases List.mem_cons.1 hy with rfl | hy
        · rw [hb] at hyb; cases hyb
        · exact h y hy hyb
      · right
        refine ⟨z, by simp [hz], h1, h2, h3, fun y hy hyb => ?_⟩
        rcases List.mem_cons.1 hy with rfl | hy
        · rw [hb] at hyb; cases hyb
        · exact h4 y hy hyb
theorem indT_is (t : List (List UInt8)) : (indT t = -1 ∧ ∀ y ∈ t, blk y = true) ∨ (∃ x ∈ t, blk x = false ∧ indT t = mg x ∧ ∀ y ∈ t, blk y = false → mg x ≤ mg y) := by
  rcases indF_is t (-1) (by omega) with ⟨e, h⟩ | ⟨x, hx, h1, h2, _, h3⟩
  · left
    refine ⟨e, fun y hy => ?_⟩
    cases hb : blk y
    · have := (h y hy hb).1; omega
    · rfl
  · exact .inr ⟨x, hx, h1, h2, h3⟩
theorem indF_bd (t : List (List UInt8)) (a : Int) (ha : -1 ≤ a) : -1 ≤ t.foldl indS a := by
  rcases indF_is t a ha with ⟨e, _⟩ | ⟨x, _, _, e, _⟩ <;> omega
theorem ind_bd (ls : List (List UInt8)) : -1 ≤ ind ls := indF_bd _ _ (by omega)

/-! ### Folding -/
def cutL (n : Int) : List (List UInt8) → List (List UInt8)
  | [] => []
  | h :: t => h :: t.map (·.drop n.toNat)
def rtr (ls : List (List UInt8)) : List (List UInt8) := (ls.reverse.dropWhile blk).reverse
def trm (ls : List (List UInt8)) : List (List UInt8) := rtr (ls.dropWhile blk)
/-- The lines of what is folded. -/
def fls (l : List UInt8) : List (List UInt8) := trm (cutL (ind (lns l)) (lns l))
/-- What is folded. -/
def fld (l : List UInt8) : List UInt8 := Lib.join (fls l) [10]

theorem cut_len (n : Int) (ls : List (List UInt8)) : (cutL n ls).length = ls.length := by cases ls <;> simp [cutL]
theorem cut_no {n : Int} (h : n ≤ 0) (ls : List (List UInt8)) : cutL n ls = ls := by
  cases ls with
  | nil => rfl
  | cons x t => have : n.toNat = 0 := by omega
                simp [cutL, this]
theorem rtr_y {ls : List (List UInt8)} {x : List UInt8} (h : blk x = true) : rtr (ls ++ [x]) = rtr ls := by simp [rtr, h]
theorem rtr_n {ls : List (List UInt8)} {x : List UInt8} (h : blk x = false) : rtr (ls ++ [x]) = ls ++ [x] := by simp [rtr, h]
theorem rtr_nil : rtr [] = [] := rfl
theorem trm_y {ls : List (List UInt8)} {x : List UInt8} (h : blk x = true) : trm (x :: ls) = trm ls := by simp [trm, h]
theorem dw_drop (ls : List (List UInt8)) {k : Nat} (h : ∀ j, j < k → ∃ x, ls[j]? = some x ∧ blk x = true) (hk : k = ls.length ∨ ∃ x, ls[k]? = some x ∧ blk x = false) : ls.dropWhile blk = ls.drop k := by
  induction k generalizing ls with
  | zero =>
    cases ls with
    | nil => rfl
    | cons c t =>
      rcases hk with hk | ⟨d, hd, hb⟩
      · simp at hk
      · simp at hd; subst hd; simp [hb]
  | succ k ih =>
    cases ls with
    | nil => obtain ⟨c, hc, _⟩ := h 0 (by omega); simp at hc
    | cons c t =>
      obtain ⟨d, hd, hb⟩ := h 0 (by omega)
      simp at hd; subst hd
      rw [List.dropWhile_cons, if_pos hb, List.drop_succ_cons]
      refine ih t (fun j hj => ?_) ?_
      · have := h (j + 1) (by omega); simpa using this
      · rcases hk with hk | ⟨d, hd, hb2⟩
        · left; simpa using hk
        · right; exact ⟨d, by simpa using hd, hb2⟩
theorem rtr_sub (ls : List (List UInt8)) : (rtr ls).Sublist ls := by
  unfold rtr
  have := (List.dropWhile_sublist (p := blk) (l := ls.reverse)).reverse
  rwa [List.reverse_reverse] at this
theorem trm_sub (ls : List (List UInt8)) : (trm ls).Sublist ls := (rtr_sub _).trans (List.dropWhile_sublist _)
theorem rtr_mem {ls : List (List UInt8)} {x : List UInt8} (hx : x ∈ ls) (h : blk x = false) : x ∈ rtr ls := by
  unfold rtr
  rw [List.mem_reverse]
  have hx2 : x ∈ ls.reverse := by simpa using hx
  have : ∀ l : List (List UInt8), x ∈ l → x ∈ l.dropWhile blk := by
    intro l hl
    induction l with
    | nil => exact hl
    | cons y l ih =>
      rw [List.dropWhile_cons]
      cases hy : blk y
      · simpa using hl
      · rcases List.mem_cons.1 hl with rfl | hl
        · rw [hy] at h; cases h
        · simpa using ih hl
  exact this _ hx2
theorem dw_mem {ls : List (List UInt8)} {x : List UInt8} (hx : x ∈ ls) (h : blk x = false) : x ∈ ls.dropWhile blk := by
  induction ls with
  | nil => exact hx
  | cons y l ih =>
    rw [List.dropWhile_cons]
    cases hy : blk y
    · simpa using hx
    · rcases List.mem_cons.1 hx with rfl | hx
      · rw [hy] at h; cases h
      · simpa using ih hx
theorem trm_mem {ls : List (List UInt8)} {x : List UInt8} (hx : x ∈ ls) (h : blk x = false) : x ∈ trm ls := rtr_mem (dw_mem hx h) h
theorem rtr_last (ls : List (List UInt8)) : ∀ x, (rtr ls).getLast? = some x → blk x = false := by
  intro x hx
  unfold rtr at hx
  rw [List.getLast?_reverse] at hx
  have := List.head?_dropWhile_not blk ls.reverse
  rw [hx] at this
  simpa using this
theorem rtr_head {ls : List (List UInt8)} {x : List UInt8} {t : List (List UInt8)} (h : ls = x :: t) (hb : blk x = false) : ∃ t', rtr ls = x :: t' := by
  subst h
  obtain ⟨p, hp⟩ : ∃ p, p ++ (x :: t).reverse.dropWhile blk = (x :: t).reverse := ⟨_, List.takeWhile_append_dropWhile⟩
  have hm := rtr_mem (List.mem_cons_self (a := x) (l := t)) hb
  have e : rtr (x :: t) ++ p.reverse = x :: t := by
    unfold rtr
    rw [← List.reverse_append, hp, List.reverse_reverse]
  cases h2 : rtr (x :: t) with
  | nil => rw [h2] at hm; simp at hm
  | cons y t' => rw [h2] at e; injection e with e1 _; subst e1; exact ⟨t', rfl⟩
/-- What is left begins and ends by no blank line. -/
theorem trm_ends (ls : List (List UInt8)) : trm ls = [] ∨ ((∃ x, (trm ls).head? = some x ∧ blk x = false) ∧ ∃ y, (trm ls).getLast? = some y ∧ blk y = false) := by
  cases h : trm ls with
  | nil => exact .inl rfl
  | cons x t =>
    right
    refine ⟨?_, ?_⟩
    · cases h2 : ls.dropWhile blk with
      | nil => unfold trm at h; rw [h2] at h; cases h
      | cons y r =>
        have hy : blk y = false := by
          have := List.head?_dropWhile_not blk ls
          rw [h2] at this; simpa using this
        obtain ⟨t', e⟩ := rtr_head h2 hy
        unfold trm at h
        rw [h] at e
        injection e with e1 _
        exact ⟨x, rfl, by rw [e1]; exact hy⟩
    · obtain ⟨z, hz⟩ : ∃ z, (x :: t).getLast? = some z := ⟨_, List.getLast?_cons⟩
      refine ⟨z, hz, rtr_last (ls.dropWhile blk) z ?_⟩
      unfold trm at h; rw [h]; exact hz
theorem rtr_id {ls : List (List UInt8)} {x : List UInt8} (h : ls.getLast? = some x) (hb : blk x = false) : rtr ls = ls := by
  obtain ⟨t, rfl⟩ := List.getLast?_eq_some_iff.1 h
  exact rtr_n hb
theorem trm_id {ls : List (List UInt8)} {x y : List UInt8} (h : ls.head? = some x) (hb : blk x = false) (h2 : ls.getLast? = some y) (hb2 : blk y = false) : trm ls = ls := by
  cases ls with
  | nil => simp at h
  | cons a t =>
    simp at h; subst h
    unfold trm
    rw [List.dropWhile_cons, if_neg (by simp [hb])]
    exact rtr_id h2 hb2

theorem mem_cut {n : Int} {ls : List (List UInt8)} (h : ∀ x ∈ ls, noE x) : ∀ x ∈ cutL n ls, noE x := by
  cases ls with
  | nil => exact h
  | cons a t =>
    intro x hx
    rcases List.mem_cons.1 hx with rfl | hx
    · exact h x (by simp)
    · obtain ⟨y, hy, rfl⟩ := List.mem_map.1 hx
      exact fun b hb => h y (by simp [hy]) b (List.mem_of_mem_drop hb)
theorem fls_noE (l : List UInt8) : ∀ x ∈ fls l, noE x := fun x hx => mem_cut (lns_noE l) x ((trm_sub _).mem hx)
theorem fls_join {l : List UInt8} (h : fls l ≠ []) : lns (fld l) = fls l := lns_join (fls_noE l) h
theorem fld_nil {l : List UInt8} (h : fls l = []) : fld l = [] := by unfold fld; rw [h]; rfl
theorem fld_ne {l : List UInt8} (h : fls l ≠ []) : fld l ≠ [] := by
  rcases trm_ends (cutL (ind (lns l)) (lns l)) with h0 | ⟨⟨x, hx, hb⟩, _⟩
  · exact absurd h0 h
  · intro e
    have := fls_join h
    rw [e] at this
    change (fls l).head? = some x at hx
    rw [← this] at hx
    simp [lns, lnA] at hx
    subst hx; cases hb

/-- How many bytes lines take, with an end each. -/
def wgt (ls : List (List UInt8)) : Nat := Lib.lens ls + ls.length
theorem wgt_cons (x : List UInt8) (t : List (List UInt8)) : wgt (x :: t) = x.length + 1 + wgt t := by simp [wgt, Lib.lens]; omega
theorem wgt_nil : wgt [] = 0 := rfl
theorem wgt_sub {a b : List (List UInt8)} (h : a.Sublist b) : wgt a ≤ wgt b := by
  induction h with
  | slnil => exact Nat.le_refl _
  | cons x _ ih => rw [wgt_cons]; omega
  | cons_cons x _ ih => rw [wgt_cons, wgt_cons]; omega
theorem lnA_wgt (p : Bool) (l : List UInt8) : wgt (lnA p l) ≤ l.length + 1 := by
  induction l generalizing p with
  | nil => simp [lnA, wgt, Lib.lens]
  | cons c t ih =>
    unfold lnA
    have h1 := ih false
    have h2 := ih true
    split
    · split
      · simp; omega
      · rw [wgt_cons]; simp; omega
    · split
      · rw [wgt_cons]; simp; omega
      · cases e : lnA false t with
        | nil => exact absurd e (lnA_ne _ _)
        | cons a r => rw [e, wgt_cons] at h1; simp only [addF]; rw [wgt_cons]; simp; omega
theorem cut_wgt (n : Int) (ls : List (List UInt8)) : wgt (cutL n ls) ≤ wgt ls := by
  cases ls with
  | nil => exact Nat.le_refl _
  | cons a t =>
    simp only [cutL]; rw [wgt_cons, wgt_cons]
    have : ∀ t : List (List UInt8), wgt (t.map (·.drop n.toNat)) ≤ wgt t := by
      intro t
      induction t with
      | nil => simp
      | cons x t ih => rw [List.map_cons, wgt_cons, wgt_cons]; simp; omega
    have := this t; omega
theorem join_wgt (ls : List (List UInt8)) : (Lib.join ls [10]).length + 1 ≤ wgt ls + 1 ∧ (ls ≠ [] → (Lib.join ls [10]).length + 1 = wgt ls) := by
  cases ls with
  | nil => simp [Lib.join_nil]
  | cons a t =>
    have e : (Lib.join (a :: t) [10]).length + 1 = wgt (a :: t) := by
      rw [Lib.join_cons, List.length_append, Lib.joinTail_length, wgt_cons]; simp [wgt]; omega
    exact ⟨by omega, fun _ => e⟩
theorem fld_len (l : List UInt8) : (fld l).length ≤ l.length := by
  by_cases h : fls l = []
  · rw [fld_nil h]; simp
  · have h1 := (join_wgt (fls l)).2 h
    have h2 := wgt_sub (trm_sub (cutL (ind (lns l)) (lns l)))
    have h3 := cut_wgt (ind (lns l)) (lns l)
    have h4 := lnA_wgt false l
    change wgt (fls l) ≤ _ at h2
    change wgt (lns l) ≤ _ at h4
    unfold fld; omega
theorem lns_count (l : List UInt8) : (lns l).length ≤ l.length + 1 := by
  have := lnA_wgt false l
  change wgt (lns l) ≤ _ at this
  unfold wgt at this; omega
theorem join_13 {ls : List (List UInt8)} (h : ∀ x ∈ ls, noE x) : ∀ b ∈ Lib.join ls [10], b ≠ 13 := by
  cases ls with
  | nil => intro b hb; simp [Lib.join_nil] at hb
  | cons a t =>
    intro b hb
    rw [Lib.join_cons, List.mem_append] at hb
    rcases hb with hb | hb
    · exact (h a (by simp) b hb).2
    · unfold Lib.joinTail at hb
      rw [List.mem_flatten] at hb
      obtain ⟨y, hy, hby⟩ := hb
      obtain ⟨z, hz, rfl⟩ := List.mem_map.1 hy
      rcases List.mem_append.1 hby with hb | hb
      · simp at hb; subst hb; decide
      · exact (h z (by simp [hz]) b hb).2
theorem fld_13 (l : List UInt8) : ∀ b ∈ fld l, b ≠ 13 := join_13 (fls_noE l)
end Go.Proofs.YtjfhcgolgabkkaaDoor.Fo
