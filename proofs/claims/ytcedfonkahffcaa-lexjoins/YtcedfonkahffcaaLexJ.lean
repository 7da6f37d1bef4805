/- Mathematics of the laws of layer 9: what stands behind an end of a line does not matter. No program. -/
import Derived.Test.YtcedfonkahffcaaLexG
import Derived.Test.YtcedfonkahffcaaLexM
namespace Go.Proofs.Ytcedfonkahffcaa
set_option linter.unusedVariables false

theorem pre_nl {p : List UInt8} (h : ∀ c ∈ p, c ≠ 10) (r b : List UInt8) : p.isPrefixOf (r ++ 10 :: b) = p.isPrefixOf r := by
  induction p generalizing r with
  | nil => rfl
  | cons x p ih =>
    cases r with
    | nil =>
      show ((x == 10) && p.isPrefixOf b) = false
      rw [show (x == 10) = false by simpa using h x (by simp)]; rfl
    | cons y r =>
      show ((x == y) && p.isPrefixOf (r ++ 10 :: b)) = ((x == y) && p.isPrefixOf r)
      rw [ih (fun c hc => h c (List.mem_cons_of_mem _ hc))]
theorem st_nl {r : List UInt8} (hr : r ≠ []) (b : List UInt8) : Sc.st (r ++ 10 :: b) = Sc.st r := by
  obtain ⟨c, t, rfl⟩ := List.exists_cons_of_ne_nil hr
  have hp := pre_nl (p := Sc.mkL) (by decide) (c :: t) b
  have hc := Sc.rn_halt (p := Sc.cmI) (c := 10) (c :: t) b (by decide)
  rw [List.cons_append] at hp hc ⊢
  rw [Sc.st_cons, Sc.st_cons, hp, hc]
theorem blT_nl (r b : List UInt8) : Sc.blT (r ++ 10 :: b) = if Sc.blT r < r.length then Sc.blT r else r.length + (1 + Sc.blT b) := by
  induction hn : r.length using Nat.strongRecOn generalizing r with
  | _ n ih =>
    subst hn
    by_cases hr : r = []
    · subst hr
      rw [if_neg (by simp [Sc.blT_nil]), List.nil_append, Sc.blT_go (n := 1) (by rw [Sc.st_cons]; rfl) (by decide)]
      simp
    · have hs := st_nl hr b
      by_cases h0 : Sc.st r = 0
      · have hl : 0 < r.length := List.length_pos_iff.2 hr
        rw [Sc.blT_stop h0, if_pos hl, Sc.blT_stop (by rw [hs]; exact h0)]
      · have hle := Sc.st_le r
        rw [Sc.blT_go hs h0, Sc.blT_go rfl h0, List.drop_append_of_le_length hle, ih (r.drop (Sc.st r)).length (by rw [List.length_drop]; omega) _ rfl, List.length_drop]
        by_cases hlt : Sc.blT (r.drop (Sc.st r)) < r.length - Sc.st r
        · rw [if_pos hlt, if_pos (by omega)]
        · rw [if_neg hlt, if_neg (by omega)]; omega

/-! ### Numbers -/
theorem sd_nl {p : Int → Bool} (hp : p 10 = false) {l : List UInt8} (b : List UInt8) {j : Int} (hj : j ≤ l.length) : Sc.sd p (l ++ 10 :: b) j = Sc.sd p l j := by
  by_cases h0 : 0 ≤ j
  · obtain ⟨k, rfl⟩ := Int.eq_ofNat_of_zero_le h0
    unfold Sc.sd
    by_cases hk : k < l.length
    · rw [decide_eq_true (by rw [List.length_append]; simp; omega), decide_eq_true (by omega), Int.toNat_natCast, List.getD_eq_getElem?_getD, List.getD_eq_getElem?_getD, List.getElem?_append_left hk]
    · have hk2 : k = l.length := by omega
      subst hk2
      rw [decide_eq_true (by rw [List.length_append, List.length_cons]; omega), decide_eq_false (p := (0 : Int) ≤ (l.length : Int) ∧ (l.length : Int) < (l.length : Int)) (by omega), Int.toNat_natCast, List.getD_eq_getElem?_getD, List.getElem?_append_right (Nat.le_refl _), Nat.sub_self]
      simpa using hp
  · rw [Sc.sd_out (.inl (by omega)), Sc.sd_out (.inl (by omega))]
theorem dgE_nl {l : List UInt8} (b : List UInt8) {j : Int} (hj : j ≤ l.length) : Sc.dgE (l ++ 10 :: b) j = Sc.dgE l j := by
  have hle := Sc.dgE_le hj
  refine Sc.dgE_uniq (Sc.dgE_ge l j) (fun k h1 h2 => ?_) ?_
  · rw [sd_nl (by decide) b (by omega)]; exact Sc.dgE_go h1 h2
  · rw [sd_nl (by decide) b hle]; exact Sc.dgE_stop l j
theorem fin_nl (k : Int) {l : List UInt8} (b : List UInt8) {j : Int} (hj : j ≤ l.length) : Sc.finA k (l ++ 10 :: b) j = Sc.finA k l j := by
  unfold Sc.finA; rw [sd_nl (by decide) b hj]
theorem sign_nl {l : List UInt8} (b : List UInt8) {j : Int} (hj : j ≤ l.length) : Sc.signA (l ++ 10 :: b) j = Sc.signA l j := by
  unfold Sc.signA; rw [sd_nl (by decide) b hj]
theorem sd_lt {p : Int → Bool} {l : List UInt8} {j : Int} (h : Sc.sd p l j = true) : j < l.length := (Sc.sd_true.1 h).2.1
theorem exp_nl (k : Int) {l : List UInt8} (b : List UInt8) {j : Int} (hj : j ≤ l.length) : Sc.expA k (l ++ 10 :: b) j = Sc.expA k l j := by
  cases h : Sc.sd (Sc.inS Sc.eB) l j
  · rw [Sc.expA_n h, Sc.expA_n (by rw [sd_nl (by decide) b hj]; exact h), fin_nl k b hj]
  · have h1 : j + 1 ≤ l.length := by have := sd_lt h; omega
    have h2 := Sc.sign_le h1
    have hs := sign_nl b h1
    have h' : Sc.sd (Sc.inS Sc.eB) (l ++ 10 :: b) j = true := by rw [sd_nl (by decide) b hj]; exact h
    cases hd : Sc.sd Sc.dgI l (Sc.signA l (j + 1))
    · rw [Sc.expA_w h hd, Sc.expA_w h' (by rw [hs, sd_nl (by decide) b h2]; exact hd), hs]
    · rw [Sc.expA_y h hd, Sc.expA_y h' (by rw [hs, sd_nl (by decide) b h2]; exact hd), hs, dgE_nl b h2, fin_nl 4 b (Sc.dgE_le h2)]
theorem frac_nl {l : List UInt8} (b : List UInt8) {j : Int} (hj : j ≤ l.length) : Sc.fracA (l ++ 10 :: b) j = Sc.fracA l j := by
  cases h : Sc.sd (Sc.inS Sc.dotB) l j
  · rw [Sc.fracA_n h, Sc.fracA_n (by rw [sd_nl (by decide) b hj]; exact h), exp_nl 3 b hj]
  · have h1 : j + 1 ≤ l.length := by have := sd_lt h; omega
    have h' : Sc.sd (Sc.inS Sc.dotB) (l ++ 10 :: b) j = true := by rw [sd_nl (by decide) b hj]; exact h
    cases hd : Sc.sd Sc.dgI l (j + 1)
    · rw [Sc.fracA_w h hd, Sc.fracA_w h' (by rw [sd_nl (by decide) b h1]; exact hd)]
    · rw [Sc.fracA_y h hd, Sc.fracA_y h' (by rw [sd_nl (by decide) b h1]; exact hd), dgE_nl b h1, exp_nl 4 b (Sc.dgE_le h1)]
theorem body_nl {l : List UInt8} (b : List UInt8) {j : Int} (hj : j ≤ l.length) : Sc.bodyA (l ++ 10 :: b) j = Sc.bodyA l j := by
  cases h : Sc.sd (Sc.inS Sc.zeroB) l j
  · have h' : Sc.sd (Sc.inS Sc.zeroB) (l ++ 10 :: b) j = false := by rw [sd_nl (by decide) b hj]; exact h
    cases hd : Sc.sd Sc.dgI l j
    · rw [Sc.bodyA_w h hd, Sc.bodyA_w h' (by rw [sd_nl (by decide) b hj]; exact hd)]
    · rw [Sc.bodyA_y h hd, Sc.bodyA_y h' (by rw [sd_nl (by decide) b hj]; exact hd), dgE_nl b hj, frac_nl b (Sc.dgE_le hj)]
  · have h1 : j + 1 ≤ l.length := by have := sd_lt h; omega
    rw [Sc.bodyA_z h, Sc.bodyA_z (by rw [sd_nl (by decide) b hj]; exact h), frac_nl b h1]
theorem num_nl (l b : List UInt8) : Sc.numA (l ++ 10 :: b) 0 = Sc.numA l 0 := by
  have h0 : (0 : Int) ≤ l.length := by omega
  have hm : Sc.minusA (l ++ 10 :: b) 0 = Sc.minusA l 0 := by unfold Sc.minusA; rw [sd_nl (by decide) b h0]
  unfold Sc.numA
  rw [hm, body_nl b (Sc.minus_le h0).2]

/-! ### Tokens -/
theorem take_nl {l : List UInt8} {n : Nat} (h : n ≤ l.length) (x : List UInt8) : (l ++ x).take n = l.take n := List.take_append_of_le_length h
theorem str_stay {l : List UInt8} (h : (strA l 0).b = true) (x : List UInt8) : strA (l ++ x) 0 = strA l 0 := by
  unfold strA at h ⊢
  split at h
  · rename_i hc
    obtain ⟨c, t, rfl⟩ := List.exists_cons_of_ne_nil (show l ≠ [] by intro e; rw [e] at hc; simp at hc)
    have hc2 : c = 34 := by simpa using hc.2
    subst hc2
    rw [if_pos hc, if_pos ⟨by omega, by simp⟩]
    simp only [Int.toNat_zero, Nat.zero_add, List.cons_append, List.drop_succ_cons, List.drop_zero] at h ⊢
    obtain ⟨p, v, y, rfl, hb, ⟨z, rfl, e⟩ | ⟨_, _, e⟩⟩ := bod_cut t
    · rw [e, List.append_assoc, List.cons_append, bod_ends hb]
    · rw [e] at h; cases h
  · cases h
theorem raw_stay {l : List UInt8} (h : (Fo.rawA l 0).b = true) (x : List UInt8) : Fo.rawA (l ++ x) 0 = Fo.rawA l 0 := by
  have hn := (Fo.rawA_n l 0).1
  have := Fo.rawA_stay (l := l) (k := 0) h (l.drop (Fo.rawA l 0).n ++ x)
  rw [List.drop_zero, ← List.append_assoc] at this
  change Fo.rawA (l.take (Fo.rawA l 0).n ++ l.drop (Fo.rawA l 0).n ++ x) 0 = Fo.rawA l 0 at this
  rw [List.take_append_drop] at this
  exact this
theorem tk_nl {r : List UInt8} (hr : r ≠ []) (he : (tk r).e ≠ 4) (b : List UInt8) : tk (r ++ 10 :: b) = tk r := by
  obtain ⟨c, t, rfl⟩ := List.exists_cons_of_ne_nil hr
  change (tkC c (c :: t)).e ≠ 4 at he
  change tkC c ((c :: t) ++ 10 :: b) = tkC c (c :: t)
  have hw := way c (c :: t)
  revert he hw
  generalize tkC c (c :: t) = r
  intro he hw
  refine way_eq ?_
  have hq := pre_nl (p := Fo.q3) (by decide) (c :: t) b
  have hd := pre_nl (p := d3) (by decide) (c :: t) b
  cases hw with
  | dots h1 h2 => exact .dots h1 (by rw [hd]; exact h2)
  | dot h1 h2 => exact .dot h1 (by rw [hd]; exact h2)
  | sign h1 h2 => exact .sign h1 h2
  | name h1 h2 h3 =>
    have e : Sc.nmT ((c :: t) ++ 10 :: b) = Sc.nmT (c :: t) := by
      have := Sc.rn_halt (p := Sc.nmI) (c := 10) (c :: t) b (by decide)
      rw [List.cons_append] at this ⊢
      rw [Sc.nmT_cons, Sc.nmT_cons, this]
    have := Way.name (l := (c :: t) ++ 10 :: b) h1 h2 h3
    rw [e, take_nl (Sc.nmT_le _)] at this
    exact this
  | num h1 h2 h3 h4 =>
    have := Way.num (l := (c :: t) ++ 10 :: b) h1 h2 h3 h4
    have e : tkNum ((c :: t) ++ 10 :: b) = tkNum (c :: t) := by
      have h0 := num0 (c :: t)
      unfold tkNum
      rw [num_nl, take_nl (by omega)]
    rw [e] at this
    exact this
  | raw h1 h2 =>
    have := Way.raw (l := (c :: t) ++ 10 :: b) h1 (by rw [hq]; exact h2)
    have e : tkRaw ((c :: t) ++ 10 :: b) = tkRaw (c :: t) := by
      unfold tkRaw at he ⊢
      cases hb : (Fo.rawA (c :: t) 0).b
      · rw [if_neg (by rw [hb]; decide)] at he; exact absurd rfl he
      · rw [raw_stay hb, hb]
    rw [e] at this
    exact this
  | str h1 h2 =>
    have := Way.str (l := (c :: t) ++ 10 :: b) h1 (by rw [hq]; exact h2)
    have e : tkStr ((c :: t) ++ 10 :: b) = tkStr (c :: t) := by
      unfold tkStr at he ⊢
      cases hb : (strA (c :: t) 0).b
      · rw [if_neg (by rw [hb]; decide)] at he; exact absurd rfl he
      · rw [str_stay hb, hb]
    rw [e] at this
    exact this
  | bad h1 h2 h3 h4 h5 => exact .bad h1 h2 h3 h4 h5

/-! ### What is handed on -/
theorem ylds_skip {x : List UInt8} {n : Nat} (o : Nat) (h : Sc.blT x = n + Sc.blT (x.drop n)) (hn : n ≤ x.length) : ylds x o = ylds (x.drop n) (o + n) := by
  by_cases hl : Sc.blT x < x.length
  · have hl2 : Sc.blT (x.drop n) < (x.drop n).length := by rw [List.length_drop]; omega
    have ed : (x.drop n).drop (Sc.blT (x.drop n)) = x.drop (Sc.blT x) := by rw [List.drop_drop, h]
    by_cases he : (tk (x.drop (Sc.blT x))).e = 0
    · rw [ylds_go o hl rfl he, ylds_go (o + n) hl2 rfl (by rw [ed]; exact he), ed, List.drop_drop, h]
      simp only [Nat.add_assoc]
    · rw [ylds_err o hl rfl he, ylds_err (o + n) hl2 rfl (by rw [ed]; exact he), ed, h, Nat.add_assoc]
  · rw [ylds_stop o hl, ylds_stop (o + n) (by rw [List.length_drop]; omega)]
theorem ylds_nl (r b : List UInt8) (o : Nat) (ho : allOk (ylds r o) = true) : ylds (r ++ 10 :: b) o = ylds r o ++ ylds b (o + (r.length + 1)) := by
  revert ho
  refine ylds_ind (M := fun r o => allOk (ylds r o) = true → ylds (r ++ 10 :: b) o = ylds r o ++ ylds b (o + (r.length + 1))) ?_ ?_ ?_ r o
  · intro r o h _
    have hb := blT_nl r b
    rw [if_neg h] at hb
    have ed : (r ++ 10 :: b).drop (r.length + 1) = b := by rw [List.drop_append]; simp
    rw [ylds_stop o h, List.nil_append, ylds_skip (n := r.length + 1) o (by rw [ed, hb]; omega) (by simp), ed]
  · intro r o h he ho
    rw [ylds_err o h rfl he] at ho
    simp [allOk, he] at ho
  · intro r o h he ih ho
    rw [ylds_go o h rfl he, allOk_cons, Bool.and_eq_true] at ho
    have hb := blT_nl r b
    rw [if_pos h] at hb
    have hk := tk_ok (r.drop (Sc.blT r))
    have hl := hk.le
    rw [List.length_drop] at hl
    have hne : r.drop (Sc.blT r) ≠ [] := by intro e; have := congrArg List.length e; rw [List.length_drop] at this; simp at this; omega
    have ed : (r ++ 10 :: b).drop (Sc.blT r) = r.drop (Sc.blT r) ++ 10 :: b := List.drop_append_of_le_length (by omega)
    have ht : tk ((r ++ 10 :: b).drop (Sc.blT (r ++ 10 :: b))) = tk (r.drop (Sc.blT r)) := by rw [hb, ed, tk_nl hne (by rw [he]; decide)]
    rw [ylds_go o (by rw [hb, List.length_append]; omega) ht he, hb, List.drop_append_of_le_length (by omega), ih ho.2, ylds_go o h rfl he, List.cons_append, List.length_drop]
    congr 3
    omega
theorem ylds_nl_err (r b : List UInt8) (o : Nat) (ho : allOk (ylds r o) = false) (h4 : (errOf (ylds r o)).1 ≠ 4) : ylds (r ++ 10 :: b) o = ylds r o := by
  revert ho h4
  refine ylds_ind (M := fun r o => allOk (ylds r o) = false → (errOf (ylds r o)).1 ≠ 4 → ylds (r ++ 10 :: b) o = ylds r o) ?_ ?_ ?_ r o
  · intro r o h ho
    rw [ylds_stop o h] at ho; cases ho
  · intro r o h he ho h4
    rw [ylds_err o h rfl he] at h4
    have h4' : (tk (r.drop (Sc.blT r))).e ≠ 4 := by
      have e : errOf [⟨tk (r.drop (Sc.blT r)), o + Sc.blT r⟩] = ((tk (r.drop (Sc.blT r))).e, _) := errOf_last (a := []) rfl he
      rw [e] at h4; exact h4
    have hb := blT_nl r b
    rw [if_pos h] at hb
    have hne : r.drop (Sc.blT r) ≠ [] := by intro e; have := congrArg List.length e; rw [List.length_drop] at this; simp at this; omega
    have ed : (r ++ 10 :: b).drop (Sc.blT r) = r.drop (Sc.blT r) ++ 10 :: b := List.drop_append_of_le_length (by omega)
    have ht : tk ((r ++ 10 :: b).drop (Sc.blT (r ++ 10 :: b))) = tk (r.drop (Sc.blT r)) := by rw [hb, ed, tk_nl hne h4']
    rw [ylds_err o (by rw [hb, List.length_append]; omega) ht he, hb, ylds_err o h rfl he]
  · intro r o h he ih ho h4
    rw [ylds_go o h rfl he, allOk_cons] at ho
    rw [ylds_go o h rfl he] at h4
    have ho2 : allOk (ylds (r.drop (Sc.blT r + (tk (r.drop (Sc.blT r))).n)) (o + Sc.blT r + (tk (r.drop (Sc.blT r))).n)) = false := by simpa [he] using ho
    change (if (tk (r.drop (Sc.blT r))).e = 0 then errOf _ else _).1 ≠ 4 at h4
    rw [if_pos he] at h4
    have hb := blT_nl r b
    rw [if_pos h] at hb
    have hk := tk_ok (r.drop (Sc.blT r))
    have hl := hk.le
    rw [List.length_drop] at hl
    have hne : r.drop (Sc.blT r) ≠ [] := by intro e; have := congrArg List.length e; rw [List.length_drop] at this; simp at this; omega
    have ed : (r ++ 10 :: b).drop (Sc.blT r) = r.drop (Sc.blT r) ++ 10 :: b := List.drop_append_of_le_length (by omega)
    have ht : tk ((r ++ 10 :: b).drop (Sc.blT (r ++ 10 :: b))) = tk (r.drop (Sc.blT r)) := by rw [hb, ed, tk_nl hne (by rw [he]; decide)]
    rw [ylds_go o (by rw [hb, List.length_append]; omega) ht he, hb, List.drop_append_of_le_length (by omega), ih ho2 h4, ylds_go o h rfl he]

/-! ### Elsewhere -/
def Yl.by (d : Nat) (y : Yl) : Yl := ⟨y.t, y.o + d⟩
theorem ylds_by (r : List UInt8) (o d : Nat) : ylds r (o + d) = (ylds r o).map (Yl.by d) := by
  refine ylds_ind (M := fun r o => ylds r (o + d) = (ylds r o).map (Yl.by d)) ?_ ?_ ?_ r o
  · intro r o h; rw [ylds_stop o h, ylds_stop (o + d) h]; rfl
  · intro r o h he; rw [ylds_err o h rfl he, ylds_err (o + d) h rfl he]; simp [Yl.by]; omega
  · intro r o h he ih
    rw [ylds_go o h rfl he, ylds_go (o + d) h rfl he, List.map_cons, ← ih]
    simp only [Yl.by]
    congr 2 <;> omega
theorem allOk_by (ys : List Yl) (d : Nat) : allOk (ys.map (Yl.by d)) = allOk ys := by
  induction ys with
  | nil => rfl
  | cons y ys ih => rw [List.map_cons, allOk_cons, allOk_cons, ih]; rfl
theorem sameT_by (ys : List Yl) (d : Nat) : sameT ((ys.map (Yl.by d)).map Yl.q) (ys.map Yl.q) = true := by
  induction ys with
  | nil => rfl
  | cons y ys ih =>
    show (eqT (Yl.q (Yl.by d y)) (Yl.q y) && _) = true
    rw [show eqT (Yl.q (Yl.by d y)) (Yl.q y) = true by simp [eqT, Yl.q, Yl.by], Bool.true_and]
    exact ih
theorem sameT_append {a b c d : List Tq} (h1 : sameT a b = true) (h2 : sameT c d = true) : sameT (a ++ c) (b ++ d) = true := by
  induction a generalizing b with
  | nil => cases b with
    | nil => exact h2
    | cons _ _ => cases h1
  | cons x a ih => cases b with
    | nil => cases h1
    | cons y b =>
      change (eqT x y && sameT a b) = true at h1
      rw [Bool.and_eq_true] at h1
      show (eqT x y && sameT (a ++ c) (b ++ d)) = true
      rw [h1.1, ih h1.2]; rfl
theorem thru_nl {a b : List UInt8} (ha : thru a = a.length) (hb : thru b = b.length) : thru (a ++ 10 :: b) = (a ++ 10 :: b).length := by
  rw [thru_append ha, thru_asc b (by decide) (by decide), hb]; simp; omega
end Go.Proofs.Ytcedfonkahffcaa
