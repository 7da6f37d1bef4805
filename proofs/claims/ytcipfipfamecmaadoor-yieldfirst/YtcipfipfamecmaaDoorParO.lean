/- What the laws say of the parser: names, two documents (plain mathematics). -/
import Derived.Test.YtcipfipfamecmaaDoorParN
namespace Go.Proofs.YtcipfipfamecmaaDoor
open Go.RowKit
set_option linter.unusedVariables false
set_option maxRecDepth 100000

/-- What stands ahead of a document's last symbol: none of the first two variables, and no terminal TeName. -/
def innB (t : Sq) : Bool := !(t.k == 1 && (t.n == 0 || t.n == 1)) && !(t.k == 0 && t.n == 18)
def moreS : Sq := ⟨1, 1⟩
theorem inn_dec : ∀ i, i < 90 → 2 ≤ varR i → (plS (symR i)).all innB = true := by decide +kernel
theorem pl_at (i : Nat) : plR (i : Int) = plS (symR i) := by rw [plR, symI, if_pos (by omega)]; rfl
theorem pl_0 : plR 0 = [⟨1, 2⟩, moreS] := sameS_eq (by decide +kernel)
theorem pl_1 : plR 1 = [] := sameS_eq (by decide +kernel)
theorem pl_2 : plR 2 = [⟨1, 2⟩, moreS] := sameS_eq (by decide +kernel)
theorem inn_var {t : Sq} (hk : t.k = 1) (h : innB t = true) {te i : Int} (hp : pickK te t.n = i) (h0 : 0 ≤ i) : (plR i).all innB = true := by
  obtain ⟨a, rfl, h1, h2⟩ := pick_rule hp h0
  rw [pl_at]
  refine inn_dec a h1 ?_
  by_cases e : 2 ≤ varR a
  · exact e
  · exfalso
    rw [innB, hk] at h
    have : t.n = 0 ∨ t.n = 1 := by omega
    rcases this with e | e <;> rw [e] at h <;> cases h
theorem more_rule {te i : Int} (hp : pickK te 1 = i) (h0 : 0 ≤ i) : i = 1 ∨ i = 2 := by
  obtain ⟨a, rfl, h1, h2⟩ := pick_rule hp h0
  have : ∀ a, a < 90 → (varR a : Int) = 1 → a = 1 ∨ a = 2 := by decide +kernel
  rcases this a h1 h2 with rfl | rfl
  · exact .inl rfl
  · exact .inr rfl
theorem doc_rule {te i : Int} (hp : pickK te 0 = i) (h0 : 0 ≤ i) : i = 0 := by
  obtain ⟨a, rfl, h1, h2⟩ := pick_rule hp h0
  have : ∀ a, a < 90 → (varR a : Int) = 0 → a = 0 := by decide +kernel
  rw [this a h1 h2]; rfl
/-- A document that is parsed: behind its first rule. -/
theorem doc_run {h : Nat → Int} {rs : List Int} {z : Nat} (r : Run h docS 0 rs z true) : ∃ rs', rs = 0 :: rs' ∧ pickK (h 0) 0 = 0 ∧ Run h [⟨1, 2⟩, moreS] 0 rs' z true := by
  cases r with
  | term h1 _ _ => exact absurd rfl h1
  | var _ hp h0 r =>
    have hp' : pickK (h 0) 0 = _ := hp
    obtain rfl := doc_rule hp' h0
    rw [List.append_nil, pl_0] at r
    exact ⟨_, rfl, hp', r⟩
theorem pick_none {te v : Int} (h : v < 0 ∨ 43 ≤ v) : pickK te v = -1 := pickK_over te h
/-- With a name at hand, or with 'type', the same rule is told. -/
theorem name_dec : ∀ v, v < 43 → 2 ≤ v → 0 ≤ pickK 18 (v : Nat) → pickK 24 (v : Nat) = pickK 18 (v : Nat) := by decide +kernel
theorem name_pick {t : Sq} (hk : t.k = 1) (h : innB t = true) {i : Int} (hp : pickK 18 t.n = i) (h0 : 0 ≤ i) : pickK 24 t.n = i := by
  by_cases hv : 0 ≤ t.n ∧ t.n < 43
  · obtain ⟨a, ha⟩ := Int.eq_ofNat_of_zero_le hv.1
    rw [ha] at hp hv ⊢
    rw [← hp]
    refine name_dec a (by omega) ?_ (by rw [hp]; exact h0)
    by_cases e : 2 ≤ a
    · exact e
    · exfalso
      rw [innB, hk, ha] at h
      have : a = 0 ∨ a = 1 := by omega
      rcases this with rfl | rfl <;> cases h
  · rw [pick_none (by omega)] at hp; omega
theorem name_fit {t : Sq} (hk : t.k ≠ 1) (h : innB t = true) (hf : fitK 18 t = true) : fitK 24 t = true := by
  obtain ⟨k, n⟩ := t
  change k ≠ 1 at hk
  by_cases h0 : k = 0
  · subst h0
    rw [fitK_term, Bool.and_eq_true, beq_iff_eq] at hf
    obtain ⟨rfl, -⟩ := hf
    cases h
  · by_cases h2 : k = 2
    · subst h2
      rw [fitK_class] at hf ⊢
      by_cases n0 : n = 0
      · subst n0; rfl
      · by_cases n1 : n = 1
        · subst n1; rfl
        · by_cases n2 : n = 2
          · subst n2; cases hf
          · rw [inK_no n0 n1 n2] at hf; cases hf
    · rw [fitK_other 18 h0 hk h2] at hf; cases hf
theorem all_app {P S : List Sq} (h1 : P.all innB = true) (h2 : S.all innB = true) : (P ++ S).all innB = true := by rw [List.all_append, h1, h2]; rfl
theorem names_run {h h' : Nat → Int} {k N : Nat} (hk : h k = 18) (hk' : h' k = 24) (he : ∀ j, j ≠ k → h j = h' j) (hN : k < N) {C : List Sq} {a z : Nat} {rs : List Int} {f : Bool} (r : Run h C a rs z f) :
    f = true → z = N → ∀ {S : List Sq}, S.all innB = true → C = S ++ [moreS] → Run h' C a rs z f := by
  induction r with
  | nil => intro _ _ S _ e; cases S <;> cases e
  | @term t C a z rs f htk hf r ih =>
    intro hf1 hz S hS e
    cases S with
    | nil => cases e; exact absurd rfl htk
    | cons u S =>
      rw [List.cons_append] at e
      injection e with e1 e2
      subst e1
      rw [List.all_cons, Bool.and_eq_true] at hS
      refine .term htk ?_ (ih hf1 hz hS.2 e2)
      by_cases ea : a = k
      · subst ea; rw [hk] at hf; rw [hk']; exact name_fit htk hS.1 hf
      · rw [← he a ea]; exact hf
  | miss _ _ => intro hf1; cases hf1
  | @var t C a z i rs f htk hp h0 r ih =>
    intro hf1 hz S hS e
    cases S with
    | nil =>
      cases e
      rcases more_rule hp h0 with rfl | rfl
      · rw [pl_1, List.append_nil] at r
        have hza : z = a := by cases r; rfl
        refine .var htk ?_ h0 ?_
        · rw [← he a (by omega)]; exact hp
        · rw [pl_1, List.append_nil]; cases r; exact .nil
      · by_cases ea : a = k
        · subst ea
          exfalso
          have : pickK 18 1 = 2 := by rw [hk] at hp; exact hp
          have h18 : pickK 18 1 = 1 := by decide +kernel
          omega
        · refine .var htk (by rw [← he a ea]; exact hp) h0 (ih hf1 hz (S := [⟨1, 2⟩]) rfl ?_)
          rw [pl_2]; rfl
    | cons u S =>
      rw [List.cons_append] at e
      injection e with e1 e2
      subst e1
      rw [List.all_cons, Bool.and_eq_true] at hS
      refine .var htk ?_ h0 (ih hf1 hz (all_app (inn_var htk hS.1 hp h0) hS.2) (by rw [e2, List.append_assoc]))
      by_cases ea : a = k
      · subst ea; rw [hk] at hp; rw [hk']; exact name_pick htk hS.1 hp h0
      · rw [← he a ea]; exact hp
  | stop _ _ => intro hf1; cases hf1
/-- Where a name stands that is no word of the grammar, one that is does as well. -/
theorem names_math {L L' R R' : List Int} {z z' k : Nat} {f f' : Bool} (hp : Par L R z f) (hq : Par L' R' z' f') (hlen : L'.length = L.length) (hkl : k < L.length) (hk : hdL L k = 18) (hk' : hdL L' k = 24) (he : ∀ j, j ≠ k → hdL L j = hdL L' j)
    {p p' : Int} (ep : outZ L z f = p) (ep' : outZ L' z' f' = p') : (p = -1 → p' = -1 ∧ outR L' R' z' f' = outR L R z f) ∧ (p ≠ -1 → p < (k : Int) → p' = p) := by
  have o1 := outZ_or L z f
  rw [ep] at o1
  constructor
  · intro e
    rw [e] at ep
    obtain ⟨rfl, hz⟩ := outZ_yes ep
    obtain ⟨rs, rfl, hp0, hr⟩ := doc_run hp
    have hr' := names_run hk hk' he hkl hr rfl hz (S := [⟨1, 2⟩]) rfl rfl
    have hq' : Par L' (0 :: rs) z true := by
      refine .var rfl ?_ (Int.le_refl 0) (by rw [List.append_nil, pl_0]; exact hr')
      by_cases e0 : (0 : Nat) = k
      · subst e0
        rw [hk] at hp0
        have : pickK 18 0 = -1 := by decide +kernel
        omega
      · rw [← he 0 e0]; exact hp0
    obtain ⟨e1, e2, e3⟩ := hq'.det hq
    subst e1 e2 e3
    refine ⟨by rw [← ep', outZ_ok (by omega)], by rw [outR_ok hz, outR_ok (by omega)]⟩
  · intro e hlt
    have ez : p = (z : Int) := by omega
    obtain ⟨-, h2, h3⟩ := (hp.congr (L' := L') fun j hj => he j (by omega)).det hq
    subst h2 h3
    rw [← ep', outZ_no (by omega), ez]

/-- The variables that a definition may end by, and that may be nothing. -/
def endL : List Int := [0, 1, 2, 10, 11, 18, 24, 28, 35, 38, 40, 41]
def endB (t : Sq) : Bool := !(t.k == 1) || endL.contains t.n
/-- What stands ahead of symbols that may be nothing alone may end a definition. -/
def tlB : List Sq → Bool
  | [] => true
  | t :: S => (!(S.all mayN) || endB t) && tlB S
theorem tl_dec : ∀ i, i < 90 → endL.contains (varR i : Int) = true → tlB (plS (symR i)) = true := by decide +kernel
theorem tlB_app {S : List Sq} (h : tlB S = true) : ∀ {P : List Sq}, (S.all mayN = true → tlB P = true) → tlB (P ++ S) = true
  | [], _ => h
  | t :: P, hp => by
    rw [List.cons_append, tlB, Bool.and_eq_true]
    constructor
    · cases hS : S.all mayN
      · rw [List.all_append, hS, Bool.and_false]; rfl
      · have := hp hS
        rw [tlB, Bool.and_eq_true] at this
        rw [List.all_append, hS, Bool.and_true]; exact this.1
    · refine tlB_app h (fun hS => ?_)
      have := hp hS
      rw [tlB, Bool.and_eq_true] at this
      exact this.2
theorem tl_var {t : Sq} {S : List Sq} (hk : t.k = 1) (h : tlB (t :: S) = true) {te i : Int} (hp : pickK te t.n = i) (h0 : 0 ≤ i) : tlB (plR i ++ S) = true := by
  rw [tlB, Bool.and_eq_true] at h
  refine tlB_app h.2 fun hS => ?_
  rw [hS] at h
  have he : endL.contains t.n = true := by
    have := h.1
    rw [endB, hk] at this
    simpa using this
  obtain ⟨a, rfl, h1, h2⟩ := pick_rule hp h0
  rw [pl_at]
  exact tl_dec a h1 (by rw [h2]; exact he)
/-- With what a definition begins with nothing begins that may end one, and be nothing. -/
def endN (v : Nat) : Bool := endL.contains (v : Int) && decide (2 ≤ v) && decide (0 ≤ empR (v : Nat))
theorem end_dec : ∀ v : Nat, v < 43 → endN v = true → ∀ te : Nat, te < 31 → (!fstT (te : Nat) 2 || !fstT (te : Nat) (v : Nat)) = true := by decide +kernel
theorem end_pick {t : Sq} (hk : t.k = 1) (hi : innB t = true) (he : endL.contains t.n = true) (h0 : 0 ≤ empR t.n) {te : Int} (ht : fstK te 2 = true) : pickK te t.n = empR t.n := by
  have hr : 0 < te ∧ te < 31 := by
    by_cases e : 0 < te ∧ te < 31
    · exact e
    · rw [fstK_out (by omega)] at ht; cases ht
  have hv : 0 ≤ t.n ∧ t.n < 43 := by
    by_cases e : 0 ≤ t.n ∧ t.n < 43
    · exact e
    · rw [empR_over (by omega)] at h0; omega
  obtain ⟨b, rfl⟩ := Int.eq_ofNat_of_zero_le (show 0 ≤ te by omega)
  obtain ⟨a, ha⟩ := Int.eq_ofNat_of_zero_le hv.1
  rw [ha] at hv h0 he ⊢
  have h2 : 2 ≤ a := by
    by_cases e : 2 ≤ a
    · exact e
    · exfalso
      rw [innB, hk, ha] at hi
      have : a = 0 ∨ a = 1 := by omega
      rcases this with rfl | rfl <;> cases hi
  have := end_dec a (by omega) (by rw [endN, he, decide_eq_true h2, decide_eq_true h0]; rfl) b (by omega)
  rw [← fstK_T, ← fstK_T, ht] at this
  have this : fstK (b : Nat) (a : Nat) = false := by simpa using this
  have hb := begN_ge (b : Nat) (a : Nat)
  rw [this] at hb
  rw [pickK, if_neg (by simpa using hb)]
/-- At the end symbols may be nothing alone. -/
theorem end_run {h : Nat → Int} {C : List Sq} {a z : Nat} {rs : List Int} {f : Bool} (r : Run h C a rs z f) : f = true → z = a → h a = 0 → C.all mayN = true := by
  induction r with
  | nil => intro _ _ _; rfl
  | @term t C a z rs f htk hf r ih => intro _ hz _; have := r.le; omega
  | miss _ _ => intro hf; cases hf
  | @var t C a z i rs f htk hp h0 r ih =>
    intro hf hz ha
    have hc := ih hf hz ha
    rw [ha, pick_out (.inl (Int.le_refl 0))] at hp
    rw [List.all_append, Bool.and_eq_true] at hc
    rw [List.all_cons, hc.2, Bool.and_true, mayN, htk, hp, decide_eq_true h0]; rfl
  | stop _ _ => intro hf; cases hf
theorem empty_rule {v i : Int} (h : empR v = i) (h0 : 0 ≤ i) : plR i = [] := by
  rcases fstN_or (p := empB) (ofR v) with e | ⟨h1, h2⟩
  · rw [empR, e] at h; omega
  · rw [show fstN empB (ofR v) = i from h] at h2
    rw [plR]
    have : symI i = [] := List.eq_nil_of_length_eq_zero (by simpa [empB] using h2)
    rw [this]; rfl
theorem joins_run {h h' : Nat → Int} {N : Nat} {te : Int} (hN : h N = 0) (hte : h' N = te) (hd : fstK te 2 = true) (he : ∀ j, j < N → h j = h' j) {C : List Sq} {a z : Nat} {rs : List Int} {f : Bool} (r : Run h C a rs z f) :
    f = true → z = N → ∀ {S : List Sq}, S.all innB = true → C = S ++ [moreS] → tlB C = true →
      ∃ rs', rs = rs' ++ [1] ∧ ∀ {rs2 : List Int} {z2 : Nat} {f2 : Bool}, Run h' [moreS] N rs2 z2 f2 → Run h' C a (rs' ++ rs2) z2 f2 := by
  induction r with
  | nil => intro _ _ S _ e; cases S <;> cases e
  | @term t C a z rs f htk hf r ih =>
    intro hf1 hz S hS e ht
    cases S with
    | nil => cases e; exact absurd rfl htk
    | cons u S =>
      rw [List.cons_append] at e
      injection e with e1 e2
      subst e1
      rw [List.all_cons, Bool.and_eq_true] at hS
      rw [tlB, Bool.and_eq_true] at ht
      obtain ⟨rs', h1, h2⟩ := ih hf1 hz hS.2 e2 ht.2
      have hle := r.le
      exact ⟨rs', h1, fun r2 => .term htk (by rw [← he a (by omega)]; exact hf) (h2 r2)⟩
  | miss _ _ => intro hf1; cases hf1
  | @var t C a z i rs f htk hp h0 r ih =>
    intro hf1 hz S hS e ht
    have hle := r.le
    cases S with
    | nil =>
      cases e
      rcases more_rule hp h0 with rfl | rfl
      · rw [pl_1, List.append_nil] at r
        obtain ⟨rfl, rfl⟩ : rs = [] ∧ z = a := by cases r; exact ⟨rfl, rfl⟩
        subst hz
        exact ⟨[], rfl, fun r2 => r2⟩
      · by_cases ea : a = N
        · subst ea
          exfalso
          have : pickK 0 1 = 2 := by rw [hN] at hp; exact hp
          have h18 : pickK 0 1 = 1 := by decide +kernel
          omega
        · obtain ⟨rs', h1, h2⟩ := ih hf1 hz (S := [⟨1, 2⟩]) rfl (by rw [pl_2]; rfl) (tl_var htk ht hp h0)
          exact ⟨2 :: rs', by rw [h1]; rfl, fun r2 => .var htk (by rw [← he a (by omega)]; exact hp) h0 (h2 r2)⟩
    | cons u S =>
      rw [List.cons_append] at e
      injection e with e1 e2
      subst e1
      rw [List.all_cons, Bool.and_eq_true] at hS
      obtain ⟨rs', h1, h2⟩ := ih hf1 hz (all_app (inn_var htk hS.1 hp h0) hS.2) (by rw [e2, List.append_assoc]) (tl_var htk ht hp h0)
      refine ⟨i :: rs', by rw [h1]; rfl, fun r2 => .var htk ?_ h0 (h2 r2)⟩
      by_cases ea : a = N
      · subst ea
        have hm := end_run (.var htk hp h0 r) hf1 hz hN
        rw [List.all_cons, Bool.and_eq_true] at hm
        rw [tlB, Bool.and_eq_true, hm.2] at ht
        have hen : endL.contains t.n = true := by
          have := ht.1
          rw [endB, htk] at this
          simpa using this
        rw [hN, pick_out (.inl (Int.le_refl 0))] at hp
        rw [hte, end_pick htk hS.1 hen (by rw [hp]; exact h0) hd, hp]
      · rw [← he a (by omega)]; exact hp
  | stop _ _ => intro hf1; cases hf1
theorem doc_dec : ∀ te, te < 31 → pickK (te : Nat) 0 = 0 → fstT (te : Nat) 2 = true ∧ pickK (te : Nat) 1 = 2 := by decide +kernel
theorem doc_begins {te : Int} (h : pickK te 0 = 0) : fstK te 2 = true ∧ pickK te 1 = 2 := by
  by_cases hr : 0 ≤ te ∧ te < 31
  · obtain ⟨a, rfl⟩ := Int.eq_ofNat_of_zero_le hr.1
    rw [fstK_T]
    exact doc_dec a (by omega) h
  · rw [pick_out (by omega)] at h
    have : empR 0 = -1 := by decide +kernel
    omega
/-- Two documents, one behind the other. -/
theorem joins_math {L M R R2 R3 : List Int} {z z2 z3 : Nat} {f f2 f3 : Bool} (hp : Par L R z f) (hq : Par M R2 z2 f2) (hr : Par (L ++ M) R3 z3 f3) (e1 : outZ L z f = -1) (e2 : outZ M z2 f2 = -1) :
    outZ (L ++ M) z3 f3 = -1 ∧ outR L R z f = R ∧ outR (L ++ M) R3 z3 f3 = R3 ∧ 1 ≤ R.length ∧ R.length ≤ R3.length ∧ R3.take (R.length - 1) = R.take (R.length - 1) := by
  obtain ⟨rfl, rfl⟩ := outZ_yes e1
  obtain ⟨rfl, rfl⟩ := outZ_yes e2
  obtain ⟨rs, rfl, hp0, hr1⟩ := doc_run hp
  obtain ⟨rs2, rfl, hq0, hr2⟩ := doc_run hq
  have hM0 : 0 < M.length := by
    by_cases e : 0 < M.length
    · exact e
    · rw [hdL_over (by omega)] at hq0
      have : pickK 0 0 = -1 := by decide +kernel
      omega
  have hL0 : 0 < L.length := by
    by_cases e : 0 < L.length
    · exact e
    · rw [hdL_over (by omega)] at hp0
      have : pickK 0 0 = -1 := by decide +kernel
      omega
  obtain ⟨hb1, hb2⟩ := doc_begins hq0
  have hh : hdL (L ++ M) L.length = hdL M 0 := by have := hdL_app' (l := L) (m := M) (a := 0); rwa [Nat.add_zero] at this
  have hj := joins_run (h := hdL L) (h' := hdL (L ++ M)) (N := L.length) (te := hdL M 0) (hdL_over (Nat.le_refl _)) hh hb1 (fun j hj => (hdL_app hj).symm) hr1 rfl rfl (S := [⟨1, 2⟩]) rfl rfl (by decide +kernel)
  obtain ⟨rs', rfl, hj⟩ := hj
  have hs : Run (hdL (L ++ M)) [⟨1, 2⟩, moreS] (L.length + 0) rs2 (L.length + M.length) true := hr2.shift fun j => hdL_app'
  have h2 : Run (hdL (L ++ M)) [moreS] L.length (2 :: rs2) (L.length + M.length) true := by
    refine .var rfl ?_ (by decide) (by rw [pl_2, List.append_nil]; exact hs)
    rw [hh]; exact hb2
  have h3 : Par (L ++ M) (0 :: (rs' ++ 2 :: rs2)) (L.length + M.length) true :=
    .var rfl (by rw [hdL_app hL0]; exact hp0) (Int.le_refl 0) (by rw [List.append_nil, pl_0]; exact hj h2)
  obtain ⟨e3, e4, e5⟩ := h3.det hr
  subst e3 e4 e5
  refine ⟨outZ_ok (by rw [List.length_append]), outR_ok rfl, outR_ok (by rw [List.length_append]), by simp, by simp, ?_⟩
  have : (0 :: (rs' ++ [1])).length - 1 = (0 :: rs').length := by simp
  rw [this, show (0 : Int) :: (rs' ++ 2 :: rs2) = (0 :: rs') ++ (2 :: rs2) from rfl, show (0 : Int) :: (rs' ++ [1]) = (0 :: rs') ++ [1] from rfl, List.take_left, List.take_left]
end Go.Proofs.YtcipfipfamecmaaDoor
