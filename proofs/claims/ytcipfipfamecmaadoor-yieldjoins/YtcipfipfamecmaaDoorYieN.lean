/- What rules derive: the laws' mathematics. -/
import Derived.Test.YtcipfipfamecmaaDoorYieM
namespace Go.Proofs.YtcipfipfamecmaaDoor
open Go.RowKit
set_option linter.unusedVariables false
set_option maxRecDepth 100000

/-- Rules behind those that derive are left. -/
theorem Der.more {S out : List Sq} {R Z : List Int} {f : Bool} (d : Der S R out Z f) (X : List Int) : f = true → Der S (R ++ X) out (Z ++ X) true := by
  induction d with
  | nil => intro _; exact .nil
  | put hk _ ih => intro hf; exact .put hk (ih hf)
  | var hk hi _ ih => intro hf; exact .var hk hi (ih hf)
  | none _ => intro hf; cases hf
  | stop _ _ => intro hf; cases hf
/-- There is each rule that is used. -/
theorem Der.there {S out : List Sq} {R Z : List Int} {f : Bool} (d : Der S R out Z f) : f = true → Z = [] → ∀ i ∈ R, 0 ≤ i ∧ i < 90 := by
  induction d with
  | nil => intro _ hZ i hi; subst hZ; cases hi
  | put hk _ ih => intro hf hZ; exact ih hf hZ
  | @var t S i R Z out f hk hi _ ih =>
    intro hf hZ j hj
    rcases List.mem_cons.1 hj with rfl | hj
    · obtain ⟨a, rfl, h1, -⟩ := isR_yes hi
      omega
    · exact ih hf hZ j hj
  | none _ => intro hf; cases hf
  | stop _ _ => intro hf; cases hf
/-- Symbols of rules: terminals, variables, classes, marks. -/
def kdB (t : Sq) : Bool := t.k == 0 || t.k == 1 || t.k == 2 || t.k == 3
theorem kd_dec : ∀ i, i < 90 → (symR i).all kdB = true := by decide +kernel
theorem kd_rule {v i : Int} (h : isR v i = true) : (symI i).all kdB = true := by
  obtain ⟨a, rfl, h1, -⟩ := isR_yes h
  rw [symI_at]; exact kd_dec a h1
theorem Der.kinds {S out : List Sq} {R Z : List Int} {f : Bool} (d : Der S R out Z f) : S.all kdB = true → ∀ t ∈ out, t.k = 0 ∨ t.k = 2 ∨ t.k = 3 := by
  induction d with
  | nil => intro _ t ht; cases ht
  | @put u S R Z out f hk _ ih =>
    intro hS t ht
    rw [List.all_cons, Bool.and_eq_true] at hS
    rcases List.mem_cons.1 ht with rfl | ht
    · have := hS.1
      simp only [kdB, Bool.or_eq_true, beq_iff_eq] at this
      omega
    · exact ih hS.2 t ht
  | @var u S i R Z out f hk hi _ ih =>
    intro hS t ht
    rw [List.all_cons, Bool.and_eq_true] at hS
    exact ih (by rw [List.all_append, kd_rule hi, hS.2]; rfl) t ht
  | none _ => intro _ t ht; cases ht
  | stop _ _ => intro _ t ht; cases ht
/-- What rules yield are terminals and classes. -/
theorem ful_kinds {R : List Int} {X : List Sq} (h : Ful R X true) : ∀ t ∈ plS X, t.k = 0 ∨ t.k = 2 := by
  intro t ht
  have h3 := plS_mem ht
  have := h.yes.kinds (by decide) t (List.mem_filter.1 ht).1
  omega
theorem ful_nil {X : List Sq} {is : Bool} (h : Ful [] X is) : is = false :=
  h.not fun X d => by cases d with | put hk _ => exact absurd rfl hk
/-- A rule more. -/
theorem ful_more {R : List Int} {X Y : List Sq} {i : Int} {is : Bool} (h : Ful R X true) (k : Ful (R ++ [i]) Y is) : is = false :=
  k.not fun Z d => by
    obtain ⟨-, e, -⟩ := (h.yes.more [i] rfl).det d
    simp at e
/-- A rule fewer. -/
theorem ful_less {R : List Int} {X Y : List Sq} {i : Int} {is : Bool} (h : Ful (R ++ [i]) X true) (k : Ful R Y is) : is = false := by
  cases is
  · rfl
  · exact absurd (ful_more k h) (by simp)
theorem sym_0 : symI 0 = [⟨1, 2⟩, moreS] := sameS_eq (by decide +kernel)
theorem sym_1 : symI 1 = [] := sameS_eq (by decide +kernel)
theorem sym_2 : symI 2 = [⟨3, 5⟩, ⟨3, 5⟩, ⟨1, 2⟩, moreS] := sameS_eq (by decide +kernel)
theorem rule_0 {i : Int} (h : isR 0 i = true) : i = 0 := by
  obtain ⟨a, rfl, h1, h2⟩ := isR_yes h
  have : ∀ a, a < 90 → (varR a : Int) = 0 → a = 0 := by decide +kernel
  rw [this a h1 h2]; rfl
theorem rule_1 {i : Int} (h : isR 1 i = true) : i = 1 ∨ i = 2 := by
  obtain ⟨a, rfl, h1, h2⟩ := isR_yes h
  have : ∀ a, a < 90 → (varR a : Int) = 1 → a = 1 ∨ a = 2 := by decide +kernel
  rcases this a h1 h2 with rfl | rfl
  · exact .inl rfl
  · exact .inr rfl
/-- Behind the first rule. -/
theorem doc_der {R : List Int} {X : List Sq} (d : Der docS R X [] true) : ∃ R', R = 0 :: R' ∧ Der [⟨1, 2⟩, moreS] R' X [] true := by
  cases d with
  | put hk _ => exact absurd rfl hk
  | var hk hi d =>
    obtain rfl := rule_0 hi
    rw [sym_0] at d
    exact ⟨_, rfl, d⟩
/-- Without their first rule rules derive nothing. -/
theorem ful_first {R : List Int} {X : List Sq} (h : Ful R X true) : ∃ R', R = 0 :: R' ∧ ∀ {Y is}, Ful R' Y is → is = false := by
  obtain ⟨R', rfl, d⟩ := doc_der h.yes
  refine ⟨R', rfl, fun k => k.not fun Z e => ?_⟩
  obtain ⟨R2, rfl, -⟩ := doc_der e
  cases d with
  | put hk _ => exact absurd rfl hk
  | var hk hi d => exact absurd hi (by decide)
/-- Symbols of a definition: none of the first two variables. -/
def noB (t : Sq) : Bool := !(t.k == 1 && (t.n == 0 || t.n == 1))
theorem no_dec : ∀ i, i < 90 → 2 ≤ varR i → (symR i).all noB = true := by decide +kernel
theorem no_rule {t : Sq} {i : Int} (hk : t.k = 1) (ht : noB t = true) (h : isR t.n i = true) : (symI i).all noB = true := by
  obtain ⟨a, rfl, h1, h2⟩ := isR_yes h
  rw [symI_at]
  refine no_dec a h1 ?_
  by_cases e : 2 ≤ varR a
  · exact e
  · exfalso
    rw [noB, hk] at ht
    have : t.n = 0 ∨ t.n = 1 := by omega
    rcases this with e | e <;> rw [e] at ht <;> cases ht
/-- In place of the last rule, the end of the definitions, others. -/
theorem Der.join {C x : List Sq} {R Z : List Int} {f : Bool} (d : Der C R x Z f) : f = true → Z = [] → ∀ {S : List Sq} {R' : List Int}, S.all noB = true → C = S ++ [moreS] → R = R' ++ [1] →
    ∀ {R2 : List Int} {y : List Sq}, Der [moreS] R2 y [] true → Der C (R' ++ R2) (x ++ y) [] true := by
  induction d with
  | nil => intro _ _ S R' _ e; cases S <;> cases e
  | @put t C R Z x f hk d ih =>
    intro hf hZ S R' hS e eR R2 y d2
    cases S with
    | nil => cases e; exact absurd rfl hk
    | cons u S =>
      rw [List.cons_append] at e
      injection e with e1 e2
      subst e1
      rw [List.all_cons, Bool.and_eq_true] at hS
      exact .put hk (ih hf hZ hS.2 e2 eR d2)
  | @var t C i R Z x f hk hi d ih =>
    intro hf hZ S R' hS e eR R2 y d2
    cases S with
    | nil =>
      cases e
      rcases rule_1 hi with rfl | rfl
      · rw [sym_1] at d
        cases d
        subst hZ
        obtain rfl : R' = [] := by
          cases R' with
          | nil => rfl
          | cons a R' => rw [List.cons_append] at eR; injection eR with _ e2; cases R' <;> cases e2
        exact d2
      · cases R' with
        | nil => cases eR
        | cons a R' =>
          rw [List.cons_append] at eR
          injection eR with e1 e2
          subst e1
          refine .var hk hi (ih hf hZ (S := [⟨3, 5⟩, ⟨3, 5⟩, ⟨1, 2⟩]) (by decide) (by rw [sym_2]; rfl) e2 d2)
    | cons u S =>
      rw [List.cons_append] at e
      injection e with e1 e2
      subst e1
      rw [List.all_cons, Bool.and_eq_true] at hS
      cases R' with
      | nil =>
        injection eR with e3 e4
        subst e3
        exfalso
        obtain ⟨a, h0, h1, h2⟩ := isR_yes hi
        obtain rfl : a = 1 := by omega
        have h3 : t.n = 1 := h2.symm
        have := hS.1
        rw [noB, hk, h3] at this
        cases this
      | cons a R' =>
        rw [List.cons_append] at eR
        injection eR with e3 e4
        subst e3
        exact .var hk hi (ih hf hZ (S := symI i ++ S) (by rw [List.all_append, no_rule hk hS.1 hi, hS.2]; rfl) (by rw [e2, List.append_assoc]) e4 d2)
  | none _ => intro hf; cases hf
  | stop _ _ => intro hf; cases hf
/-- The rules of two documents, one behind the other. -/
theorem joins_rules {L M R R2 R3 : List Int} {z z2 z3 : Nat} {f f2 f3 : Bool} (hp : Par L R z f) (hq : Par M R2 z2 f2) (hr : Par (L ++ M) R3 z3 f3) (e1 : outZ L z f = -1) (e2 : outZ M z2 f2 = -1) :
    outR L R z f = R ∧ outR M R2 z2 f2 = R2 ∧ outR (L ++ M) R3 z3 f3 = R3 ∧ ∃ rs rs2, R = 0 :: (rs ++ [1]) ∧ R2 = 0 :: rs2 ∧ R3 = 0 :: (rs ++ 2 :: rs2) := by
  obtain ⟨rfl, rfl⟩ := outZ_yes e1
  obtain ⟨rfl, rfl⟩ := outZ_yes e2
  obtain ⟨rs, rfl, hp0, hr1⟩ := doc_run hp
  obtain ⟨rs2, rfl, hq0, hr2⟩ := doc_run hq
  have hM0 : 0 < M.length := by
    by_cases e : 0 < M.length
    · exact e
    · rw [hdL_over (by omega)] at hq0
      have : pickK 0 0 = -1 := by decide +kernel
      omega
  have hL0 : 0 < L.length := by
    by_cases e : 0 < L.length
    · exact e
    · rw [hdL_over (by omega)] at hp0
      have : pickK 0 0 = -1 := by decide +kernel
      omega
  obtain ⟨hb1, hb2⟩ := doc_begins hq0
  have hh : hdL (L ++ M) L.length = hdL M 0 := by have := hdL_app' (l := L) (m := M) (a := 0); rwa [Nat.add_zero] at this
  have hj := joins_run (h := hdL L) (h' := hdL (L ++ M)) (N := L.length) (te := hdL M 0) (hdL_over (Nat.le_refl _)) hh hb1 (fun j hj => (hdL_app hj).symm) hr1 rfl rfl (S := [⟨1, 2⟩]) rfl rfl (by decide +kernel)
  obtain ⟨rs', rfl, hj⟩ := hj
  have hs : Run (hdL (L ++ M)) [⟨1, 2⟩, moreS] (L.length + 0) rs2 (L.length + M.length) true := hr2.shift fun j => hdL_app'
  have h2 : Run (hdL (L ++ M)) [moreS] L.length (2 :: rs2) (L.length + M.length) true := by
    refine .var rfl ?_ (by decide) (by rw [pl_2, List.append_nil]; exact hs)
    rw [hh]; exact hb2
  have h3 : Par (L ++ M) (0 :: (rs' ++ 2 :: rs2)) (L.length + M.length) true :=
    .var rfl (by rw [hdL_app hL0]; exact hp0) (Int.le_refl 0) (by rw [List.append_nil, pl_0]; exact hj h2)
  obtain ⟨e3, e4, e5⟩ := h3.det hr
  subst e3 e4 e5
  exact ⟨outR_ok rfl, outR_ok rfl, outR_ok (by rw [List.length_append]), rs', rs2, rfl, rfl, rfl⟩
/-- What the parser tells of a list, rules derive; the terminals fit. -/
theorem par_ful {L R : List Int} {z : Nat} (h : Par L R z true) (hz : z = L.length) : ∃ X, Ful R X true ∧ derB true X L = true := by
  subst hz
  obtain ⟨X, d, h1, h2⟩ := back h rfl (S' := docS) rfl
  refine ⟨X, Ful.of d, ?_⟩
  rw [derB, h2, decide_eq_true (by omega)]; rfl
/-- Rules that derive terminals are those that are parsed. -/
theorem ful_par {L R : List Int} {X : List Sq} {is : Bool} (h : Ful R X is) (hd : derB is X L = true) : Par L R L.length true := by
  rw [derB, Bool.and_eq_true, Bool.and_eq_true, decide_eq_true_eq] at hd
  obtain ⟨⟨rfl, h1⟩, h2⟩ := hd
  have := only (h := hdL L) (N := L.length) (hdL_over (Nat.le_refl _)) h.yes rfl rfl (a := 0) ⟨fun _ te _ _ hg => (by cases hg), trivial⟩ h2 (by omega)
  exact this
/-- The symbols of two documents. -/
theorem joins_ful {L M R R2 R3 : List Int} {z z2 z3 : Nat} {f f2 f3 : Bool} (hp : Par L R z f) (hq : Par M R2 z2 f2) (hr : Par (L ++ M) R3 z3 f3) (e1 : outZ L z f = -1) (e2 : outZ M z2 f2 = -1) :
    outR L R z f = R ∧ outR M R2 z2 f2 = R2 ∧ outR (L ++ M) R3 z3 f3 = R3 ∧ ∃ x y, Ful R x true ∧ Ful R2 y true ∧ Ful R3 (x ++ ⟨3, 5⟩ :: ⟨3, 5⟩ :: y) true := by
  obtain ⟨h1, h2, h3, rs, rs2, eR, eR2, eR3⟩ := joins_rules hp hq hr e1 e2
  refine ⟨h1, h2, h3, ?_⟩
  obtain ⟨rfl, hz⟩ := outZ_yes e1
  obtain ⟨rfl, hz2⟩ := outZ_yes e2
  obtain ⟨x, hx, -⟩ := par_ful hp hz
  obtain ⟨y, hy, -⟩ := par_ful hq hz2
  refine ⟨x, y, hx, hy, Ful.of ?_⟩
  subst eR eR2 eR3
  obtain ⟨Ra, ea, da⟩ := doc_der hx.yes
  obtain ⟨Rb, eb, db⟩ := doc_der hy.yes
  injection ea with _ ea
  injection eb with _ eb
  subst ea eb
  refine .var rfl (by decide) ?_
  rw [sym_0]
  refine da.join rfl rfl (S := [⟨1, 2⟩]) (by decide) rfl rfl ?_
  refine .var rfl (by decide) ?_
  rw [sym_2]
  exact .put (by decide) (.put (by decide) db)
end Go.Proofs.YtcipfipfamecmaaDoor
