/- The parser on lists (plain mathematics). -/
import Derived.Test.YtpcijjdlppoblaaGreatDoorPicO
namespace Go.Proofs.YtpcijjdlppoblaaGreatDoor
open Go.RowKit
set_option linter.unusedVariables false
set_option maxRecDepth 100000

/-- The terminal at hand. -/
def hdL (l : List Int) (a : Nat) : Int := (l[a]?).getD 0
theorem hdL_over {l : List Int} {a : Nat} (h : l.length ≤ a) : hdL l a = 0 := by
  unfold hdL; rw [List.getElem?_eq_none h]; rfl
theorem hdL_some {l : List Int} {a : Nat} {x : Int} (h : l[a]? = some x) : hdL l a = x := by unfold hdL; rw [h]; rfl
theorem hdL_take {l : List Int} {k a : Nat} (h : a < k) : hdL (l.take k) a = hdL l a := by
  unfold hdL; rw [List.getElem?_take_of_lt h]
theorem hdL_app {l m : List Int} {a : Nat} (h : a < l.length) : hdL (l ++ m) a = hdL l a := by
  unfold hdL; rw [List.getElem?_append_left h]
theorem hdL_app' {l m : List Int} {a : Nat} : hdL (l ++ m) (l.length + a) = hdL m a := by
  unfold hdL; rw [List.getElem?_append_right (by omega)]; congr 2; omega
/-- The parser from a stack on, at a place: the rules that it tells, where it stops, and whether the stack is empty then. -/
inductive Run (h : Nat → Int) : List Sq → Nat → List Int → Nat → Bool → Prop
  | nil {a : Nat} : Run h [] a [] a true
  | term {t : Sq} {S : List Sq} {a z : Nat} {rs : List Int} {f : Bool} : t.k ≠ 1 → fitK (h a) t = true → Run h S (a + 1) rs z f → Run h (t :: S) a rs z f
  | miss {t : Sq} {S : List Sq} {a : Nat} : t.k ≠ 1 → fitK (h a) t = false → Run h (t :: S) a [] a false
  | var {t : Sq} {S : List Sq} {a z : Nat} {i : Int} {rs : List Int} {f : Bool} : t.k = 1 → pickK (h a) t.n = i → 0 ≤ i → Run h (plR i ++ S) a rs z f → Run h (t :: S) a (i :: rs) z f
  | stop {t : Sq} {S : List Sq} {a : Nat} : t.k = 1 → pickK (h a) t.n < 0 → Run h (t :: S) a [] a false
theorem Run.le {h : Nat → Int} {S : List Sq} {a z : Nat} {rs : List Int} {f : Bool} (r : Run h S a rs z f) : a ≤ z := by
  induction r with
  | nil => exact Nat.le_refl _
  | term _ _ _ ih => omega
  | miss _ _ => exact Nat.le_refl _
  | var _ _ _ _ ih => exact ih
  | stop _ _ => exact Nat.le_refl _
theorem Run.det {h : Nat → Int} {S : List Sq} {a z : Nat} {rs : List Int} {f : Bool} (r : Run h S a rs z f) :
    ∀ {z' : Nat} {rs' : List Int} {f' : Bool}, Run h S a rs' z' f' → rs = rs' ∧ z = z' ∧ f = f' := by
  induction r with
  | nil => intro z' rs' f' r'; cases r'; exact ⟨rfl, rfl, rfl⟩
  | term hk hf _ ih =>
    intro z' rs' f' r'
    cases r' with
    | term _ _ r2 => exact ih r2
    | miss _ h2 => rw [hf] at h2; cases h2
    | var h2 _ _ _ => exact absurd h2 hk
    | stop h2 _ => exact absurd h2 hk
  | miss hk hf =>
    intro z' rs' f' r'
    cases r' with
    | term _ h2 _ => rw [hf] at h2; cases h2
    | miss _ h2 => exact ⟨rfl, rfl, rfl⟩
    | var h2 _ _ _ => exact absurd h2 hk
    | stop h2 _ => exact absurd h2 hk
  | var hk hp h0 _ ih =>
    intro z' rs' f' r'
    cases r' with
    | term h2 _ _ => exact absurd hk h2
    | miss h2 _ => exact absurd hk h2
    | var _ hp2 _ r2 =>
      rw [hp] at hp2
      subst hp2
      obtain ⟨e1, e2, e3⟩ := ih r2
      exact ⟨by rw [e1], e2, e3⟩
    | stop _ h2 => omega
  | stop hk hp =>
    intro z' rs' f' r'
    cases r' with
    | term h2 _ _ => exact absurd hk h2
    | miss h2 _ => exact absurd hk h2
    | var _ hp2 _ r2 => omega
    | stop _ h2 => exact ⟨rfl, rfl, rfl⟩
theorem Run.congr {h h' : Nat → Int} {S : List Sq} {a z : Nat} {rs : List Int} {f : Bool} (r : Run h S a rs z f) : (∀ j, a ≤ j → j ≤ z → h j = h' j) → Run h' S a rs z f := by
  induction r with
  | nil => intro _; exact .nil
  | term hk hf r ih =>
    intro e
    have := r.le
    exact .term hk (by rw [← e _ (Nat.le_refl _) (by omega)]; exact hf) (ih fun j h1 h2 => e j (by omega) h2)
  | miss hk hf => intro e; exact .miss hk (by rw [← e _ (Nat.le_refl _) (Nat.le_refl _)]; exact hf)
  | var hk hp h0 r ih =>
    intro e
    exact .var hk (by rw [← e _ (Nat.le_refl _) r.le]; exact hp) h0 (ih e)
  | stop hk hp => intro e; exact .stop hk (by rw [← e _ (Nat.le_refl _) (Nat.le_refl _)]; exact hp)
theorem Run.shift {h h' : Nat → Int} {S : List Sq} {a z : Nat} {rs : List Int} {f : Bool} (r : Run h S a rs z f) {d : Nat} (e : ∀ j, h' (d + j) = h j) : Run h' S (d + a) rs (d + z) f := by
  induction r with
  | nil => exact .nil
  | term hk hf r ih => exact .term hk (by rw [e]; exact hf) ih
  | miss hk hf => exact .miss hk (by rw [e]; exact hf)
  | var hk hp h0 r ih => exact .var hk (by rw [e]; exact hp) h0 ih
  | stop hk hp => exact .stop hk (by rw [e]; exact hp)
theorem Run.split {h : Nat → Int} {C : List Sq} {a z : Nat} {rs : List Int} {f : Bool} (r : Run h C a rs z f) : ∀ {A B : List Sq}, C = A ++ B →
    (∃ rs1 y rs2, rs = rs1 ++ rs2 ∧ Run h A a rs1 y true ∧ Run h B y rs2 z f) ∨ (f = false ∧ Run h A a rs z false) := by
  induction r with
  | nil =>
    intro A B e
    obtain ⟨rfl, rfl⟩ := List.append_eq_nil_iff.1 e.symm
    exact .inl ⟨[], _, [], rfl, .nil, .nil⟩
  | term hk hf r ih =>
    intro A B e
    cases A with
    | nil => exact .inl ⟨[], _, _, rfl, .nil, by rw [List.nil_append] at e; rw [← e]; exact .term hk hf r⟩
    | cons u A =>
      rw [List.cons_append] at e
      injection e with e1 e2
      subst e1
      rcases ih e2 with ⟨rs1, y, rs2, h1, h2, h3⟩ | ⟨h1, h2⟩
      · exact .inl ⟨rs1, y, rs2, h1, .term hk hf h2, h3⟩
      · exact .inr ⟨h1, .term hk hf h2⟩
  | miss hk hf =>
    intro A B e
    cases A with
    | nil => exact .inl ⟨[], _, _, rfl, .nil, by rw [List.nil_append] at e; rw [← e]; exact .miss hk hf⟩
    | cons u A =>
      rw [List.cons_append] at e
      injection e with e1 e2
      subst e1
      exact .inr ⟨rfl, .miss hk hf⟩
  | var hk hp h0 r ih =>
    intro A B e
    cases A with
    | nil => exact .inl ⟨[], _, _, rfl, .nil, by rw [List.nil_append] at e; rw [← e]; exact .var hk hp h0 r⟩
    | cons u A =>
      rw [List.cons_append] at e
      injection e with e1 e2
      subst e1 e2
      rcases ih (List.append_assoc _ _ _).symm with ⟨rs1, y, rs2, h1, h2, h3⟩ | ⟨h1, h2⟩
      · exact .inl ⟨_ :: rs1, y, rs2, by rw [h1]; rfl, .var hk hp h0 h2, h3⟩
      · exact .inr ⟨h1, .var hk hp h0 h2⟩
  | stop hk hp =>
    intro A B e
    cases A with
    | nil => exact .inl ⟨[], _, _, rfl, .nil, by rw [List.nil_append] at e; rw [← e]; exact .stop hk hp⟩
    | cons u A =>
      rw [List.cons_append] at e
      injection e with e1 e2
      subst e1
      exact .inr ⟨rfl, .stop hk hp⟩
/-- The end fits nothing. -/
theorem fit_end {t : Sq} (hk : t.k ≠ 1) : fitK 0 t = false := by
  obtain ⟨k, n⟩ := t
  change k ≠ 1 at hk
  by_cases h0 : k = 0
  · subst h0; rw [fitK_term]; simp
  · by_cases h2 : k = 2
    · subst h2; rw [fitK_class]; simp [inK]
    · exact fitK_other 0 h0 hk h2
theorem Run.within {h : Nat → Int} {N : Nat} (hN : ∀ j, N ≤ j → h j = 0) {S : List Sq} {a z : Nat} {rs : List Int} {f : Bool} (r : Run h S a rs z f) : a ≤ N → z ≤ N := by
  induction r with
  | nil => exact id
  | @term t S a z rs f hk hf _ ih =>
    intro ha
    refine ih ?_
    by_cases e : a = N
    · rw [hN a (by omega), fit_end hk] at hf; cases hf
    · omega
  | miss _ _ => exact id
  | var _ _ _ _ ih => exact ih
  | stop _ _ => exact id
theorem fstN_or {p : Int → Bool} : ∀ l : List Int, fstN p l = -1 ∨ (fstN p l ∈ l ∧ p (fstN p l) = true)
  | [] => .inl rfl
  | i :: l => by
    rw [fstN]
    by_cases hp : p i = true
    · rw [if_pos hp]; exact .inr ⟨List.mem_cons_self, hp⟩
    · rw [if_neg hp]
      rcases fstN_or (p := p) l with h | ⟨h1, h2⟩
      · exact .inl h
      · exact .inr ⟨List.mem_cons_of_mem _ h1, h2⟩
theorem pick_mem {te v i : Int} (h : pickK te v = i) (h0 : 0 ≤ i) : i ∈ ofR v := by
  rw [pickK] at h
  by_cases hb : 0 ≤ begN te v
  · rw [if_pos hb] at h
    subst h
    rcases fstN_or (p := begK te) (ofR v) with h | ⟨h1, _⟩
    · rw [begN, h] at hb; omega
    · exact h1
  · rw [if_neg hb] at h
    subst h
    rcases fstN_or (p := empB) (ofR v) with h | ⟨h1, _⟩
    · rw [empR, h] at h0; omega
    · exact h1
theorem pick_rule {te v i : Int} (h : pickK te v = i) (h0 : 0 ≤ i) : ∃ a : Nat, i = (a : Int) ∧ a < 90 ∧ (varR a : Int) = v := by
  obtain ⟨a, h1, h2, h3⟩ := ofR_mem.1 (pick_mem h h0)
  exact ⟨a, h3, h1, h2⟩
/-- How many rules more than six times the terminals a symbol can tell, when all of it is done with. -/
def netL : List Int := [-6, 1, -8, 1, 1, 1, -19, 1, -4, 1, 1, 1, 1, -16, -5, 1, 1, 1, -11, 1, -1, 1, 1, -4, -9, 1, 1, 1, -22, 1, -12, 1, 1, 1, -12, -13, 1, -3, 1, 1, 1, -22, 1]
/-- .. and at any time. -/
def topL : List Int := [3, 3, 2, 1, 1, 2, 1, 1, 1, 1, 1, 1, 2, 1, 1, 2, 2, 2, 1, 2, 1, 1, 2, 2, 1, 1, 1, 1, 1, 3, 2, 1, 1, 3, 2, 1, 3, 2, 1, 1, 1, 1, 3]
def netS (t : Sq) : Int := if t.k = 1 then netL.getD t.n.toNat 0 else -6
def topN (v : Int) : Int := topL.getD v.toNat 0
def topS (t : Sq) : Int := if t.k = 1 then topN t.n else 0
theorem topL_ge : ∀ v, 0 ≤ topL.getD v 0 := by
  intro v
  by_cases h : v < 43
  · revert v; decide +kernel
  · rw [List.getD_eq_getElem?_getD, List.getElem?_eq_none (by have : topL.length = 43 := rfl; omega)]; decide
theorem topS_ge (t : Sq) : 0 ≤ topS t := by
  unfold topS
  split
  · exact topL_ge _
  · exact Int.le_refl _
/-- The same of a row, with x behind it. -/
def potX (x : Int) : List Sq → Int
  | [] => x
  | t :: S => max (topS t) (netS t + potX x S)
def netP : List Sq → Int
  | [] => 0
  | t :: S => netS t + netP S
theorem potX_ge {x : Int} (hx : 0 ≤ x) : ∀ S, 0 ≤ potX x S
  | [] => hx
  | t :: S => by rw [potX]; exact Int.le_trans (topS_ge t) (Int.le_max_left _ _)
theorem potX_app (x : Int) (B : List Sq) : ∀ A, potX x (A ++ B) = potX (potX x B) A
  | [] => rfl
  | t :: A => by rw [List.cons_append, potX, potX, potX_app x B A]
theorem potX_le {x : Int} (hx : 0 ≤ x) : ∀ S, potX x S ≤ max (potX 0 S) (netP S + x)
  | [] => by rw [potX, potX, netP]; omega
  | t :: S => by
    have := potX_le hx S
    rw [potX, potX, netP]
    omega
theorem pot_dec : ∀ i, i < 90 → potX 0 (plS (symR i)) + 1 ≤ topL.getD (varR i) 0 ∧ netP (plS (symR i)) + 1 ≤ netL.getD (varR i) 0 := by decide +kernel
theorem pot_step {te v i : Int} (h : pickK te v = i) (h0 : 0 ≤ i) {t : Sq} (hk : t.k = 1) (hn : t.n = v) (S : List Sq) : potX 0 (plR i ++ S) + 1 ≤ potX 0 (t :: S) := by
  obtain ⟨a, rfl, h1, h2⟩ := pick_rule h h0
  obtain ⟨d1, d2⟩ := pot_dec a h1
  have e : plR (a : Int) = plS (symR a) := by rw [plR, symI, if_pos h0]; rfl
  have hx := potX_ge (Int.le_refl 0) S
  have hl := potX_le hx (plS (symR a))
  have hv : t.n.toNat = varR a := by omega
  rw [potX_app, potX, topS, topN, netS, if_pos hk, if_pos hk, hv, e]
  omega
/-- The steps that are to come, in terms of the terminals. -/
theorem Run.steps {h : Nat → Int} {S : List Sq} {a z : Nat} {rs : List Int} {f : Bool} (r : Run h S a rs z f) : (rs.length : Int) + 6 * a ≤ 6 * z + potX 0 S := by
  induction r with
  | nil => rw [potX, List.length_nil]; omega
  | @term t S a z rs f hk hf _ ih =>
    rw [potX, netS, if_neg hk]
    omega
  | @miss t S a hk hf => have := potX_ge (Int.le_refl 0) (t :: S); rw [List.length_nil]; omega
  | var hk hp h0 _ ih =>
    have := pot_step hp h0 hk rfl ‹_›
    rw [List.length_cons]
    omega
  | @stop t S a hk hp => have := potX_ge (Int.le_refl 0) (t :: S); rw [List.length_nil]; omega
/-- The parser stops. -/
theorem run_ex {h : Nat → Int} {N : Nat} (hN : ∀ j, N ≤ j → h j = 0) : ∀ (m : Nat) (S : List Sq) (a : Nat), a ≤ N → potX 0 S + 7 * ((N : Int) - a) ≤ m → ∃ rs z f, Run h S a rs z f := by
  intro m
  induction m with
  | zero =>
    intro S a ha hm
    cases S with
    | nil => exact ⟨_, _, _, .nil⟩
    | cons t S =>
      by_cases hk : t.k = 1
      · by_cases hp : 0 ≤ pickK (h a) t.n
        · have := pot_step rfl hp hk rfl S
          have := potX_ge (Int.le_refl 0) (plR (pickK (h a) t.n) ++ S)
          omega
        · exact ⟨_, _, _, .stop hk (by omega)⟩
      · cases hf : fitK (h a) t
        · exact ⟨_, _, _, .miss hk hf⟩
        · have := potX_ge (Int.le_refl 0) (t :: S)
          rw [hN a (by omega), fit_end hk] at hf
          cases hf
  | succ m ih =>
    intro S a ha hm
    cases S with
    | nil => exact ⟨_, _, _, .nil⟩
    | cons t S =>
      by_cases hk : t.k = 1
      · by_cases hp : 0 ≤ pickK (h a) t.n
        · have := pot_step rfl hp hk rfl S
          obtain ⟨rs, z, f, r⟩ := ih (plR (pickK (h a) t.n) ++ S) a ha (by omega)
          exact ⟨_, _, _, .var hk rfl hp r⟩
        · exact ⟨_, _, _, .stop hk (by omega)⟩
      · cases hf : fitK (h a) t
        · exact ⟨_, _, _, .miss hk hf⟩
        · have hlt : a < N := by
            by_cases e : a = N
            · rw [hN a (by omega), fit_end hk] at hf; cases hf
            · omega
          have hpt : potX 0 (t :: S) = max (topS t) (netS t + potX 0 S) := rfl
          have hnt : netS t = -6 := by rw [netS, if_neg hk]
          obtain ⟨rs, z, f, r⟩ := ih S (a + 1) hlt (by omega)
          exact ⟨_, _, _, .term hk hf r⟩
/-- The document's stack. -/
def docS : List Sq := [⟨1, 0⟩]
theorem doc_pot : potX 0 docS = 3 := by decide +kernel
/-- A list is parsed so: the rules told, the place at hand in the end, and whether the stack is empty then. -/
def Par (l : List Int) (R : List Int) (z : Nat) (f : Bool) : Prop := Run (hdL l) docS 0 R z f
theorem par_ex (l : List Int) : ∃ R z f, Par l R z f :=
  run_ex (N := l.length) (fun j h => hdL_over h) (7 * l.length + 3) docS 0 (Nat.zero_le _) (by rw [doc_pot]; omega)
theorem Par.within {l R : List Int} {z : Nat} {f : Bool} (h : Par l R z f) : z ≤ l.length := Run.within (fun j h => hdL_over h) h (Nat.zero_le _)
theorem Par.steps {l R : List Int} {z : Nat} {f : Bool} (h : Par l R z f) : R.length ≤ 6 * z + 3 := by
  have := Run.steps h
  rw [doc_pot] at this
  omega
theorem Par.det {l R R' : List Int} {z z' : Nat} {f f' : Bool} (h : Par l R z f) (h' : Par l R' z' f') : R = R' ∧ z = z' ∧ f = f' := Run.det h h'
/-- The parser with fuel. -/
def runF (h : Nat → Int) : Nat → List Sq → Nat → Option (List Int × Nat × Bool)
  | 0, _, _ => none
  | _ + 1, [], a => some ([], a, true)
  | n + 1, t :: S, a => if t.k = 1 then (if 0 ≤ pickK (h a) t.n then (runF h n (plR (pickK (h a) t.n) ++ S) a).map fun x => (pickK (h a) t.n :: x.1, x.2) else some ([], a, false))
    else if fitK (h a) t then runF h n S (a + 1) else some ([], a, false)
theorem runF_run {h : Nat → Int} : ∀ {n : Nat} {S : List Sq} {a : Nat} {rs : List Int} {z : Nat} {f : Bool}, runF h n S a = some (rs, z, f) → Run h S a rs z f := by
  intro n
  induction n with
  | zero => intro S a rs z f e; cases e
  | succ n ih =>
    intro S a rs z f e
    cases S with
    | nil => rw [runF] at e; cases e; exact .nil
    | cons t S =>
      rw [runF] at e
      by_cases hk : t.k = 1
      · rw [if_pos hk] at e
        by_cases hp : 0 ≤ pickK (h a) t.n
        · rw [if_pos hp, Option.map_eq_some_iff] at e
          obtain ⟨⟨rs', z', f'⟩, e1, e2⟩ := e
          cases e2
          exact .var hk rfl hp (ih e1)
        · rw [if_neg hp] at e
          cases e
          exact .stop hk (by omega)
      · rw [if_neg hk] at e
        cases hf : fitK (h a) t
        · rw [hf] at e; cases e; exact .miss hk hf
        · rw [hf, if_pos rfl] at e; exact .term hk hf (ih e)
theorem par_doc : Par [12, 18, 14] [0, 3, 41, 44, 46, 23, 21, 48, 42, 1] 3 true := runF_run (n := 40) (by decide +kernel)
theorem par_cut : Par [12, 18] [0, 3, 41, 44, 46, 23, 21, 48, 42] 2 false := runF_run (n := 40) (by decide +kernel)
end Go.Proofs.YtpcijjdlppoblaaGreatDoor

/- What the laws say of the parser (plain mathematics). -/
namespace Go.Proofs.YtpcijjdlppoblaaGreatDoor
open Go.RowKit
set_option linter.unusedVariables false
set_option maxRecDepth 100000

/-- Is the list parsed? -/
def yesB (L : List Int) (z : Nat) (f : Bool) : Bool := f && decide (z = L.length)
/-- What Parse tells: the rules, and the place. -/
def outR (L R : List Int) (z : Nat) (f : Bool) : List Int := if yesB L z f then R else []
def outZ (L : List Int) (z : Nat) (f : Bool) : Int := if yesB L z f then -1 else (z : Int)
theorem outZ_no {L : List Int} {z : Nat} {f : Bool} (h : z < L.length) : outZ L z f = (z : Int) := by
  rw [outZ, yesB, decide_eq_false (by omega), Bool.and_false, if_neg (by simp)]
theorem outZ_yes {L : List Int} {z : Nat} {f : Bool} (h : outZ L z f = -1) : f = true ∧ z = L.length := by
  rw [outZ] at h
  cases hy : yesB L z f
  · rw [hy, if_neg (by simp)] at h; omega
  · rw [yesB, Bool.and_eq_true, decide_eq_true_eq] at hy; exact hy
theorem outZ_or (L : List Int) (z : Nat) (f : Bool) : outZ L z f = -1 ∨ outZ L z f = (z : Int) := by
  rw [outZ]; split
  · exact .inl rfl
  · exact .inr rfl
theorem outZ_ok {L : List Int} {z : Nat} (h : z = L.length) : outZ L z true = -1 := by
  rw [outZ, yesB, decide_eq_true h]; rfl
theorem outR_ok {L R : List Int} {z : Nat} (h : z = L.length) : outR L R z true = R := by
  rw [outR, yesB, decide_eq_true h]; rfl
theorem Par.congr {L L' R : List Int} {z : Nat} {f : Bool} (h : Par L R z f) (e : ∀ j, j ≤ z → hdL L j = hdL L' j) : Par L' R z f := Run.congr h fun j _ hj => e j hj
/-- Where it fails does not hang on what stands behind. -/
theorem first_math {L R R' : List Int} {z z' j : Nat} {f f' : Bool} (hp : Par L R z f) (hq : Par (L.take j) R' z' f') (hj : j ≤ L.length) {p p' : Int} (ep : outZ L z f = p) (ep' : outZ (L.take j) z' f' = p') :
    -1 ≤ p ∧ p ≤ (L.length : Int) ∧ -1 ≤ p' ∧ p' ≤ (j : Int) ∧ ((0 ≤ p ∧ p < (j : Int)) → p' = p) ∧ (¬ (0 ≤ p ∧ p < (j : Int)) → p' = -1 ∨ p' = (j : Int)) := by
  have hz := hp.within
  have hz' := hq.within
  have hlen : (L.take j).length = j := by rw [List.length_take]; omega
  rw [hlen] at hz'
  have o1 := outZ_or L z f
  have o2 := outZ_or (L.take j) z' f'
  rw [ep] at o1
  rw [ep'] at o2
  refine ⟨by omega, by omega, by omega, by omega, fun h => ?_, fun h => ?_⟩
  · have e : p = (z : Int) := by omega
    have hzj : z < j := by omega
    obtain ⟨-, h2, h3⟩ := (hp.congr (L' := L.take j) fun i hi => (hdL_take (by omega)).symm).det hq
    subst h2 h3
    rw [← ep', outZ_no (by rw [hlen]; exact hzj), e]
  · rcases o2 with o2 | o2
    · exact .inl o2
    · by_cases hzj : z' < j
      · exfalso
        obtain ⟨-, h2, h3⟩ := (hq.congr (L' := L) fun i hi => hdL_take (by omega)).det hp
        subst h2 h3
        rw [outZ_no (by omega)] at ep
        omega
      · right; omega
/-- Does the terminal at hand fit, behind rules that it asks for? -/
def eatB (te : Int) : Nat → List Sq → Bool
  | 0, _ => false
  | _ + 1, [] => false
  | n + 1, t :: S => if t.k = 1 then decide (0 ≤ pickK te t.n) && eatB te n (plR (pickK te t.n) ++ S) else fitK te t
theorem eat_run {h : Nat → Int} {a : Nat} : ∀ {n : Nat} {S : List Sq} {rs : List Int} {z : Nat} {f : Bool}, eatB (h a) n S = true → Run h S a rs z f → a < z := by
  intro n
  induction n with
  | zero => intro S rs z f e; cases e
  | succ n ih =>
    intro S rs z f e r
    cases S with
    | nil => cases e
    | cons t S =>
      rw [eatB] at e
      cases r with
      | term hk _ r => have := r.le; omega
      | miss hk hf => rw [if_neg hk, hf] at e; cases e
      | var hk hp h0 r =>
        rw [if_pos hk, Bool.and_eq_true, hp] at e
        exact ih e.2 r
      | stop hk hp =>
        rw [if_pos hk, Bool.and_eq_true, decide_eq_true_eq] at e
        omega
/-- The terminals that a definition can begin with. -/
def bgB (te : Int) : Bool := te == 12 || te == 17 || (decide (19 ≤ te) && decide (te ≤ 22)) || (decide (24 ≤ te) && decide (te ≤ 29))
theorem eat_dec : ∀ te, te < 31 → bgB (te : Nat) = true → eatB (te : Nat) 6 docS = true := by decide +kernel
theorem stop_dec : ∀ te, te < 31 → bgB (te : Nat) = false → pickK (te : Nat) 0 = -1 := by decide +kernel
theorem bg_range {te : Int} (h : bgB te = true) : 0 ≤ te ∧ te < 31 := by
  simp only [bgB, Bool.or_eq_true, Bool.and_eq_true, beq_iff_eq, decide_eq_true_eq] at h
  omega
theorem pick_out {te v : Int} (h : te ≤ 0 ∨ 31 ≤ te) : pickK te v = empR v := by
  have := begN_ge te v
  rw [fstK_out h v] at this
  rw [pickK, if_neg (by simpa using this)]
theorem stop_all {te : Int} (h : bgB te = false) : pickK te 0 < 0 := by
  by_cases hr : 0 ≤ te ∧ te < 31
  · obtain ⟨a, rfl⟩ := Int.eq_ofNat_of_zero_le hr.1
    have := stop_dec a (by omega) h
    omega
  · rw [pick_out (by omega)]; decide +kernel
/-- What a list fails at, that begins so. -/
theorem none_math {L R : List Int} {z : Nat} {f : Bool} {te : Int} (hp : Par L R z f) (h0 : hdL L 0 = te) : bgB te = !(outZ L z f == 0) := by
  cases hb : bgB te
  · have hst := stop_all hb
    cases hp with
    | term h1 _ _ => exact absurd rfl h1
    | miss h1 _ => exact absurd rfl h1
    | var _ h1 h2 _ => rw [h0] at h1; change pickK te 0 = _ at h1; omega
    | stop _ _ => rfl
  · have hr := bg_range hb
    obtain ⟨a, rfl⟩ := Int.eq_ofNat_of_zero_le hr.1
    have he := eat_dec a (by omega) hb
    rw [← h0] at he
    have := eat_run he hp
    rcases outZ_or L z f with o | o <;> rw [o]
    · rfl
    · have h1 : ¬ ((z : Int) = 0) := by omega
      rw [beq_eq_false_iff_ne.2 h1]; rfl
theorem none_nil {R : List Int} {z : Nat} {f : Bool} (hp : Par [] R z f) : outR [] R z f = [] ∧ outZ [] z f = 0 := by
  have hst : pickK 0 0 < 0 := by decide +kernel
  cases hp with
  | term h1 _ _ => exact absurd rfl h1
  | miss h1 _ => exact absurd rfl h1
  | var _ h1 h2 _ => change pickK 0 0 = _ at h1; omega
  | stop _ _ => exact ⟨rfl, rfl⟩
end Go.Proofs.YtpcijjdlppoblaaGreatDoor

/- What the laws say of the parser: names, two documents (plain mathematics). -/
namespace Go.Proofs.YtpcijjdlppoblaaGreatDoor
open Go.RowKit
set_option linter.unusedVariables false
set_option maxRecDepth 100000

/-- What stands ahead of a document's last symbol: none of the first two variables, and no terminal TeName. -/
def innB (t : Sq) : Bool := !(t.k == 1 && (t.n == 0 || t.n == 1)) && !(t.k == 0 && t.n == 18)
def moreS : Sq := ⟨1, 1⟩
theorem inn_dec : ∀ i, i < 90 → 2 ≤ varR i → (plS (symR i)).all innB = true := by decide +kernel
theorem pl_at (i : Nat) : plR (i : Int) = plS (symR i) := by rw [plR, symI, if_pos (by omega)]; rfl
theorem pl_0 : plR 0 = [⟨1, 2⟩, moreS] := sameS_eq (by decide +kernel)
theorem pl_1 : plR 1 = [] := sameS_eq (by decide +kernel)
theorem pl_2 : plR 2 = [⟨1, 2⟩, moreS] := sameS_eq (by decide +kernel)
theorem inn_var {t : Sq} (hk : t.k = 1) (h : innB t = true) {te i : Int} (hp : pickK te t.n = i) (h0 : 0 ≤ i) : (plR i).all innB = true := by
  obtain ⟨a, rfl, h1, h2⟩ := pick_rule hp h0
  rw [pl_at]
  refine inn_dec a h1 ?_
  by_cases e : 2 ≤ varR a
  · exact e
  · exfalso
    rw [innB, hk] at h
    have : t.n = 0 ∨ t.n = 1 := by omega
    rcases this with e | e <;> rw [e] at h <;> cases h
theorem more_rule {te i : Int} (hp : pickK te 1 = i) (h0 : 0 ≤ i) : i = 1 ∨ i = 2 := by
  obtain ⟨a, rfl, h1, h2⟩ := pick_rule hp h0
  have : ∀ a, a < 90 → (varR a : Int) = 1 → a = 1 ∨ a = 2 := by decide +kernel
  rcases this a h1 h2 with rfl | rfl
  · exact .inl rfl
  · exact .inr rfl
theorem doc_rule {te i : Int} (hp : pickK te 0 = i) (h0 : 0 ≤ i) : i = 0 := by
  obtain ⟨a, rfl, h1, h2⟩ := pick_rule hp h0
  have : ∀ a, a < 90 → (varR a : Int) = 0 → a = 0 := by decide +kernel
  rw [this a h1 h2]; rfl
/-- A document that is parsed: behind its first rule. -/
theorem doc_run {h : Nat → Int} {rs : List Int} {z : Nat} (r : Run h docS 0 rs z true) : ∃ rs', rs = 0 :: rs' ∧ pickK (h 0) 0 = 0 ∧ Run h [⟨1, 2⟩, moreS] 0 rs' z true := by
  cases r with
  | term h1 _ _ => exact absurd rfl h1
  | var _ hp h0 r =>
    have hp' : pickK (h 0) 0 = _ := hp
    obtain rfl := doc_rule hp' h0
    rw [List.append_nil, pl_0] at r
    exact ⟨_, rfl, hp', r⟩
theorem pick_none {te v : Int} (h : v < 0 ∨ 43 ≤ v) : pickK te v = -1 := pickK_over te h
/-- With a name at hand, or with 'type', the same rule is told. -/
theorem name_dec : ∀ v, v < 43 → 2 ≤ v → 0 ≤ pickK 18 (v : Nat) → pickK 24 (v : Nat) = pickK 18 (v : Nat) := by decide +kernel
theorem name_pick {t : Sq} (hk : t.k = 1) (h : innB t = true) {i : Int} (hp : pickK 18 t.n = i) (h0 : 0 ≤ i) : pickK 24 t.n = i := by
  by_cases hv : 0 ≤ t.n ∧ t.n < 43
  · obtain ⟨a, ha⟩ := Int.eq_ofNat_of_zero_le hv.1
    rw [ha] at hp hv ⊢
    rw [← hp]
    refine name_dec a (by omega) ?_ (by rw [hp]; exact h0)
    by_cases e : 2 ≤ a
    · exact e
    · exfalso
      rw [innB, hk, ha] at h
      have : a = 0 ∨ a = 1 := by omega
      rcases this with rfl | rfl <;> cases h
  · rw [pick_none (by omega)] at hp; omega
theorem name_fit {t : Sq} (hk : t.k ≠ 1) (h : innB t = true) (hf : fitK 18 t = true) : fitK 24 t = true := by
  obtain ⟨k, n⟩ := t
  change k ≠ 1 at hk
  by_cases h0 : k = 0
  · subst h0
    rw [fitK_term, Bool.and_eq_true, beq_iff_eq] at hf
    obtain ⟨rfl, -⟩ := hf
    cases h
  · by_cases h2 : k = 2
    · subst h2
      rw [fitK_class] at hf ⊢
      by_cases n0 : n = 0
      · subst n0; rfl
      · by_cases n1 : n = 1
        · subst n1; rfl
        · by_cases n2 : n = 2
          · subst n2; cases hf
          · rw [inK_no n0 n1 n2] at hf; cases hf
    · rw [fitK_other 18 h0 hk h2] at hf; cases hf
theorem all_app {P S : List Sq} (h1 : P.all innB = true) (h2 : S.all innB = true) : (P ++ S).all innB = true := by rw [List.all_append, h1, h2]; rfl
theorem names_run {h h' : Nat → Int} {k N : Nat} (hk : h k = 18) (hk' : h' k = 24) (he : ∀ j, j ≠ k → h j = h' j) (hN : k < N) {C : List Sq} {a z : Nat} {rs : List Int} {f : Bool} (r : Run h C a rs z f) :
    f = true → z = N → ∀ {S : List Sq}, S.all innB = true → C = S ++ [moreS] → Run h' C a rs z f := by
  induction r with
  | nil => intro _ _ S _ e; cases S <;> cases e
  | @term t C a z rs f htk hf r ih =>
    intro hf1 hz S hS e
    cases S with
    | nil => cases e; exact absurd rfl htk
    | cons u S =>
      rw [List.cons_append] at e
      injection e with e1 e2
      subst e1
      rw [List.all_cons, Bool.and_eq_true] at hS
      refine .term htk ?_ (ih hf1 hz hS.2 e2)
      by_cases ea : a = k
      · subst ea; rw [hk] at hf; rw [hk']; exact name_fit htk hS.1 hf
      · rw [← he a ea]; exact hf
  | miss _ _ => intro hf1; cases hf1
  | @var t C a z i rs f htk hp h0 r ih =>
    intro hf1 hz S hS e
    cases S with
    | nil =>
      cases e
      rcases more_rule hp h0 with rfl | rfl
      · rw [pl_1, List.append_nil] at r
        have hza : z = a := by cases r; rfl
        refine .var htk ?_ h0 ?_
        · rw [← he a (by omega)]; exact hp
        · rw [pl_1, List.append_nil]; cases r; exact .nil
      · by_cases ea : a = k
        · subst ea
          exfalso
          have : pickK 18 1 = 2 := by rw [hk] at hp; exact hp
          have h18 : pickK 18 1 = 1 := by decide +kernel
          omega
        · refine .var htk (by rw [← he a ea]; exact hp) h0 (ih hf1 hz (S := [⟨1, 2⟩]) rfl ?_)
          rw [pl_2]; rfl
    | cons u S =>
      rw [List.cons_append] at e
      injection e with e1 e2
      subst e1
      rw [List.all_cons, Bool.and_eq_true] at hS
      refine .var htk ?_ h0 (ih hf1 hz (all_app (inn_var htk hS.1 hp h0) hS.2) (by rw [e2, List.append_assoc]))
      by_cases ea : a = k
      · subst ea; rw [hk] at hp; rw [hk']; exact name_pick htk hS.1 hp h0
      · rw [← he a ea]; exact hp
  | stop _ _ => intro hf1; cases hf1
/-- Where a name stands that is no word of the grammar, one that is does as well. -/
theorem names_math {L L' R R' : List Int} {z z' k : Nat} {f f' : Bool} (hp : Par L R z f) (hq : Par L' R' z' f') (hlen : L'.length = L.length) (hkl : k < L.length) (hk : hdL L k = 18) (hk' : hdL L' k = 24) (he : ∀ j, j ≠ k → hdL L j = hdL L' j)
    {p p' : Int} (ep : outZ L z f = p) (ep' : outZ L' z' f' = p') : (p = -1 → p' = -1 ∧ outR L' R' z' f' = outR L R z f) ∧ (p ≠ -1 → p < (k : Int) → p' = p) := by
  have o1 := outZ_or L z f
  rw [ep] at o1
  constructor
  · intro e
    rw [e] at ep
    obtain ⟨rfl, hz⟩ := outZ_yes ep
    obtain ⟨rs, rfl, hp0, hr⟩ := doc_run hp
    have hr' := names_run hk hk' he hkl hr rfl hz (S := [⟨1, 2⟩]) rfl rfl
    have hq' : Par L' (0 :: rs) z true := by
      refine .var rfl ?_ (Int.le_refl 0) (by rw [List.append_nil, pl_0]; exact hr')
      by_cases e0 : (0 : Nat) = k
      · subst e0
        rw [hk] at hp0
        have : pickK 18 0 = -1 := by decide +kernel
        omega
      · rw [← he 0 e0]; exact hp0
    obtain ⟨e1, e2, e3⟩ := hq'.det hq
    subst e1 e2 e3
    refine ⟨by rw [← ep', outZ_ok (by omega)], by rw [outR_ok hz, outR_ok (by omega)]⟩
  · intro e hlt
    have ez : p = (z : Int) := by omega
    obtain ⟨-, h2, h3⟩ := (hp.congr (L' := L') fun j hj => he j (by omega)).det hq
    subst h2 h3
    rw [← ep', outZ_no (by omega), ez]

/-- The variables that a definition may end by, and that may be nothing. -/
def endL : List Int := [0, 1, 2, 10, 11, 18, 24, 28, 35, 38, 40, 41]
def endB (t : Sq) : Bool := !(t.k == 1) || endL.contains t.n
/-- What stands ahead of symbols that may be nothing alone may end a definition. -/
def tlB : List Sq → Bool
  | [] => true
  | t :: S => (!(S.all mayN) || endB t) && tlB S
theorem tl_dec : ∀ i, i < 90 → endL.contains (varR i : Int) = true → tlB (plS (symR i)) = true := by decide +kernel
theorem tlB_app {S : List Sq} (h : tlB S = true) : ∀ {P : List Sq}, (S.all mayN = true → tlB P = true) → tlB (P ++ S) = true
  | [], _ => h
  | t :: P, hp => by
    rw [List.cons_append, tlB, Bool.and_eq_true]
    constructor
    · cases hS : S.all mayN
      · rw [List.all_append, hS, Bool.and_false]; rfl
      · have := hp hS
        rw [tlB, Bool.and_eq_true] at this
        rw [List.all_append, hS, Bool.and_true]; exact this.1
    · refine tlB_app h (fun hS => ?_)
      have := hp hS
      rw [tlB, Bool.and_eq_true] at this
      exact this.2
theorem tl_var {t : Sq} {S : List Sq} (hk : t.k = 1) (h : tlB (t :: S) = true) {te i : Int} (hp : pickK te t.n = i) (h0 : 0 ≤ i) : tlB (plR i ++ S) = true := by
  rw [tlB, Bool.and_eq_true] at h
  refine tlB_app h.2 fun hS => ?_
  rw [hS] at h
  have he : endL.contains t.n = true := by
    have := h.1
    rw [endB, hk] at this
    simpa using this
  obtain ⟨a, rfl, h1, h2⟩ := pick_rule hp h0
  rw [pl_at]
  exact tl_dec a h1 (by rw [h2]; exact he)
/-- With what a definition begins with nothing begins that may end one, and be nothing. -/
def endN (v : Nat) : Bool := endL.contains (v : Int) && decide (2 ≤ v) && decide (0 ≤ empR (v : Nat))
theorem end_dec : ∀ v : Nat, v < 43 → endN v = true → ∀ te : Nat, te < 31 → (!fstT (te : Nat) 2 || !fstT (te : Nat) (v : Nat)) = true := by decide +kernel
theorem end_pick {t : Sq} (hk : t.k = 1) (hi : innB t = true) (he : endL.contains t.n = true) (h0 : 0 ≤ empR t.n) {te : Int} (ht : fstK te 2 = true) : pickK te t.n = empR t.n := by
  have hr : 0 < te ∧ te < 31 := by
    by_cases e : 0 < te ∧ te < 31
    · exact e
    · rw [fstK_out (by omega)] at ht; cases ht
  have hv : 0 ≤ t.n ∧ t.n < 43 := by
    by_cases e : 0 ≤ t.n ∧ t.n < 43
    · exact e
    · rw [empR_over (by omega)] at h0; omega
  obtain ⟨b, rfl⟩ := Int.eq_ofNat_of_zero_le (show 0 ≤ te by omega)
  obtain ⟨a, ha⟩ := Int.eq_ofNat_of_zero_le hv.1
  rw [ha] at hv h0 he ⊢
  have h2 : 2 ≤ a := by
    by_cases e : 2 ≤ a
    · exact e
    · exfalso
      rw [innB, hk, ha] at hi
      have : a = 0 ∨ a = 1 := by omega
      rcases this with rfl | rfl <;> cases hi
  have := end_dec a (by omega) (by rw [endN, he, decide_eq_true h2, decide_eq_true h0]; rfl) b (by omega)
  rw [← fstK_T, ← fstK_T, ht] at this
  have this : fstK (b : Nat) (a : Nat) = false := by simpa using this
  have hb := begN_ge (b : Nat) (a : Nat)
  rw [this] at hb
  rw [pickK, if_neg (by simpa using hb)]
/-- At the end symbols may be nothing alone. -/
theorem end_run {h : Nat → Int} {C : List Sq} {a z : Nat} {rs : List Int} {f : Bool} (r : Run h C a rs z f) : f = true → z = a → h a = 0 → C.all mayN = true := by
  induction r with
  | nil => intro _ _ _; rfl
  | @term t C a z rs f htk hf r ih => intro _ hz _; have := r.le; omega
  | miss _ _ => intro hf; cases hf
  | @var t C a z i rs f htk hp h0 r ih =>
    intro hf hz ha
    have hc := ih hf hz ha
    rw [ha, pick_out (.inl (Int.le_refl 0))] at hp
    rw [List.all_append, Bool.and_eq_true] at hc
    rw [List.all_cons, hc.2, Bool.and_true, mayN, htk, hp, decide_eq_true h0]; rfl
  | stop _ _ => intro hf; cases hf
theorem empty_rule {v i : Int} (h : empR v = i) (h0 : 0 ≤ i) : plR i = [] := by
  rcases fstN_or (p := empB) (ofR v) with e | ⟨h1, h2⟩
  · rw [empR, e] at h; omega
  · rw [show fstN empB (ofR v) = i from h] at h2
    rw [plR]
    have : symI i = [] := List.eq_nil_of_length_eq_zero (by simpa [empB] using h2)
    rw [this]; rfl
theorem joins_run {h h' : Nat → Int} {N : Nat} {te : Int} (hN : h N = 0) (hte : h' N = te) (hd : fstK te 2 = true) (he : ∀ j, j < N → h j = h' j) {C : List Sq} {a z : Nat} {rs : List Int} {f : Bool} (r : Run h C a rs z f) :
    f = true → z = N → ∀ {S : List Sq}, S.all innB = true → C = S ++ [moreS] → tlB C = true →
      ∃ rs', rs = rs' ++ [1] ∧ ∀ {rs2 : List Int} {z2 : Nat} {f2 : Bool}, Run h' [moreS] N rs2 z2 f2 → Run h' C a (rs' ++ rs2) z2 f2 := by
  induction r with
  | nil => intro _ _ S _ e; cases S <;> cases e
  | @term t C a z rs f htk hf r ih =>
    intro hf1 hz S hS e ht
    cases S with
    | nil => cases e; exact absurd rfl htk
    | cons u S =>
      rw [List.cons_append] at e
      injection e with e1 e2
      subst e1
      rw [List.all_cons, Bool.and_eq_true] at hS
      rw [tlB, Bool.and_eq_true] at ht
      obtain ⟨rs', h1, h2⟩ := ih hf1 hz hS.2 e2 ht.2
      have hle := r.le
      exact ⟨rs', h1, fun r2 => .term htk (by rw [← he a (by omega)]; exact hf) (h2 r2)⟩
  | miss _ _ => intro hf1; cases hf1
  | @var t C a z i rs f htk hp h0 r ih =>
    intro hf1 hz S hS e ht
    have hle := r.le
    cases S with
    | nil =>
      cases e
      rcases more_rule hp h0 with rfl | rfl
      · rw [pl_1, List.append_nil] at r
        obtain ⟨rfl, rfl⟩ : rs = [] ∧ z = a := by cases r; exact ⟨rfl, rfl⟩
        subst hz
        exact ⟨[], rfl, fun r2 => r2⟩
      · by_cases ea : a = N
        · subst ea
          exfalso
          have : pickK 0 1 = 2 := by rw [hN] at hp; exact hp
          have h18 : pickK 0 1 = 1 := by decide +kernel
          omega
        · obtain ⟨rs', h1, h2⟩ := ih hf1 hz (S := [⟨1, 2⟩]) rfl (by rw [pl_2]; rfl) (tl_var htk ht hp h0)
          exact ⟨2 :: rs', by rw [h1]; rfl, fun r2 => .var htk (by rw [← he a (by omega)]; exact hp) h0 (h2 r2)⟩
    | cons u S =>
      rw [List.cons_append] at e
      injection e with e1 e2
      subst e1
      rw [List.all_cons, Bool.and_eq_true] at hS
      obtain ⟨rs', h1, h2⟩ := ih hf1 hz (all_app (inn_var htk hS.1 hp h0) hS.2) (by rw [e2, List.append_assoc]) (tl_var htk ht hp h0)
      refine ⟨i :: rs', by rw [h1]; rfl, fun r2 => .var htk ?_ h0 (h2 r2)⟩
      by_cases ea : a = N
      · subst ea
        have hm := end_run (.var htk hp h0 r) hf1 hz hN
        rw [List.all_cons, Bool.and_eq_true] at hm
        rw [tlB, Bool.and_eq_true, hm.2] at ht
        have hen : endL.contains t.n = true := by
          have := ht.1
          rw [endB, htk] at this
          simpa using this
        rw [hN, pick_out (.inl (Int.le_refl 0))] at hp
        rw [hte, end_pick htk hS.1 hen (by rw [hp]; exact h0) hd, hp]
      · rw [← he a (by omega)]; exact hp
  | stop _ _ => intro hf1; cases hf1
theorem doc_dec : ∀ te, te < 31 → pickK (te : Nat) 0 = 0 → fstT (te : Nat) 2 = true ∧ pickK (te : Nat) 1 = 2 := by decide +kernel
theorem doc_begins {te : Int} (h : pickK te 0 = 0) : fstK te 2 = true ∧ pickK te 1 = 2 := by
  by_cases hr : 0 ≤ te ∧ te < 31
  · obtain ⟨a, rfl⟩ := Int.eq_ofNat_of_zero_le hr.1
    rw [fstK_T]
    exact doc_dec a (by omega) h
  · rw [pick_out (by omega)] at h
    have : empR 0 = -1 := by decide +kernel
    omega
/-- Two documents, one behind the other. -/
theorem joins_math {L M R R2 R3 : List Int} {z z2 z3 : Nat} {f f2 f3 : Bool} (hp : Par L R z f) (hq : Par M R2 z2 f2) (hr : Par (L ++ M) R3 z3 f3) (e1 : outZ L z f = -1) (e2 : outZ M z2 f2 = -1) :
    outZ (L ++ M) z3 f3 = -1 ∧ outR L R z f = R ∧ outR (L ++ M) R3 z3 f3 = R3 ∧ 1 ≤ R.length ∧ R.length ≤ R3.length ∧ R3.take (R.length - 1) = R.take (R.length - 1) := by
  obtain ⟨rfl, rfl⟩ := outZ_yes e1
  obtain ⟨rfl, rfl⟩ := outZ_yes e2
  obtain ⟨rs, rfl, hp0, hr1⟩ := doc_run hp
  obtain ⟨rs2, rfl, hq0, hr2⟩ := doc_run hq
  have hM0 : 0 < M.length := by
    by_cases e : 0 < M.length
    · exact e
    · rw [hdL_over (by omega)] at hq0
      have : pickK 0 0 = -1 := by decide +kernel
      omega
  have hL0 : 0 < L.length := by
    by_cases e : 0 < L.length
    · exact e
    · rw [hdL_over (by omega)] at hp0
      have : pickK 0 0 = -1 := by decide +kernel
      omega
  obtain ⟨hb1, hb2⟩ := doc_begins hq0
  have hh : hdL (L ++ M) L.length = hdL M 0 := by have := hdL_app' (l := L) (m := M) (a := 0); rwa [Nat.add_zero] at this
  have hj := joins_run (h := hdL L) (h' := hdL (L ++ M)) (N := L.length) (te := hdL M 0) (hdL_over (Nat.le_refl _)) hh hb1 (fun j hj => (hdL_app hj).symm) hr1 rfl rfl (S := [⟨1, 2⟩]) rfl rfl (by decide +kernel)
  obtain ⟨rs', rfl, hj⟩ := hj
  have hs : Run (hdL (L ++ M)) [⟨1, 2⟩, moreS] (L.length + 0) rs2 (L.length + M.length) true := hr2.shift fun j => hdL_app'
  have h2 : Run (hdL (L ++ M)) [moreS] L.length (2 :: rs2) (L.length + M.length) true := by
    refine .var rfl ?_ (by decide) (by rw [pl_2, List.append_nil]; exact hs)
    rw [hh]; exact hb2
  have h3 : Par (L ++ M) (0 :: (rs' ++ 2 :: rs2)) (L.length + M.length) true :=
    .var rfl (by rw [hdL_app hL0]; exact hp0) (Int.le_refl 0) (by rw [List.append_nil, pl_0]; exact hj h2)
  obtain ⟨e3, e4, e5⟩ := h3.det hr
  subst e3 e4 e5
  refine ⟨outZ_ok (by rw [List.length_append]), outR_ok rfl, outR_ok (by rw [List.length_append]), by simp, by simp, ?_⟩
  have : (0 :: (rs' ++ [1])).length - 1 = (0 :: rs').length := by simp
  rw [this, show (0 : Int) :: (rs' ++ 2 :: rs2) = (0 :: rs') ++ (2 :: rs2) from rfl, show (0 : Int) :: (rs' ++ [1]) = (0 :: rs') ++ [1] from rfl, List.take_left, List.take_left]
end Go.Proofs.YtpcijjdlppoblaaGreatDoor

/- What rules derive (plain mathematics). -/
namespace Go.Proofs.YtpcijjdlppoblaaGreatDoor
open Go.RowKit
set_option linter.unusedVariables false
set_option maxRecDepth 100000

/-- Is i a rule of variable v? -/
def isR (v i : Int) : Bool := decide (0 ≤ i ∧ i < 90) && ((varR i.toNat : Int) == v)
theorem isR_yes {v i : Int} (h : isR v i = true) : ∃ a : Nat, i = (a : Int) ∧ a < 90 ∧ (varR a : Int) = v := by
  rw [isR, Bool.and_eq_true, decide_eq_true_eq, beq_iff_eq] at h
  obtain ⟨a, rfl⟩ := Int.eq_ofNat_of_zero_le h.1.1
  exact ⟨a, rfl, by omega, h.2⟩
theorem isR_of {v : Int} {a : Nat} (h1 : a < 90) (h2 : (varR a : Int) = v) : isR v (a : Int) = true := by
  rw [isR, Bool.and_eq_true, decide_eq_true_eq, beq_iff_eq]
  exact ⟨by omega, h2⟩
theorem symI_at (a : Nat) : symI (a : Int) = symR a := by rw [symI, if_pos (by omega)]; rfl
/-- From a stack on, by rules: the symbols derived, the rules that are left, and whether the stack is empty then. -/
inductive Der : List Sq → List Int → List Sq → List Int → Bool → Prop
  | nil {R : List Int} : Der [] R [] R true
  | put {t : Sq} {S : List Sq} {R Z : List Int} {out : List Sq} {f : Bool} : t.k ≠ 1 → Der S R out Z f → Der (t :: S) R (t :: out) Z f
  | var {t : Sq} {S : List Sq} {i : Int} {R Z : List Int} {out : List Sq} {f : Bool} : t.k = 1 → isR t.n i = true → Der (symI i ++ S) R out Z f → Der (t :: S) (i :: R) out Z f
  | none {t : Sq} {S : List Sq} : t.k = 1 → Der (t :: S) [] [] [] false
  | stop {t : Sq} {S : List Sq} {i : Int} {R : List Int} : t.k = 1 → isR t.n i = false → Der (t :: S) (i :: R) [] (i :: R) false
theorem Der.det {S : List Sq} {R Z : List Int} {out : List Sq} {f : Bool} (d : Der S R out Z f) :
    ∀ {out' : List Sq} {Z' : List Int} {f' : Bool}, Der S R out' Z' f' → out = out' ∧ Z = Z' ∧ f = f' := by
  induction d with
  | nil => intro out' Z' f' d'; cases d'; exact ⟨rfl, rfl, rfl⟩
  | put hk _ ih =>
    intro out' Z' f' d'
    cases d' with
    | put _ d2 => obtain ⟨e1, e2, e3⟩ := ih d2; exact ⟨by rw [e1], e2, e3⟩
    | var h2 _ _ => exact absurd h2 hk
    | none h2 => exact absurd h2 hk
    | stop h2 _ => exact absurd h2 hk
  | var hk hi _ ih =>
    intro out' Z' f' d'
    cases d' with
    | put h2 _ => exact absurd hk h2
    | var _ _ d2 => exact ih d2
    | stop _ h2 => rw [hi] at h2; cases h2
  | none hk =>
    intro out' Z' f' d'
    cases d' with
    | put h2 _ => exact absurd hk h2
    | none _ => exact ⟨rfl, rfl, rfl⟩
  | stop hk hi =>
    intro out' Z' f' d'
    cases d' with
    | put h2 _ => exact absurd hk h2
    | var _ h2 _ => rw [hi] at h2; cases h2
    | stop _ _ => exact ⟨rfl, rfl, rfl⟩
theorem der_ex : ∀ (R : List Int) (S : List Sq), ∃ out Z f, Der S R out Z f := by
  intro R
  induction R with
  | nil =>
    intro S
    induction S with
    | nil => exact ⟨_, _, _, .nil⟩
    | cons t S ih =>
      by_cases hk : t.k = 1
      · exact ⟨_, _, _, .none hk⟩
      · obtain ⟨out, Z, f, h⟩ := ih
        exact ⟨_, _, _, .put hk h⟩
  | cons i R ihR =>
    intro S
    induction S with
    | nil => exact ⟨_, _, _, .nil⟩
    | cons t S ih =>
      by_cases hk : t.k = 1
      · cases hi : isR t.n i
        · exact ⟨_, _, _, .stop hk hi⟩
        · obtain ⟨out, Z, f, h⟩ := ihR (symI i ++ S)
          exact ⟨_, _, _, .var hk hi h⟩
      · obtain ⟨out, Z, f, h⟩ := ih
        exact ⟨_, _, _, .put hk h⟩
/-- What Full answers. -/
def Ful (R : List Int) (X : List Sq) (is : Bool) : Prop := ∃ out Z f, Der docS R out Z f ∧ is = (f && Z.isEmpty) ∧ X = if is then out else []
theorem ful_ex (R : List Int) : ∃ X is, Ful R X is := by
  obtain ⟨out, Z, f, h⟩ := der_ex R docS
  exact ⟨_, _, out, Z, f, h, rfl, rfl⟩
theorem Ful.det {R : List Int} {X X' : List Sq} {is is' : Bool} (h : Ful R X is) (h' : Ful R X' is') : X = X' ∧ is = is' := by
  obtain ⟨o, Z, f, d, rfl, rfl⟩ := h
  obtain ⟨o', Z', f', d', rfl, rfl⟩ := h'
  obtain ⟨rfl, rfl, rfl⟩ := d.det d'
  exact ⟨rfl, rfl⟩
theorem Ful.yes {R : List Int} {X : List Sq} (h : Ful R X true) : Der docS R X [] true := by
  obtain ⟨o, Z, f, d, e1, rfl⟩ := h
  have e2 := e1.symm
  rw [Bool.and_eq_true, List.isEmpty_iff] at e2
  obtain ⟨rfl, rfl⟩ := e2
  exact d
theorem Ful.of {R : List Int} {X : List Sq} (d : Der docS R X [] true) : Ful R X true := ⟨X, [], true, d, rfl, rfl⟩
theorem Ful.no {R : List Int} {X : List Sq} (h : Ful R X false) : X = [] := by
  obtain ⟨o, Z, f, d, e1, rfl⟩ := h
  rfl
theorem Ful.not {R : List Int} {X : List Sq} {is : Bool} (h : Ful R X is) (hn : ∀ X, ¬ Der docS R X [] true) : is = false := by
  cases is
  · rfl
  · exact absurd h.yes (hn X)

/-- What is told of a symbol: what is put, what has to wait, the rules that are left. -/
def tel : Nat → Sq → List Int → Option (List Sq × List Sq × List Int)
  | 0, t, R => some ([t], [], R)
  | d + 1, t, R => if t.k = 1 then (match R with
      | [] => none
      | i :: R' => if isR t.n i then (match symI i with
          | [] => some ([], [], R')
          | u :: l => (tel d u R').map fun x => (x.1, x.2.1 ++ l, x.2.2)) else none) else some ([t], [], R)
/-- Do d calls within each other suffice? -/
def chB : Nat → Sq → Bool
  | 0, t => !(t.k == 1)
  | d + 1, t => !(t.k == 1) || (ofR t.n).all fun i => match symI i with | [] => true | u :: _ => chB d u
theorem ch_vars : ∀ v, v < 43 → chB 3 ⟨1, (v : Nat)⟩ = true := by decide +kernel
theorem ch_all (t : Sq) : chB 3 t = true := by
  obtain ⟨k, n⟩ := t
  by_cases h1 : k = 1
  · subst h1
    by_cases hv : 0 ≤ n ∧ n < 43
    · obtain ⟨a, rfl⟩ := Int.eq_ofNat_of_zero_le hv.1
      exact ch_vars a (by omega)
    · rw [chB, show (⟨1, n⟩ : Sq).n = n from rfl, ofR_none (by omega)]; rfl
  · rw [chB]; simp [h1]
theorem tel_leaf (d : Nat) {t : Sq} (R : List Int) (hk : t.k ≠ 1) : tel d t R = some ([t], [], R) := by
  cases d with
  | zero => rfl
  | succ d => exact if_neg hk
theorem tel_nil (d : Nat) {t : Sq} (hk : t.k = 1) : tel (d + 1) t [] = none := by rw [tel, if_pos hk]
theorem tel_no (d : Nat) {t : Sq} {i : Int} (R : List Int) (hk : t.k = 1) (hi : isR t.n i = false) : tel (d + 1) t (i :: R) = none := by
  rw [tel, if_pos hk]; simp only [hi]; rfl
theorem tel_empty (d : Nat) {t : Sq} {i : Int} (R : List Int) (hk : t.k = 1) (hi : isR t.n i = true) (hs : symI i = []) : tel (d + 1) t (i :: R) = some ([], [], R) := by
  rw [tel, if_pos hk]; simp only [hi, hs]; rfl
theorem tel_deep (d : Nat) {t u : Sq} {i : Int} {l : List Sq} (R : List Int) (hk : t.k = 1) (hi : isR t.n i = true) (hs : symI i = u :: l) : tel (d + 1) t (i :: R) = (tel d u R).map fun x => (x.1, x.2.1 ++ l, x.2.2) := by
  rw [tel, if_pos hk]; simp only [hi, hs]; rfl
theorem ch_next {d : Nat} {t u : Sq} {i : Int} {l : List Sq} (hc : chB (d + 1) t = true) (hk : t.k = 1) (hi : isR t.n i = true) (hs : symI i = u :: l) : chB d u = true := by
  obtain ⟨a, rfl, h1, h2⟩ := isR_yes hi
  have : (ofR t.n).all (fun i => match symI i with | [] => true | u :: _ => chB d u) = true := by simpa [chB, hk] using hc
  have := List.all_eq_true.1 this a (ofR_mem.2 ⟨a, h1, h2, rfl⟩)
  rw [hs] at this
  exact this
theorem tlI_len (i : Int) : (symI i).length ≤ 10 := by
  unfold symI
  by_cases h : 0 ≤ i
  · rw [if_pos h, symR_len]
    by_cases h2 : i.toNat < 90
    · exact tlR_len _ h2
    · have e : tlR i.toNat = [] := by
        unfold tlR
        have : codR i.toNat = [] := by
          generalize i.toNat = n at h2
          obtain ⟨k, rfl⟩ : ∃ k, n = k + 90 := ⟨n - 90, by omega⟩
          rfl
        rw [this]; rfl
      rw [e]; exact Nat.zero_le _
  · rw [if_neg h]; exact Nat.zero_le _
theorem tel_size : ∀ (d : Nat) (t : Sq) (R : List Int) {o p : List Sq} {Z : List Int}, tel d t R = some (o, p, Z) → p.length + 10 * Z.length ≤ 10 * R.length ∧ o.length + p.length + 10 * Z.length ≤ 1 + 10 * R.length
  | 0, t, R, o, p, Z, h => by
    rw [tel] at h
    cases h
    simp
  | d + 1, t, R, o, p, Z, h => by
    by_cases hk : t.k = 1
    · cases R with
      | nil => rw [tel_nil d hk] at h; cases h
      | cons i R =>
        cases hi : isR t.n i
        · rw [tel_no d R hk hi] at h; cases h
        · cases hs : symI i with
          | nil =>
            rw [tel_empty d R hk hi hs] at h
            cases h
            simp
            omega
          | cons u l =>
            rw [tel_deep d R hk hi hs, Option.map_eq_some_iff] at h
            obtain ⟨⟨o', p', Z'⟩, h1, h2⟩ := h
            cases h2
            have h3 := tel_size d u R h1
            have h4 := tlI_len i
            rw [hs, List.length_cons] at h4
            dsimp only
            rw [List.length_append, List.length_cons]
            omega
    · rw [tel_leaf (d + 1) R hk] at h
      cases h
      simp
theorem tel_some : ∀ (d : Nat) (t : Sq) (R : List Int) {o p : List Sq} {Z : List Int}, chB d t = true → tel d t R = some (o, p, Z) → ∀ (W out : List Sq) (Y : List Int) (f : Bool), Der (p ++ W) Z out Y f → Der (t :: W) R (o ++ out) Y f
  | 0, t, R, o, p, Z, hc, h => by
    rw [tel] at h
    cases h
    intro W out Y f hd
    exact .put (by simpa [chB] using hc) hd
  | d + 1, t, R, o, p, Z, hc, h => by
    intro W out Y f hd
    by_cases hk : t.k = 1
    · cases R with
      | nil => rw [tel_nil d hk] at h; cases h
      | cons i R =>
        cases hi : isR t.n i
        · rw [tel_no d R hk hi] at h; cases h
        · cases hs : symI i with
          | nil =>
            rw [tel_empty d R hk hi hs] at h
            cases h
            exact .var hk hi (by rw [hs]; exact hd)
          | cons u l =>
            rw [tel_deep d R hk hi hs, Option.map_eq_some_iff] at h
            obtain ⟨⟨o', p', Z'⟩, h1, h2⟩ := h
            cases h2
            exact .var hk hi (by rw [hs, List.cons_append]; exact tel_some d u R (ch_next hc hk hi hs) h1 _ _ _ _ (by rw [← List.append_assoc]; exact hd))
    · rw [tel_leaf (d + 1) R hk] at h
      cases h
      exact .put hk hd
theorem tel_none : ∀ (d : Nat) (t : Sq) (R : List Int), chB d t = true → tel d t R = none → ∀ (W : List Sq), ∃ Y, Der (t :: W) R [] Y false
  | 0, t, R, hc, h => by rw [tel] at h; cases h
  | d + 1, t, R, hc, h => by
    intro W
    by_cases hk : t.k = 1
    · cases R with
      | nil => exact ⟨_, .none hk⟩
      | cons i R =>
        cases hi : isR t.n i
        · exact ⟨_, .stop hk hi⟩
        · cases hs : symI i with
          | nil => rw [tel_empty d R hk hi hs] at h; cases h
          | cons u l =>
            rw [tel_deep d R hk hi hs, Option.map_eq_none_iff] at h
            obtain ⟨Y, hY⟩ := tel_none d u R (ch_next hc hk hi hs) h (l ++ W)
            exact ⟨Y, .var hk hi (by rw [hs]; exact hY)⟩
    · rw [tel_leaf (d + 1) R hk] at h
      cases h

/-- Do symbols fit what is at hand, one behind the other? -/
def fitA (h : Nat → Int) : Nat → List Sq → Bool
  | _, [] => true
  | a, t :: l => fitK (h a) t && fitA h (a + 1) l
theorem fitA_drop {h : Nat → Int} {l : List Sq} {a k : Nat} {t : Sq} (e : l[k]? = some t) : fitA h a (l.drop k) = (fitK (h a) t && fitA h (a + 1) (l.drop (k + 1))) := by
  obtain ⟨h1, rfl⟩ := List.getElem?_eq_some_iff.1 e
  rw [List.drop_eq_getElem_cons h1, fitA]
/-- What Derives answers. -/
def derB (is : Bool) (X : List Sq) (L : List Int) : Bool := is && decide ((plS X).length = L.length) && fitA (hdL L) 0 (plS X)

theorem plS_cons {t : Sq} (l : List Sq) (h : t.k ≠ 3) : plS (t :: l) = t :: plS l := by
  rw [plS, List.filter_cons, if_pos (by simpa using h)]; rfl
theorem plS_mark {t : Sq} (l : List Sq) (h : t.k = 3) : plS (t :: l) = plS l := by
  rw [plS, List.filter_cons, if_neg (by simp [h])]; rfl
/-- Marks ahead. -/
theorem plS_split {S : List Sq} : ∀ {S' : List Sq}, plS S' = S → ∃ M S2, S' = M ++ S2 ∧ (∀ t ∈ M, t.k = 3) ∧ plS S2 = S ∧ (∀ t l, S2 = t :: l → t.k ≠ 3)
  | [], h => ⟨[], [], rfl, fun t ht => absurd ht (by simp), h, fun t l e => by cases e⟩
  | t :: S', h => by
    by_cases hk : t.k = 3
    · rw [plS_mark _ hk] at h
      obtain ⟨M, S2, rfl, h2, h3, h4⟩ := plS_split h
      exact ⟨t :: M, S2, rfl, List.forall_mem_cons.2 ⟨hk, h2⟩, h3, h4⟩
    · exact ⟨[], t :: S', rfl, fun u hu => absurd hu (by simp), h, fun u l e => by cases e; exact hk⟩
theorem Der.marks {M : List Sq} (hM : ∀ t ∈ M, t.k = 3) {S out : List Sq} {R Z : List Int} {f : Bool} (d : Der S R out Z f) : ∃ o, Der (M ++ S) R o Z f ∧ plS o = plS out := by
  induction M with
  | nil => exact ⟨out, d, rfl⟩
  | cons t M ih =>
    obtain ⟨o, h1, h2⟩ := ih fun u hu => hM u (List.mem_cons_of_mem _ hu)
    have hk := hM t List.mem_cons_self
    exact ⟨t :: o, .put (by omega) h1, by rw [plS_mark _ hk, h2]⟩
/-- What the parser tells, rules derive. -/
theorem back {h : Nat → Int} {S : List Sq} {a z : Nat} {rs : List Int} {f : Bool} (r : Run h S a rs z f) : f = true → ∀ {S' : List Sq}, plS S' = S →
    ∃ out, Der S' rs out [] true ∧ a + (plS out).length = z ∧ fitA h a (plS out) = true := by
  induction r with
  | nil =>
    intro _ S' e
    obtain ⟨M, S2, rfl, h2, h3, h4⟩ := plS_split e
    cases S2 with
    | nil =>
      obtain ⟨o, h5, h6⟩ := Der.marks h2 (Der.nil (R := []))
      exact ⟨o, h5, by rw [h6]; rfl, by rw [h6]; rfl⟩
    | cons t l => rw [plS_cons _ (h4 t l rfl)] at h3; cases h3
  | @term t S a z rs f hk hf r ih =>
    intro hf1 S' e
    obtain ⟨M, S2, rfl, h2, h3, h4⟩ := plS_split e
    cases S2 with
    | nil => cases h3
    | cons u l =>
      have h3k := h4 u l rfl
      rw [plS_cons _ h3k] at h3
      injection h3 with e1 e2
      subst e1
      obtain ⟨o, d, h5, h6⟩ := ih hf1 e2
      obtain ⟨o', d', h7⟩ := Der.marks h2 (Der.put hk d)
      rw [plS_cons _ h3k] at h7
      exact ⟨o', d', by rw [h7, List.length_cons]; omega, by rw [h7, fitA, hf, h6]; rfl⟩
  | miss _ _ => intro hf; cases hf
  | @var t S a z i rs f hk hp h0 r ih =>
    intro hf1 S' e
    obtain ⟨M, S2, rfl, h2, h3, h4⟩ := plS_split e
    cases S2 with
    | nil => cases h3
    | cons u l =>
      rw [plS_cons _ (h4 u l rfl)] at h3
      injection h3 with e1 e2
      subst e1
      obtain ⟨o, d, h5, h6⟩ := ih hf1 (S' := symI i ++ l) (by rw [plS_app, e2]; rfl)
      obtain ⟨x, rfl, x1, x2⟩ := pick_rule hp h0
      obtain ⟨o', d', h7⟩ := Der.marks h2 (Der.var hk (isR_of x1 x2) d)
      exact ⟨o', d', by rw [h7]; exact h5, by rw [h7]; exact h6⟩
  | stop _ _ => intro hf; cases hf

/-- What can stand behind a variable. -/
def folL : List (List Nat) := [
  [],
  [],
  [12, 17, 19, 20, 21, 22, 24, 25, 26, 27, 28, 29],
  [4, 9, 12],
  [9, 12],
  [5],
  [2, 5],
  [2, 5, 9, 14, 17, 18, 19, 20, 21, 22, 23, 24, 25, 26, 27, 28, 29, 30],
  [2, 5, 8, 9, 11, 14, 17, 18, 19, 20, 21, 22, 23, 24, 25, 26, 27, 28, 29, 30],
  [2, 5, 8, 9, 11, 14, 17, 18, 19, 20, 21, 22, 23, 24, 25, 26, 27, 28, 29, 30],
  [2, 5, 6, 8, 12, 14, 17, 18, 19, 20, 21, 22, 23, 24, 25, 26, 27, 28, 29, 30],
  [2, 5, 6, 8, 9, 12, 14, 17, 18, 19, 20, 21, 22, 23, 24, 25, 26, 27, 28, 29, 30],
  [5, 14],
  [5, 14, 18, 19, 20, 21, 22, 23, 24, 25, 26, 27, 28, 29, 30],
  [2, 5, 9, 10, 11, 12, 14, 15, 16, 17, 18, 19, 20, 21, 22, 23, 24, 25, 26, 27, 28, 29, 30],
  [11],
  [11],
  [14],
  [6, 12, 14, 17, 18, 19, 20, 21, 22, 23, 24, 25, 26, 27, 28, 29, 30],
  [14],
  [6, 14, 18, 19, 20, 21, 22, 23, 24, 25, 26, 27, 28, 29, 30],
  [4, 6, 9, 12, 14, 18, 19, 20, 21, 22, 23, 24, 25, 26, 27, 28, 29, 30],
  [6, 14, 18, 19, 20, 21, 22, 23, 24, 25, 26, 27, 28, 29, 30],
  [6, 14, 18, 19, 20, 21, 22, 23, 24, 25, 26, 27, 28, 29, 30],
  [12, 17, 19, 20, 21, 22, 24, 25, 26, 27, 28, 29],
  [9, 12],
  [18, 19, 20, 21, 22, 23, 24, 25, 26, 27, 28, 29, 30],
  [9, 12],
  [12, 17, 19, 20, 21, 22, 24, 25, 26, 27, 28, 29],
  [14],
  [14, 17, 18, 19, 20, 21, 22, 23, 24, 25, 26, 27, 28, 29, 30],
  [18, 19, 20, 21, 22, 23, 24, 25, 26, 27, 28, 29, 30],
  [7],
  [5],
  [5, 14, 17, 18, 19, 20, 21, 22, 23, 24, 25, 26, 27, 28, 29, 30],
  [12, 17, 19, 20, 21, 22, 24, 25, 26, 27, 28, 29],
  [14],
  [14, 17, 18, 19, 20, 21, 22, 23, 24, 25, 26, 27, 28, 29, 30],
  [12, 17, 19, 20, 21, 22, 24, 25, 26, 27, 28, 29],
  [18, 19, 20, 21, 22, 23, 24, 25, 26, 27, 28, 29, 30],
  [12, 17, 19, 20, 21, 22, 24, 25, 26, 27, 28, 29],
  [12, 17, 19, 20, 21, 22, 24, 25, 26, 27, 28, 29],
  [14]]
def folF (te v : Int) : Bool := (folL.getD v.toNat []).contains te.toNat
def folA (te v : Int) : List Sq → Bool
  | [] => true
  | t :: l => (!(t.k == 1) || ((!goB (fitT te) l || folF te t.n) && (!l.all mayN || !folF te v || folF te t.n))) && folA te v l
theorem folA_dec : ∀ i, i < 90 → ∀ te, te < 31 → folA (te : Nat) (varR i : Nat) (plS (symR i)) = true := by decide +kernel
theorem fol_emp : ∀ v, v < 43 → decide (0 ≤ empR (v : Nat)) = true → ∀ te, te < 31 → (!folF (te : Nat) (v : Nat) || !fstT (te : Nat) (v : Nat)) = true := by decide +kernel
theorem nul_dec : ∀ i, i < 90 → (!(plS (symR i)).all mayN || (symR i).length == 0) = true := by decide +kernel
theorem emp_one : ∀ i, i < 90 → (!((symR i).length == 0) || empR (varR i : Nat) == (i : Int)) = true := by decide +kernel
theorem goB_app (f : Sq → Bool) (B : List Sq) : ∀ A : List Sq, goB f (A ++ B) = (goB f A || (A.all mayN && goB f B))
  | [] => by simp [goB]
  | t :: A => by
    rw [List.cons_append, goB, goB, goB_app f B A, List.all_cons]
    cases f t <;> cases mayN t <;> simp
theorem fit_funT (te : Int) : fitK te = fitT te := funext (fitK_T te)
theorem nul_rule {v i : Int} (hi : isR v i = true) (hn : (plR i).all mayN = true) : symI i = [] ∧ empR v = i := by
  obtain ⟨a, rfl, h1, h2⟩ := isR_yes hi
  rw [pl_at] at hn
  have e1 := nul_dec a h1
  rw [hn] at e1
  have e1 : (symR a).length = 0 := by simpa using e1
  have e2 := emp_one a h1
  rw [e1] at e2
  have e2 : empR (varR a : Nat) = (a : Int) := by simpa using e2
  exact ⟨by rw [symI_at]; exact List.eq_nil_of_length_eq_zero e1, by rw [← h2]; exact e2⟩
theorem one_mem {l : List Int} (h : l.length ≤ 1) {x y : Int} (hx : x ∈ l) (hy : y ∈ l) : x = y := by
  match l, h with
  | [], _ => cases hx
  | [z], _ => rw [List.mem_singleton] at hx hy; rw [hx, hy]
/-- The rule that begins with the terminal at hand is picked. -/
theorem beg_pick {te v i : Int} (hi : isR v i = true) (hb : begK te i = true) : pickK te v = i := by
  obtain ⟨a, rfl, h1, h2⟩ := isR_yes hi
  have hm : (a : Int) ∈ ofR v := ofR_mem.2 ⟨a, h1, h2, rfl⟩
  have hf : fstK te v = true := List.any_eq_true.2 ⟨a, hm, hb⟩
  have hg := begN_ge te v
  rw [hf, decide_eq_true_eq] at hg
  have h3 : begN te v = (a : Int) := by
    rcases fstN_or (p := begK te) (ofR v) with e | ⟨e1, e2⟩
    · rw [begN, e] at hg; omega
    · exact one_mem (one_all te v) (List.mem_filter.2 ⟨e1, e2⟩) (List.mem_filter.2 ⟨hm, hb⟩)
  rw [pickK, if_pos hg, h3]
/-- The rule without symbols is picked where the terminal at hand may stand behind. -/
theorem emp_pick {te v i : Int} (hi : isR v i = true) (he : empR v = i) (hf : 0 < te → te < 31 → folF te v = true) : pickK te v = i := by
  by_cases hr : 0 < te ∧ te < 31
  · obtain ⟨a, rfl, h1, h2⟩ := isR_yes hi
    obtain ⟨b, rfl⟩ := Int.eq_ofNat_of_zero_le (show 0 ≤ te by omega)
    have hv := varR_lt a h1
    obtain rfl : v = ((varR a : Nat) : Int) := h2.symm
    have h3 := fol_emp (varR a) hv (by rw [he]; exact decide_eq_true (by omega)) b (by omega)
    rw [hf hr.1 hr.2] at h3
    have h4 : fstT (b : Nat) (varR a : Nat) = false := by simpa using h3
    have h5 := begN_ge (b : Nat) (varR a : Nat)
    rw [fstK_T, h4] at h5
    rw [pickK, if_neg (by simpa using h5), he]
  · rw [pick_out (by omega), he]
/-- Behind each variable stands what can. -/
def okF : List Sq → Prop
  | [] => True
  | t :: S => (t.k = 1 → ∀ te, 0 < te → te < 31 → goB (fitK te) S = true → folF te t.n = true) ∧ okF S
theorem okF_app {v : Int} {S : List Sq} (hS : okF S) (hv : ∀ te, 0 < te → te < 31 → goB (fitK te) S = true → folF te v = true) :
    ∀ {P : List Sq}, (∀ te, 0 < te → te < 31 → folA te v P = true) → okF (P ++ S)
  | [], _ => hS
  | u :: P, hP => by
    refine ⟨fun hk te h1 h2 hg => ?_, okF_app hS hv fun te h1 h2 => ?_⟩
    · have := hP te h1 h2
      rw [folA, Bool.and_eq_true, hk] at this
      have this := this.1
      have hg : goB (fitK te) (P ++ S) = true := hg
      rw [goB_app, Bool.or_eq_true, Bool.and_eq_true] at hg
      rcases hg with hg | ⟨hg1, hg2⟩
      · rw [fit_funT] at hg
        rw [hg] at this
        simp only [beq_self_eq_true, Bool.not_true, Bool.false_or, Bool.and_eq_true] at this
        exact this.1
      · rw [hg1, hv te h1 h2 hg2] at this
        simp only [beq_self_eq_true, Bool.not_true, Bool.false_or, Bool.and_eq_true] at this
        exact this.2
    · have := hP te h1 h2
      rw [folA, Bool.and_eq_true] at this
      exact this.2
theorem okF_var {t : Sq} {S : List Sq} {i : Int} (hk : t.k = 1) (h : okF (t :: S)) (hi : isR t.n i = true) : okF (plR i ++ S) := by
  refine okF_app h.2 (h.1 hk) fun te h1 h2 => ?_
  obtain ⟨a, rfl, x1, x2⟩ := isR_yes hi
  obtain ⟨b, rfl⟩ := Int.eq_ofNat_of_zero_le (show 0 ≤ te by omega)
  rw [pl_at, ← x2]
  exact folA_dec a x1 b (by omega)
/-- What is derived of a stack begins as the stack can. -/
theorem Der.lead {S out : List Sq} {R Z : List Int} {f : Bool} (d : Der S R out Z f) : f = true →
    (∀ (te : Int) (u : Sq) (X : List Sq), plS out = u :: X → fitK te u = true → goB (fitK te) (plS S) = true) ∧ (plS out = [] → (plS S).all mayN = true) := by
  induction d with
  | nil => intro _; exact ⟨fun te u X e => absurd e (by simp [plS]), fun _ => rfl⟩
  | @put t S R Z out f hk d ih =>
    intro hf
    obtain ⟨h1, h2⟩ := ih hf
    by_cases h3 : t.k = 3
    · rw [plS_mark _ h3, plS_mark _ h3]; exact ⟨h1, h2⟩
    · rw [plS_cons _ h3, plS_cons _ h3]
      exact ⟨fun te u X e hu => by injection e with e1 e2; rw [goB, e1, hu]; rfl, fun e => by cases e⟩
  | @var t S i R Z out f hk hi d ih =>
    intro hf
    obtain ⟨h1, h2⟩ := ih hf
    rw [plS_app] at h1 h2
    rw [plS_cons _ (by omega)]
    have e : (plS (symI i)).all mayN = true → mayN t = true := fun h => by
      obtain ⟨-, h4⟩ := nul_rule hi h
      obtain ⟨a, rfl, -, -⟩ := isR_yes hi
      rw [mayN, hk, h4]; simp
    constructor
    · intro te u X e1 hu
      have h3 := h1 te u X e1 hu
      rw [goB_app, Bool.or_eq_true, Bool.and_eq_true] at h3
      rw [goB]
      rcases h3 with h3 | ⟨h3, h4⟩
      · have hf : fitK te t = true := by
          obtain ⟨k, n⟩ := t
          change k = 1 at hk
          subst hk
          obtain ⟨a, rfl, x1, x2⟩ := isR_yes hi
          rw [fitK_var]
          exact List.any_eq_true.2 ⟨a, ofR_mem.2 ⟨a, x1, x2, rfl⟩, h3⟩
        rw [hf]; rfl
      · rw [e h3, h4]; simp
    · intro e1
      have h3 := h2 e1
      rw [List.all_append, Bool.and_eq_true] at h3
      rw [List.all_cons, e h3.1, h3.2]; rfl
  | none _ => intro hf; cases hf
  | stop _ _ => intro hf; cases hf
/-- Rules that derive what is at hand are those that the parser tells. -/
theorem only {h : Nat → Int} {N : Nat} (hN : h N = 0) {S' out : List Sq} {R Z : List Int} {f : Bool} (d : Der S' R out Z f) : f = true → Z = [] →
    ∀ {a : Nat}, okF (plS S') → fitA h a (plS out) = true → a + (plS out).length = N → Run h (plS S') a R N true := by
  induction d with
  | nil =>
    intro _ hZ a _ _ hl
    subst hZ
    obtain rfl : a = N := by simpa [plS] using hl
    exact .nil
  | @put t S R Z out f hk d ih =>
    intro hf hZ a ho hfit hl
    by_cases h3 : t.k = 3
    · rw [plS_mark _ h3] at ho hfit hl ⊢
      exact ih hf hZ ho hfit hl
    · rw [plS_cons _ h3] at ho hfit hl ⊢
      rw [fitA, Bool.and_eq_true] at hfit
      rw [List.length_cons] at hl
      exact .term hk hfit.1 (ih hf hZ ho.2 hfit.2 (by omega))
  | @var t S i R Z out f hk hi d ih =>
    intro hf hZ a ho hfit hl
    have hk3 : t.k ≠ 3 := by omega
    rw [plS_cons _ hk3] at ho ⊢
    have hr := ih hf hZ (a := a) (by rw [plS_app]; exact okF_var hk ho hi) hfit hl
    rw [plS_app] at hr
    obtain ⟨l1, l2⟩ := d.lead hf
    rw [plS_app] at l1 l2
    have h0 : 0 ≤ i := by obtain ⟨x, rfl, -, -⟩ := isR_yes hi; omega
    refine .var hk ?_ h0 hr
    cases ho2 : plS out with
    | nil =>
      have h4 := l2 ho2
      rw [List.all_append, Bool.and_eq_true] at h4
      rw [ho2] at hl
      obtain rfl : a = N := by simpa using hl
      rw [hN]
      exact emp_pick hi (nul_rule hi h4.1).2 fun h _ => absurd h (by decide)
    | cons u X =>
      rw [ho2, fitA, Bool.and_eq_true] at hfit
      have h4 := l1 (h a) u X ho2 hfit.1
      rw [goB_app, Bool.or_eq_true, Bool.and_eq_true] at h4
      rcases h4 with h4 | ⟨h4, h5⟩
      · exact beg_pick hi h4
      · exact emp_pick hi (nul_rule hi h4).2 fun x1 x2 => ho.1 hk _ x1 x2 h5
  | none _ => intro hf; cases hf
  | stop _ _ => intro hf; cases hf
end Go.Proofs.YtpcijjdlppoblaaGreatDoor

/- What rules derive: the laws' mathematics. -/
namespace Go.Proofs.YtpcijjdlppoblaaGreatDoor
open Go.RowKit
set_option linter.unusedVariables false
set_option maxRecDepth 100000

/-- Rules behind those that derive are left. -/
theorem Der.more {S out : List Sq} {R Z : List Int} {f : Bool} (d : Der S R out Z f) (X : List Int) : f = true → Der S (R ++ X) out (Z ++ X) true := by
  induction d with
  | nil => intro _; exact .nil
  | put hk _ ih => intro hf; exact .put hk (ih hf)
  | var hk hi _ ih => intro hf; exact .var hk hi (ih hf)
  | none _ => intro hf; cases hf
  | stop _ _ => intro hf; cases hf
/-- There is each rule that is used. -/
theorem Der.there {S out : List Sq} {R Z : List Int} {f : Bool} (d : Der S R out Z f) : f = true → Z = [] → ∀ i ∈ R, 0 ≤ i ∧ i < 90 := by
  induction d with
  | nil => intro _ hZ i hi; subst hZ; cases hi
  | put hk _ ih => intro hf hZ; exact ih hf hZ
  | @var t S i R Z out f hk hi _ ih =>
    intro hf hZ j hj
    rcases List.mem_cons.1 hj with rfl | hj
    · obtain ⟨a, rfl, h1, -⟩ := isR_yes hi
      omega
    · exact ih hf hZ j hj
  | none _ => intro hf; cases hf
  | stop _ _ => intro hf; cases hf
/-- Symbols of rules: terminals, variables, classes, marks. -/
def kdB (t : Sq) : Bool := t.k == 0 || t.k == 1 || t.k == 2 || t.k == 3
theorem kd_dec : ∀ i, i < 90 → (symR i).all kdB = true := by decide +kernel
theorem kd_rule {v i : Int} (h : isR v i = true) : (symI i).all kdB = true := by
  obtain ⟨a, rfl, h1, -⟩ := isR_yes h
  rw [symI_at]; exact kd_dec a h1
theorem Der.kinds {S out : List Sq} {R Z : List Int} {f : Bool} (d : Der S R out Z f) : S.all kdB = true → ∀ t ∈ out, t.k = 0 ∨ t.k = 2 ∨ t.k = 3 := by
  induction d with
  | nil => intro _ t ht; cases ht
  | @put u S R Z out f hk _ ih =>
    intro hS t ht
    rw [List.all_cons, Bool.and_eq_true] at hS
    rcases List.mem_cons.1 ht with rfl | ht
    · have := hS.1
      simp only [kdB, Bool.or_eq_true, beq_iff_eq] at this
      omega
    · exact ih hS.2 t ht
  | @var u S i R Z out f hk hi _ ih =>
    intro hS t ht
    rw [List.all_cons, Bool.and_eq_true] at hS
    exact ih (by rw [List.all_append, kd_rule hi, hS.2]; rfl) t ht
  | none _ => intro _ t ht; cases ht
  | stop _ _ => intro _ t ht; cases ht
/-- What rules yield are terminals and classes. -/
theorem ful_kinds {R : List Int} {X : List Sq} (h : Ful R X true) : ∀ t ∈ plS X, t.k = 0 ∨ t.k = 2 := by
  intro t ht
  have h3 := plS_mem ht
  have := h.yes.kinds (by decide) t (List.mem_filter.1 ht).1
  omega
theorem ful_nil {X : List Sq} {is : Bool} (h : Ful [] X is) : is = false :=
  h.not fun X d => by cases d with | put hk _ => exact absurd rfl hk
/-- A rule more. -/
theorem ful_more {R : List Int} {X Y : List Sq} {i : Int} {is : Bool} (h : Ful R X true) (k : Ful (R ++ [i]) Y is) : is = false :=
  k.not fun Z d => by
    obtain ⟨-, e, -⟩ := (h.yes.more [i] rfl).det d
    simp at e
/-- A rule fewer. -/
theorem ful_less {R : List Int} {X Y : List Sq} {i : Int} {is : Bool} (h : Ful (R ++ [i]) X true) (k : Ful R Y is) : is = false := by
  cases is
  · rfl
  · exact absurd (ful_more k h) (by simp)
theorem sym_0 : symI 0 = [⟨1, 2⟩, moreS] := sameS_eq (by decide +kernel)
theorem sym_1 : symI 1 = [] := sameS_eq (by decide +kernel)
theorem sym_2 : symI 2 = [⟨3, 5⟩, ⟨3, 5⟩, ⟨1, 2⟩, moreS] := sameS_eq (by decide +kernel)
theorem rule_0 {i : Int} (h : isR 0 i = true) : i = 0 := by
  obtain ⟨a, rfl, h1, h2⟩ := isR_yes h
  have : ∀ a, a < 90 → (varR a : Int) = 0 → a = 0 := by decide +kernel
  rw [this a h1 h2]; rfl
theorem rule_1 {i : Int} (h : isR 1 i = true) : i = 1 ∨ i = 2 := by
  obtain ⟨a, rfl, h1, h2⟩ := isR_yes h
  have : ∀ a, a < 90 → (varR a : Int) = 1 → a = 1 ∨ a = 2 := by decide +kernel
  rcases this a h1 h2 with rfl | rfl
  · exact .inl rfl
  · exact .inr rfl
/-- Behind the first rule. -/
theorem doc_der {R : List Int} {X : List Sq} (d : Der docS R X [] true) : ∃ R', R = 0 :: R' ∧ Der [⟨1, 2⟩, moreS] R' X [] true := by
  cases d with
  | put hk _ => exact absurd rfl hk
  | var hk hi d =>
    obtain rfl := rule_0 hi
    rw [sym_0] at d
    exact ⟨_, rfl, d⟩
/-- Without their first rule rules derive nothing. -/
theorem ful_first {R : List Int} {X : List Sq} (h : Ful R X true) : ∃ R', R = 0 :: R' ∧ ∀ {Y is}, Ful R' Y is → is = false := by
  obtain ⟨R', rfl, d⟩ := doc_der h.yes
  refine ⟨R', rfl, fun k => k.not fun Z e => ?_⟩
  obtain ⟨R2, rfl, -⟩ := doc_der e
  cases d with
  | put hk _ => exact absurd rfl hk
  | var hk hi d => exact absurd hi (by decide)
/-- Symbols of a definition: none of the first two variables. -/
def noB (t : Sq) : Bool := !(t.k == 1 && (t.n == 0 || t.n == 1))
theorem no_dec : ∀ i, i < 90 → 2 ≤ varR i → (symR i).all noB = true := by decide +kernel
theorem no_rule {t : Sq} {i : Int} (hk : t.k = 1) (ht : noB t = true) (h : isR t.n i = true) : (symI i).all noB = true := by
  obtain ⟨a, rfl, h1, h2⟩ := isR_yes h
  rw [symI_at]
  refine no_dec a h1 ?_
  by_cases e : 2 ≤ varR a
  · exact e
  · exfalso
    rw [noB, hk] at ht
    have : t.n = 0 ∨ t.n = 1 := by omega
    rcases this with e | e <;> rw [e] at ht <;> cases ht
/-- In place of the last rule, the end of the definitions, others. -/
theorem Der.join {C x : List Sq} {R Z : List Int} {f : Bool} (d : Der C R x Z f) : f = true → Z = [] → ∀ {S : List Sq} {R' : List Int}, S.all noB = true → C = S ++ [moreS] → R = R' ++ [1] →
    ∀ {R2 : List Int} {y : List Sq}, Der [moreS] R2 y [] true → Der C (R' ++ R2) (x ++ y) [] true := by
  induction d with
  | nil => intro _ _ S R' _ e; cases S <;> cases e
  | @put t C R Z x f hk d ih =>
    intro hf hZ S R' hS e eR R2 y d2
    cases S with
    | nil => cases e; exact absurd rfl hk
    | cons u S =>
      rw [List.cons_append] at e
      injection e with e1 e2
      subst e1
      rw [List.all_cons, Bool.and_eq_true] at hS
      exact .put hk (ih hf hZ hS.2 e2 eR d2)
  | @var t C i R Z x f hk hi d ih =>
    intro hf hZ S R' hS e eR R2 y d2
    cases S with
    | nil =>
      cases e
      rcases rule_1 hi with rfl | rfl
      · rw [sym_1] at d
        cases d
        subst hZ
        obtain rfl : R' = [] := by
          cases R' with
          | nil => rfl
          | cons a R' => rw [List.cons_append] at eR; injection eR with _ e2; cases R' <;> cases e2
        exact d2
      · cases R' with
        | nil => cases eR
        | cons a R' =>
          rw [List.cons_append] at eR
          injection eR with e1 e2
          subst e1
          refine .var hk hi (ih hf hZ (S := [⟨3, 5⟩, ⟨3, 5⟩, ⟨1, 2⟩]) (by decide) (by rw [sym_2]; rfl) e2 d2)
    | cons u S =>
      rw [List.cons_append] at e
      injection e with e1 e2
      subst e1
      rw [List.all_cons, Bool.and_eq_true] at hS
      cases R' with
      | nil =>
        injection eR with e3 e4
        subst e3
        exfalso
        obtain ⟨a, h0, h1, h2⟩ := isR_yes hi
        obtain rfl : a = 1 := by omega
        have h3 : t.n = 1 := h2.symm
        have := hS.1
        rw [noB, hk, h3] at this
        cases this
      | cons a R' =>
        rw [List.cons_append] at eR
        injection eR with e3 e4
        subst e3
        exact .var hk hi (ih hf hZ (S := symI i ++ S) (by rw [List.all_append, no_rule hk hS.1 hi, hS.2]; rfl) (by rw [e2, List.append_assoc]) e4 d2)
  | none _ => intro hf; cases hf
  | stop _ _ => intro hf; cases hf
/-- The rules of two documents, one behind the other. -/
theorem joins_rules {L M R R2 R3 : List Int} {z z2 z3 : Nat} {f f2 f3 : Bool} (hp : Par L R z f) (hq : Par M R2 z2 f2) (hr : Par (L ++ M) R3 z3 f3) (e1 : outZ L z f = -1) (e2 : outZ M z2 f2 = -1) :
    outR L R z f = R ∧ outR M R2 z2 f2 = R2 ∧ outR (L ++ M) R3 z3 f3 = R3 ∧ ∃ rs rs2, R = 0 :: (rs ++ [1]) ∧ R2 = 0 :: rs2 ∧ R3 = 0 :: (rs ++ 2 :: rs2) := by
  obtain ⟨rfl, rfl⟩ := outZ_yes e1
  obtain ⟨rfl, rfl⟩ := outZ_yes e2
  obtain ⟨rs, rfl, hp0, hr1⟩ := doc_run hp
  obtain ⟨rs2, rfl, hq0, hr2⟩ := doc_run hq
  have hM0 : 0 < M.length := by
    by_cases e : 0 < M.length
    · exact e
    · rw [hdL_over (by omega)] at hq0
      have : pickK 0 0 = -1 := by decide +kernel
      omega
  have hL0 : 0 < L.length := by
    by_cases e : 0 < L.length
    · exact e
    · rw [hdL_over (by omega)] at hp0
      have : pickK 0 0 = -1 := by decide +kernel
      omega
  obtain ⟨hb1, hb2⟩ := doc_begins hq0
  have hh : hdL (L ++ M) L.length = hdL M 0 := by have := hdL_app' (l := L) (m := M) (a := 0); rwa [Nat.add_zero] at this
  have hj := joins_run (h := hdL L) (h' := hdL (L ++ M)) (N := L.length) (te := hdL M 0) (hdL_over (Nat.le_refl _)) hh hb1 (fun j hj => (hdL_app hj).symm) hr1 rfl rfl (S := [⟨1, 2⟩]) rfl rfl (by decide +kernel)
  obtain ⟨rs', rfl, hj⟩ := hj
  have hs : Run (hdL (L ++ M)) [⟨1, 2⟩, moreS] (L.length + 0) rs2 (L.length + M.length) true := hr2.shift fun j => hdL_app'
  have h2 : Run (hdL (L ++ M)) [moreS] L.length (2 :: rs2) (L.length + M.length) true := by
    refine .var rfl ?_ (by decide) (by rw [pl_2, List.append_nil]; exact hs)
    rw [hh]; exact hb2
  have h3 : Par (L ++ M) (0 :: (rs' ++ 2 :: rs2)) (L.length + M.length) true :=
    .var rfl (by rw [hdL_app hL0]; exact hp0) (Int.le_refl 0) (by rw [List.append_nil, pl_0]; exact hj h2)
  obtain ⟨e3, e4, e5⟩ := h3.det hr
  subst e3 e4 e5
  exact ⟨outR_ok rfl, outR_ok rfl, outR_ok (by rw [List.length_append]), rs', rs2, rfl, rfl, rfl⟩
/-- What the parser tells of a list, rules derive; the terminals fit. -/
theorem par_ful {L R : List Int} {z : Nat} (h : Par L R z true) (hz : z = L.length) : ∃ X, Ful R X true ∧ derB true X L = true := by
  subst hz
  obtain ⟨X, d, h1, h2⟩ := back h rfl (S' := docS) rfl
  refine ⟨X, Ful.of d, ?_⟩
  rw [derB, h2, decide_eq_true (by omega)]; rfl
/-- Rules that derive terminals are those that are parsed. -/
theorem ful_par {L R : List Int} {X : List Sq} {is : Bool} (h : Ful R X is) (hd : derB is X L = true) : Par L R L.length true := by
  rw [derB, Bool.and_eq_true, Bool.and_eq_true, decide_eq_true_eq] at hd
  obtain ⟨⟨rfl, h1⟩, h2⟩ := hd
  have := only (h := hdL L) (N := L.length) (hdL_over (Nat.le_refl _)) h.yes rfl rfl (a := 0) ⟨fun _ te _ _ hg => (by cases hg), trivial⟩ h2 (by omega)
  exact this
/-- The symbols of two documents. -/
theorem joins_ful {L M R R2 R3 : List Int} {z z2 z3 : Nat} {f f2 f3 : Bool} (hp : Par L R z f) (hq : Par M R2 z2 f2) (hr : Par (L ++ M) R3 z3 f3) (e1 : outZ L z f = -1) (e2 : outZ M z2 f2 = -1) :
    outR L R z f = R ∧ outR M R2 z2 f2 = R2 ∧ outR (L ++ M) R3 z3 f3 = R3 ∧ ∃ x y, Ful R x true ∧ Ful R2 y true ∧ Ful R3 (x ++ ⟨3, 5⟩ :: ⟨3, 5⟩ :: y) true := by
  obtain ⟨h1, h2, h3, rs, rs2, eR, eR2, eR3⟩ := joins_rules hp hq hr e1 e2
  refine ⟨h1, h2, h3, ?_⟩
  obtain ⟨rfl, hz⟩ := outZ_yes e1
  obtain ⟨rfl, hz2⟩ := outZ_yes e2
  obtain ⟨x, hx, -⟩ := par_ful hp hz
  obtain ⟨y, hy, -⟩ := par_ful hq hz2
  refine ⟨x, y, hx, hy, Ful.of ?_⟩
  subst eR eR2 eR3
  obtain ⟨Ra, ea, da⟩ := doc_der hx.yes
  obtain ⟨Rb, eb, db⟩ := doc_der hy.yes
  injection ea with _ ea
  injection eb with _ eb
  subst ea eb
  refine .var rfl (by decide) ?_
  rw [sym_0]
  refine da.join rfl rfl (S := [⟨1, 2⟩]) (by decide) rfl rfl ?_
  refine .var rfl (by decide) ?_
  rw [sym_2]
  exact .put (by decide) (.put (by decide) db)
end Go.Proofs.YtpcijjdlppoblaaGreatDoor
