/- The parser on lists (plain mathematics). -/
import Derived.Test.YtfgmojnohienfaaDoorPicO
namespace Go.Proofs.YtfgmojnohienfaaDoor
open Go.RowKit
set_option linter.unusedVariables false
set_option maxRecDepth 100000

/-- The terminal at hand. -/
def hdL (l : List Int) (a : Nat) : Int := (l[a]?).getD 0
theorem hdL_over {l : List Int} {a : Nat} (h : l.length ≤ a) : hdL l a = 0 := by
  unfold hdL; rw [List.getElem?_eq_none h]; rfl
theorem hdL_some {l : List Int} {a : Nat} {x : Int} (h : l[a]? = some x) : hdL l a = x := by unfold hdL; rw [h]; rfl
theorem hdL_take {l : List Int} {k a : Nat} (h : a < k) : hdL (l.take k) a = hdL l a := by
  unfold hdL; rw [List.getElem?_take_of_lt h]
theorem hdL_app {l m : List Int} {a : Nat} (h : a < l.length) : hdL (l ++ m) a = hdL l a := by
  unfold hdL; rw [List.getElem?_append_left h]
theorem hdL_app' {l m : List Int} {a : Nat} : hdL (l ++ m) (l.length + a) = hdL m a := by
  unfold hdL; rw [List.getElem?_append_right (by omega)]; congr 2; omega
/-- The parser from a stack on, at a place: the rules that it tells, where it stops, and whether the stack is empty then. -/
inductive Run (h : Nat → Int) : List Sq → Nat → List Int → Nat → Bool → Prop
  | nil {a : Nat} : Run h [] a [] a true
  | term {t : Sq} {S : List Sq} {a z : Nat} {rs : List Int} {f : Bool} : t.k ≠ 1 → fitK (h a) t = true → Run h S (a + 1) rs z f → Run h (t :: S) a rs z f
  | miss {t : Sq} {S : List Sq} {a : Nat} : t.k ≠ 1 → fitK (h a) t = false → Run h (t :: S) a [] a false
  | var {t : Sq} {S : List Sq} {a z : Nat} {i : Int} {rs : List Int} {f : Bool} : t.k = 1 → pickK (h a) t.n = i → 0 ≤ i → Run h (plR i ++ S) a rs z f → Run h (t :: S) a (i :: rs) z f
  | stop {t : Sq} {S : List Sq} {a : Nat} : t.k = 1 → pickK (h a) t.n < 0 → Run h (t :: S) a [] a false
theorem Run.le {h : Nat → Int} {S : List Sq} {a z : Nat} {rs : List Int} {f : Bool} (r : Run h S a rs z f) : a ≤ z := by
  induction r with
  | nil => exact Nat.le_refl _
  | term _ _ _ ih => omega
  | miss _ _ => exact Nat.le_refl _
  | var _ _ _ _ ih => exact ih
  | stop _ _ => exact Nat.le_refl _
theorem Run.det {h : Nat → Int} {S : List Sq} {a z : Nat} {rs : List Int} {f : Bool} (r : Run h S a rs z f) :
    ∀ {z' : Nat} {rs' : List Int} {f' : Bool}, Run h S a rs' z' f' → rs = rs' ∧ z = z' ∧ f = f' := by
  induction r with
  | nil => intro z' rs' f' r'; cases r'; exact ⟨rfl, rfl, rfl⟩
  | term hk hf _ ih =>
    intro z' rs' f' r'
    cases r' with
    | term _ _ r2 => exact ih r2
    | miss _ h2 => rw [hf] at h2; cases h2
    | var h2 _ _ _ => exact absurd h2 hk
    | stop h2 _ => exact absurd h2 hk
  | miss hk hf =>
    intro z' rs' f' r'
    cases r' with
    | term _ h2 _ => rw [hf] at h2; cases h2
    | miss _ h2 => exact ⟨rfl, rfl, rfl⟩
    | var h2 _ _ _ => exact absurd h2 hk
    | stop h2 _ => exact absurd h2 hk
  | var hk hp h0 _ ih =>
    intro z' rs' f' r'
    cases r' with
    | term h2 _ _ => exact absurd hk h2
    | miss h2 _ => exact absurd hk h2
    | var _ hp2 _ r2 =>
      rw [hp] at hp2
      subst hp2
      obtain ⟨e1, e2, e3⟩ := ih r2
      exact ⟨by rw [e1], e2, e3⟩
    | stop _ h2 => omega
  | stop hk hp =>
    intro z' rs' f' r'
    cases r' with
    | term h2 _ _ => exact absurd hk h2
    | miss h2 _ => exact absurd hk h2
    | var _ hp2 _ r2 => omega
    | stop _ h2 => exact ⟨rfl, rfl, rfl⟩
theorem Run.congr {h h' : Nat → Int} {S : List Sq} {a z : Nat} {rs : List Int} {f : Bool} (r : Run h S a rs z f) : (∀ j, a ≤ j → j ≤ z → h j = h' j) → Run h' S a rs z f := by
  induction r with
  | nil => intro _; exact .nil
  | term hk hf r ih =>
    intro e
    have := r.le
    exact .term hk (by rw [← e _ (Nat.le_refl _) (by omega)]; exact hf) (ih fun j h1 h2 => e j (by omega) h2)
  | miss hk hf => intro e; exact .miss hk (by rw [← e _ (Nat.le_refl _) (Nat.le_refl _)]; exact hf)
  | var hk hp h0 r ih =>
    intro e
    exact .var hk (by rw [← e _ (Nat.le_refl _) r.le]; exact hp) h0 (ih e)
  | stop hk hp => intro e; exact .stop hk (by rw [← e _ (Nat.le_refl _) (Nat.le_refl _)]; exact hp)
theorem Run.shift {h h' : Nat → Int} {S : List Sq} {a z : Nat} {rs : List Int} {f : Bool} (r : Run h S a rs z f) {d : Nat} (e : ∀ j, h' (d + j) = h j) : Run h' S (d + a) rs (d + z) f := by
  induction r with
  | nil => exact .nil
  | term hk hf r ih => exact .term hk (by rw [e]; exact hf) ih
  | miss hk hf => exact .miss hk (by rw [e]; exact hf)
  | var hk hp h0 r ih => exact .var hk (by rw [e]; exact hp) h0 ih
  | stop hk hp => exact .stop hk (by rw [e]; exact hp)
theorem Run.split {h : Nat → Int} {C : List Sq} {a z : Nat} {rs : List Int} {f : Bool} (r : Run h C a rs z f) : ∀ {A B : List Sq}, C = A ++ B →
    (∃ rs1 y rs2, rs = rs1 ++ rs2 ∧ Run h A a rs1 y true ∧ Run h B y rs2 z f) ∨ (f = false ∧ Run h A a rs z false) := by
  induction r with
  | nil =>
    intro A B e
    obtain ⟨rfl, rfl⟩ := List.append_eq_nil_iff.1 e.symm
    exact .inl ⟨[], _, [], rfl, .nil, .nil⟩
  | term hk hf r ih =>
    intro A B e
    cases A with
    | nil => exact .inl ⟨[], _, _, rfl, .nil, by rw [List.nil_append] at e; rw [← e]; exact .term hk hf r⟩
    | cons u A =>
      rw [List.cons_append] at e
      injection e with e1 e2
      subst e1
      rcases ih e2 with ⟨rs1, y, rs2, h1, h2, h3⟩ | ⟨h1, h2⟩
      · exact .inl ⟨rs1, y, rs2, h1, .term hk hf h2, h3⟩
      · exact .inr ⟨h1, .term hk hf h2⟩
  | miss hk hf =>
    intro A B e
    cases A with
    | nil => exact .inl ⟨[], _, _, rfl, .nil, by rw [List.nil_append] at e; rw [← e]; exact .miss hk hf⟩
    | cons u A =>
      rw [List.cons_append] at e
      injection e with e1 e2
      subst e1
      exact .inr ⟨rfl, .miss hk hf⟩
  | var hk hp h0 r ih =>
    intro A B e
    cases A with
    | nil => exact .inl ⟨[], _, _, rfl, .nil, by rw [List.nil_append] at e; rw [← e]; exact .var hk hp h0 r⟩
    | cons u A =>
      rw [List.cons_append] at e
      injection e with e1 e2
      subst e1 e2
      rcases ih (List.append_assoc _ _ _).symm with ⟨rs1, y, rs2, h1, h2, h3⟩ | ⟨h1, h2⟩
      · exact .inl ⟨_ :: rs1, y, rs2, by rw [h1]; rfl, .var hk hp h0 h2, h3⟩
      · exact .inr ⟨h1, .var hk hp h0 h2⟩
  | stop hk hp =>
    intro A B e
    cases A with
    | nil => exact .inl ⟨[], _, _, rfl, .nil, by rw [List.nil_append] at e; rw [← e]; exact .stop hk hp⟩
    | cons u A =>
      rw [List.cons_append] at e
      injection e with e1 e2
      subst e1
      exact .inr ⟨rfl, .stop hk hp⟩
/-- The end fits nothing. -/
theorem fit_end {t : Sq} (hk : t.k ≠ 1) : fitK 0 t = false := by
  obtain ⟨k, n⟩ := t
  change k ≠ 1 at hk
  by_cases h0 : k = 0
  · subst h0; rw [fitK_term]; simp
  · by_cases h2 : k = 2
    · subst h2; rw [fitK_class]; simp [inK]
    · exact fitK_other 0 h0 hk h2
theorem Run.within {h : Nat → Int} {N : Nat} (hN : ∀ j, N ≤ j → h j = 0) {S : List Sq} {a z : Nat} {rs : List Int} {f : Bool} (r : Run h S a rs z f) : a ≤ N → z ≤ N := by
  induction r with
  | nil => exact id
  | @term t S a z rs f hk hf _ ih =>
    intro ha
    refine ih ?_
    by_cases e : a = N
    · rw [hN a (by omega), fit_end hk] at hf; cases hf
    · omega
  | miss _ _ => exact id
  | var _ _ _ _ ih => exact ih
  | stop _ _ => exact id
theorem fstN_or {p : Int → Bool} : ∀ l : List Int, fstN p l = -1 ∨ (fstN p l ∈ l ∧ p (fstN p l) = true)
  | [] => .inl rfl
  | i :: l => by
    rw [fstN]
    by_cases hp : p i = true
    · rw [if_pos hp]; exact .inr ⟨List.mem_cons_self, hp⟩
    · rw [if_neg hp]
      rcases fstN_or (p := p) l with h | ⟨h1, h2⟩
      · exact .inl h
      · exact .inr ⟨List.mem_cons_of_mem _ h1, h2⟩
theorem pick_mem {te v i : Int} (h : pickK te v = i) (h0 : 0 ≤ i) : i ∈ ofR v := by
  rw [pickK] at h
  by_cases hb : 0 ≤ begN te v
  · rw [if_pos hb] at h
    subst h
    rcases fstN_or (p := begK te) (ofR v) with h | ⟨h1, _⟩
    · rw [begN, h] at hb; omega
    · exact h1
  · rw [if_neg hb] at h
    subst h
    rcases fstN_or (p := empB) (ofR v) with h | ⟨h1, _⟩
    · rw [empR, h] at h0; omega
    · exact h1
theorem pick_rule {te v i : Int} (h : pickK te v = i) (h0 : 0 ≤ i) : ∃ a : Nat, i = (a : Int) ∧ a < 90 ∧ (varR a : Int) = v := by
  obtain ⟨a, h1, h2, h3⟩ := ofR_mem.1 (pick_mem h h0)
  exact ⟨a, h3, h1, h2⟩
/-- How many rules more than six times the terminals a symbol can tell, when all of it is done with. -/
def netL : List Int := [-6, 1, -8, 1, 1, 1, -19, 1, -4, 1, 1, 1, 1, -16, -5, 1, 1, 1, -11, 1, -1, 1, 1, -4, -9, 1, 1, 1, -22, 1, -12, 1, 1, 1, -12, -13, 1, -3, 1, 1, 1, -22, 1]
/-- .. and at any time. -/
def topL : List Int := [3, 3, 2, 1, 1, 2, 1, 1, 1, 1, 1, 1, 2, 1, 1, 2, 2, 2, 1, 2, 1, 1, 2, 2, 1, 1, 1, 1, 1, 3, 2, 1, 1, 3, 2, 1, 3, 2, 1, 1, 1, 1, 3]
def netS (t : Sq) : Int := if t.k = 1 then netL.getD t.n.toNat 0 else -6
def topN (v : Int) : Int := topL.getD v.toNat 0
def topS (t : Sq) : Int := if t.k = 1 then topN t.n else 0
theorem topL_ge : ∀ v, 0 ≤ topL.getD v 0 := by
  intro v
  by_cases h : v < 43
  · revert v; decide +kernel
  · rw [List.getD_eq_getElem?_getD, List.getElem?_eq_none (by have : topL.length = 43 := rfl; omega)]; decide
theorem topS_ge (t : Sq) : 0 ≤ topS t := by
  unfold topS
  split
  · exact topL_ge _
  · exact Int.le_refl _
/-- The same of a row, with x behind it. -/
def potX (x : Int) : List Sq → Int
  | [] => x
  | t :: S => max (topS t) (netS t + potX x S)
def netP : List Sq → Int
  | [] => 0
  | t :: S => netS t + netP S
theorem potX_ge {x : Int} (hx : 0 ≤ x) : ∀ S, 0 ≤ potX x S
  | [] => hx
  | t :: S => by rw [potX]; exact Int.le_trans (topS_ge t) (Int.le_max_left _ _)
theorem potX_app (x : Int) (B : List Sq) : ∀ A, potX x (A ++ B) = potX (potX x B) A
  | [] => rfl
  | t :: A => by rw [List.cons_append, potX, potX, potX_app x B A]
theorem potX_le {x : Int} (hx : 0 ≤ x) : ∀ S, potX x S ≤ max (potX 0 S) (netP S + x)
  | [] => by rw [potX, potX, netP]; omega
  | t :: S => by
    have := potX_le hx S
    rw [potX, potX, netP]
    omega
theorem pot_dec : ∀ i, i < 90 → potX 0 (plS (symR i)) + 1 ≤ topL.getD (varR i) 0 ∧ netP (plS (symR i)) + 1 ≤ netL.getD (varR i) 0 := by decide +kernel
theorem pot_step {te v i : Int} (h : pickK te v = i) (h0 : 0 ≤ i) {t : Sq} (hk : t.k = 1) (hn : t.n = v) (S : List Sq) : potX 0 (plR i ++ S) + 1 ≤ potX 0 (t :: S) := by
  obtain ⟨a, rfl, h1, h2⟩ := pick_rule h h0
  obtain ⟨d1, d2⟩ := pot_dec a h1
  have e : plR (a : Int) = plS (symR a) := by rw [plR, symI, if_pos h0]; rfl
  have hx := potX_ge (Int.le_refl 0) S
  have hl := potX_le hx (plS (symR a))
  have hv : t.n.toNat = varR a := by omega
  rw [potX_app, potX, topS, topN, netS, if_pos hk, if_pos hk, hv, e]
  omega
/-- The steps that are to come, in terms of the terminals. -/
theorem Run.steps {h : Nat → Int} {S : List Sq} {a z : Nat} {rs : List Int} {f : Bool} (r : Run h S a rs z f) : (rs.length : Int) + 6 * a ≤ 6 * z + potX 0 S := by
  induction r with
  | nil => rw [potX, List.length_nil]; omega
  | @term t S a z rs f hk hf _ ih =>
    rw [potX, netS, if_neg hk]
    omega
  | @miss t S a hk hf => have := potX_ge (Int.le_refl 0) (t :: S); rw [List.length_nil]; omega
  | var hk hp h0 _ ih =>
    have := pot_step hp h0 hk rfl ‹_›
    rw [List.length_cons]
    omega
  | @stop t S a hk hp => have := potX_ge (Int.le_refl 0) (t :: S); rw [List.length_nil]; omega
/-- The parser stops. -/
theorem run_ex {h : Nat → Int} {N : Nat} (hN : ∀ j, N ≤ j → h j = 0) : ∀ (m : Nat) (S : List Sq) (a : Nat), a ≤ N → potX 0 S + 7 * ((N : Int) - a) ≤ m → ∃ rs z f, Run h S a rs z f := by
  intro m
  induction m with
  | zero =>
    intro S a ha hm
    cases S with
    | nil => exact ⟨_, _, _, .nil⟩
    | cons t S =>
      by_cases hk : t.k = 1
      · by_cases hp : 0 ≤ pickK (h a) t.n
        · have := pot_step rfl hp hk rfl S
          have := potX_ge (Int.le_refl 0) (plR (pickK (h a) t.n) ++ S)
          omega
        · exact ⟨_, _, _, .stop hk (by omega)⟩
      · cases hf : fitK (h a) t
        · exact ⟨_, _, _, .miss hk hf⟩
        · have := potX_ge (Int.le_refl 0) (t :: S)
          rw [hN a (by omega), fit_end hk] at hf
          cases hf
  | succ m ih =>
    intro S a ha hm
    cases S with
    | nil => exact ⟨_, _, _, .nil⟩
    | cons t S =>
      by_cases hk : t.k = 1
      · by_cases hp : 0 ≤ pickK (h a) t.n
        · have := pot_step rfl hp hk rfl S
          obtain ⟨rs, z, f, r⟩ := ih (plR (pickK (h a) t.n) ++ S) a ha (by omega)
          exact ⟨_, _, _, .var hk rfl hp r⟩
        · exact ⟨_, _, _, .stop hk (by omega)⟩
      · cases hf : fitK (h a) t
        · exact ⟨_, _, _, .miss hk hf⟩
        · have hlt : a < N := by
            by_cases e : a = N
            · rw [hN a (by omega), fit_end hk] at hf; cases hf
            · omega
          have hpt : potX 0 (t :: S) = max (topS t) (netS t + potX 0 S) := rfl
          have hnt : netS t = -6 := by rw [netS, if_neg hk]
          obtain ⟨rs, z, f, r⟩ := ih S (a + 1) hlt (by omega)
          exact ⟨_, _, _, .term hk hf r⟩
/-- The document's stack. -/
def docS : List Sq := [⟨1, 0⟩]
theorem doc_pot : potX 0 docS = 3 := by decide +kernel
/-- A list is parsed so: the rules told, the place at hand in the end, and whether the stack is empty then. -/
def Par (l : List Int) (R : List Int) (z : Nat) (f : Bool) : Prop := Run (hdL l) docS 0 R z f
theorem par_ex (l : List Int) : ∃ R z f, Par l R z f :=
  run_ex (N := l.length) (fun j h => hdL_over h) (7 * l.length + 3) docS 0 (Nat.zero_le _) (by rw [doc_pot]; omega)
theorem Par.within {l R : List Int} {z : Nat} {f : Bool} (h : Par l R z f) : z ≤ l.length := Run.within (fun j h => hdL_over h) h (Nat.zero_le _)
theorem Par.steps {l R : List Int} {z : Nat} {f : Bool} (h : Par l R z f) : R.length ≤ 6 * z + 3 := by
  have := Run.steps h
  rw [doc_pot] at this
  omega
theorem Par.det {l R R' : List Int} {z z' : Nat} {f f' : Bool} (h : Par l R z f) (h' : Par l R' z' f') : R = R' ∧ z = z' ∧ f = f' := Run.det h h'
/-- The parser with fuel. -/
def runF (h : Nat → Int) : Nat → List Sq → Nat → Option (List Int × Nat × Bool)
  | 0, _, _ => none
  | _ + 1, [], a => some ([], a, true)
  | n + 1, t :: S, a => if t.k = 1 then (if 0 ≤ pickK (h a) t.n then (runF h n (plR (pickK (h a) t.n) ++ S) a).map fun x => (pickK (h a) t.n :: x.1, x.2) else some ([], a, false))
    else if fitK (h a) t then runF h n S (a + 1) else some ([], a, false)
theorem runF_run {h : Nat → Int} : ∀ {n : Nat} {S : List Sq} {a : Nat} {rs : List Int} {z : Nat} {f : Bool}, runF h n S a = some (rs, z, f) → Run h S a rs z f := by
  intro n
  induction n with
  | zero => intro S a rs z f e; cases e
  | succ n ih =>
    intro S a rs z f e
    cases S with
    | nil => rw [runF] at e; cases e; exact .nil
    | cons t S =>
      rw [runF] at e
      by_cases hk : t.k = 1
      · rw [if_pos hk] at e
        by_cases hp : 0 ≤ pickK (h a) t.n
        · rw [if_pos hp, Option.map_eq_some_iff] at e
          obtain ⟨⟨rs', z', f'⟩, e1, e2⟩ := e
          cases e2
          exact .var hk rfl hp (ih e1)
        · rw [if_neg hp] at e
          cases e
          exact .stop hk (by omega)
      · rw [if_neg hk] at e
        cases hf : fitK (h a) t
        · rw [hf] at e; cases e; exact .miss hk hf
        · rw [hf, if_pos rfl] at e; exact .term hk hf (ih e)
theorem par_doc : Par [12, 18, 14] [0, 3, 41, 44, 46, 23, 21, 48, 42, 1] 3 true := runF_run (n := 40) (by decide +kernel)
theorem par_cut : Par [12, 18] [0, 3, 41, 44, 46, 23, 21, 48, 42] 2 false := runF_run (n := 40) (by decide +kernel)
end Go.Proofs.YtfgmojnohienfaaDoor
