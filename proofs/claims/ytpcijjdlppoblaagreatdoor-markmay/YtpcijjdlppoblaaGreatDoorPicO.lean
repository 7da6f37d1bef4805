/- The terminals' texts; which terminal a text asks for (plain mathematics). -/
import Derived.Test.YtpcijjdlppoblaaGreatDoorTokR
import Derived.Test.YtpcijjdlppoblaaGreatDoorSliI
namespace Go.Proofs.YtpcijjdlppoblaaGreatDoor
open Go.RowKit
set_option linter.unusedVariables false

/-- A terminal's text; empty if it has none. -/
def stK : Nat → List UInt8
  | 1 => [33]
  | 2 => [36]
  | 3 => [38]
  | 4 => [40]
  | 5 => [41]
  | 6 => [46, 46, 46]
  | 7 => [58]
  | 8 => [61]
  | 9 => [64]
  | 10 => [91]
  | 11 => [93]
  | 12 => [123]
  | 13 => [124]
  | 14 => [125]
  | 19 => [113, 117, 101, 114, 121]
  | 20 => [109, 117, 116, 97, 116, 105, 111, 110]
  | 21 => [115, 117, 98, 115, 99, 114, 105, 112, 116, 105, 111, 110]
  | 22 => [102, 114, 97, 103, 109, 101, 110, 116]
  | 23 => [111, 110]
  | 24 => [116, 121, 112, 101]
  | 25 => [105, 110, 116, 101, 114, 102, 97, 99, 101]
  | 26 => [101, 110, 117, 109]
  | 27 => [117, 110, 105, 111, 110]
  | 28 => [105, 110, 112, 117, 116]
  | 29 => [115, 99, 97, 108, 97, 114]
  | 30 => [105, 109, 112, 108, 101, 109, 101, 110, 116, 115]
  | _ => []
/-- The first terminal from te on, of n, that has that text; else o. -/
def fndK (s : List UInt8) (o : Nat) : Nat → Nat → Nat
  | _, 0 => o
  | te, n + 1 => if stK te = s then te else fndK s o (te + 1) n
def punK (s : List UInt8) : Nat := fndK s 0 1 14
def namK (s : List UInt8) : Nat := fndK s 18 19 12
/-- The terminal of a token of kind k and text s. -/
def ofK (k : Int) (s : List UInt8) : Nat := if k = 1 then punK s else if k = 2 then namK s else if k = 3 then 15 else if k = 4 then 16 else if k = 5 then 17 else 0
theorem fndK_no {s : List UInt8} {o : Nat} : ∀ (n te : Nat), (∀ c, te ≤ c → c < te + n → stK c ≠ s) → fndK s o te n = o
  | 0, _, _ => rfl
  | n + 1, te, h => by
    rw [fndK, if_neg (h te (Nat.le_refl _) (by omega))]
    exact fndK_no n (te + 1) fun c h1 h2 => h c (by omega) (by omega)
theorem fndK_cases {s : List UInt8} {o : Nat} : ∀ (n te : Nat), (∃ c, te ≤ c ∧ c < te + n ∧ stK c = s ∧ fndK s o te n = c) ∨ ((∀ c, te ≤ c → c < te + n → stK c ≠ s) ∧ fndK s o te n = o)
  | 0, te => .inr ⟨fun c h1 h2 => by omega, rfl⟩
  | n + 1, te => by
    by_cases h : stK te = s
    · exact .inl ⟨te, Nat.le_refl _, by omega, h, by rw [fndK, if_pos h]⟩
    · rcases fndK_cases (s := s) (o := o) n (te + 1) with ⟨c, h1, h2, h3, h4⟩ | ⟨h1, h2⟩
      · exact .inl ⟨c, by omega, by omega, h3, by rw [fndK, if_neg h]; exact h4⟩
      · refine .inr ⟨fun c h3 h4 => ?_, by rw [fndK, if_neg h]; exact h2⟩
        by_cases hc : c = te
        · subst hc; exact h
        · exact h1 c (by omega) (by omega)
theorem pun_cases (s : List UInt8) : (∃ c, 1 ≤ c ∧ c ≤ 14 ∧ s = stK c ∧ punK s = c) ∨ ((∀ c, 1 ≤ c → c ≤ 14 → stK c ≠ s) ∧ punK s = 0) := by
  rcases fndK_cases (s := s) (o := 0) 14 1 with ⟨c, h1, h2, h3, h4⟩ | ⟨h1, h2⟩
  · exact .inl ⟨c, h1, by omega, h3.symm, h4⟩
  · exact .inr ⟨fun c h3 h4 => h1 c h3 (by omega), h2⟩
theorem nam_cases (s : List UInt8) : (∃ c, 19 ≤ c ∧ c ≤ 30 ∧ s = stK c ∧ namK s = c) ∨ ((∀ c, 19 ≤ c → c ≤ 30 → stK c ≠ s) ∧ namK s = 18) := by
  rcases fndK_cases (s := s) (o := 18) 12 19 with ⟨c, h1, h2, h3, h4⟩ | ⟨h1, h2⟩
  · exact .inl ⟨c, h1, by omega, h3.symm, h4⟩
  · exact .inr ⟨fun c h3 h4 => h1 c h3 (by omega), h2⟩
theorem pun_le (s : List UInt8) : punK s ≤ 14 := by
  rcases pun_cases s with ⟨c, _, h, _, e⟩ | ⟨_, e⟩ <;> omega
theorem nam_ge (s : List UInt8) : 18 ≤ namK s ∧ namK s ≤ 30 := by
  rcases nam_cases s with ⟨c, h1, h2, _, e⟩ | ⟨_, e⟩ <;> omega
theorem of_le (k : Int) (s : List UInt8) : ofK k s ≤ 30 := by
  have := pun_le s; have := nam_ge s
  unfold ofK; repeat' split
  all_goals omega
/-- Has a terminal a text? -/
def hasK (te : Int) : Bool := decide ((1 ≤ te ∧ te ≤ 14) ∨ (19 ≤ te ∧ te ≤ 30))
theorem stK_none : ∀ c : Nat, c < 31 → hasK c = false → stK c = [] := by decide +kernel
theorem stK_some : ∀ c : Nat, c < 31 → hasK c = true → stK c ≠ [] := by decide +kernel
theorem stK_short : ∀ c : Nat, c < 31 → (stK c).length ≤ 12 := by decide +kernel
/-- Is a terminal in a class? -/
def inK (cl te : Int) : Bool := (cl == 0 && decide (18 ≤ te ∧ te ≤ 30)) || (cl == 1 && decide (18 ≤ te ∧ te ≤ 30 ∧ te ≠ 23)) || (cl == 2 && decide (19 ≤ te ∧ te ≤ 21))
end Go.Proofs.YtpcijjdlppoblaaGreatDoor

/- Package kind: which terminals are in a class: In. -/
namespace Go.Proofs.YtpcijjdlppoblaaGreatDoor
open Go.RowKit
set_option linter.unusedVariables false

/-- Is a terminal a name's? -/
def nmB (te : Int) : Bool := decide (18 ≤ te ∧ te ≤ 30)
set_option maxHeartbeats 400000 in
theorem isName_any (te : Int) (w : World) : Calls Tryz.prog 113 #[.int .i64 te] w fun e w' => e = .returned (.bool (nmB te)) ∧ w = w' := by
  by_cases h1 : 18 ≤ te
  · by_cases h2 : te ≤ 30
    · have e : nmB te = true := by simp [nmB, h1, h2]
      rw [e]; clear e
      go_enter Tryz.func113, Tryz.ntmps113
      go_wp2
      go_ret
      exact ⟨by simp, rfl⟩
    · have e : nmB te = false := by simp [nmB, h2]
      rw [e]; clear e
      go_enter Tryz.func113, Tryz.ntmps113
      go_wp2
      go_ret
      exact ⟨by simp, rfl⟩
  · have e : nmB te = false := by simp [nmB, h1]
    rw [e]; clear e
    go_enter Tryz.func113, Tryz.ntmps113
    go_wp2
    go_ret
    exact ⟨by simp, rfl⟩

/-- Is a terminal in a class? -/
theorem inK_0 (te : Int) : inK 0 te = nmB te := by simp [inK, nmB]
theorem inK_1 (te : Int) : inK 1 te = (nmB te && (te != 23)) := by
  unfold inK nmB
  by_cases h1 : 18 ≤ te <;> by_cases h2 : te ≤ 30 <;> by_cases h3 : te = 23 <;> simp [h1, h2, h3]
theorem inK_2 (te : Int) : inK 2 te = decide (19 ≤ te ∧ te ≤ 21) := by simp [inK]
theorem inK_no {c : Int} (h0 : c ≠ 0) (h1 : c ≠ 1) (h2 : c ≠ 2) (te : Int) : inK c te = false := by simp [inK, h0, h1, h2]
set_option maxHeartbeats 1000000 in
theorem in_any {c te : Int} {r : Bool} (hr : inK c te = r) (w : World) :
    Calls Tryz.prog 95 #[.int .i64 c, .int .i64 te] w fun e w' => e = .returned (.bool r) ∧ w = w' := by
  subst hr
  have rn := isName_any te
  by_cases h0 : c = 0
  · subst h0
    rw [inK_0]
    generalize nmB te = v at *
    go_enter Tryz.func95, Tryz.ntmps95
    go_wp2_with fail
    (with_reducible refine (rn _).mono ?_)
    rintro e w1 ⟨rfl, rfl⟩
    go_wp2
    go_ret
    exact ⟨rfl, rfl⟩
  by_cases h1 : c = 1
  · subst h1
    rw [inK_1]
    generalize nmB te = v at *
    by_cases h3 : te = 23
    · subst h3
      cases v
      all_goals
        go_enter Tryz.func95, Tryz.ntmps95
        go_wp2_with fail
        (with_reducible refine (rn _).mono ?_)
        rintro e w1 ⟨rfl, rfl⟩
        go_wp2
        go_ret
        exact ⟨by simp, rfl⟩
    · have q : (te != 23) = true := by simpa using h3
      rw [q]
      clear h0 h3
      cases v
      all_goals
        go_enter Tryz.func95, Tryz.ntmps95
        go_wp2_with fail
        (with_reducible refine (rn _).mono ?_)
        rintro e w1 ⟨rfl, rfl⟩
        go_wp2
        go_ret
        exact ⟨by simp, rfl⟩
  by_cases h2 : c = 2
  · subst h2
    rw [inK_2]
    by_cases g1 : te = 19
    · subst g1
      go_enter Tryz.func95, Tryz.ntmps95
      go_wp2
      go_ret
      exact ⟨by simp, rfl⟩
    by_cases g2 : te = 20
    · subst g2
      go_enter Tryz.func95, Tryz.ntmps95
      go_wp2
      go_ret
      exact ⟨by simp, rfl⟩
    by_cases g3 : te = 21
    · subst g3
      go_enter Tryz.func95, Tryz.ntmps95
      go_wp2
      go_ret
      exact ⟨by simp, rfl⟩
    have q1 : (te == 19) = false := by simpa using g1
    have q2 : (te == 20) = false := by simpa using g2
    have q3 : (te == 21) = false := by simpa using g3
    have e : decide (19 ≤ te ∧ te ≤ 21) = false := by simp; omega
    rw [e]
    clear g1 g2 g3 h0 h1 e
    go_enter Tryz.func95, Tryz.ntmps95
    go_wp2
    go_ret
    exact ⟨by simp, rfl⟩
  rw [inK_no h0 h1 h2]
  have q1 : (c == 0) = false := by simpa using h0
  have q2 : (c == 1) = false := by simpa using h1
  have q3 : (c == 2) = false := by simpa using h2
  clear h0 h1 h2 rn
  go_enter Tryz.func95, Tryz.ntmps95
  go_wp2
  go_ret
  exact ⟨by simp, rfl⟩
end Go.Proofs.YtpcijjdlppoblaaGreatDoor

/- What symbols, variables and rules can begin with; which rule is picked (plain mathematics). -/
namespace Go.Proofs.YtpcijjdlppoblaaGreatDoor
open Go.RowKit
set_option linter.unusedVariables false
set_option maxRecDepth 100000

/-- The first of some numbers that is so; -1 if none is. -/
def fstN (p : Int → Bool) : List Int → Int
  | [] => -1
  | i :: l => if p i then i else fstN p l
theorem fstN_drop {p : Int → Bool} {l : List Int} {k : Nat} {i : Int} (h : l[k]? = some i) : fstN p (l.drop k) = if p i then i else fstN p (l.drop (k + 1)) := by
  obtain ⟨h1, rfl⟩ := List.getElem?_eq_some_iff.1 h
  rw [List.drop_eq_getElem_cons h1, fstN]
theorem fstN_ge {p : Int → Bool} : ∀ {l : List Int}, (∀ i ∈ l, 0 ≤ i) → decide (0 ≤ fstN p l) = l.any p
  | [], _ => rfl
  | i :: l, h => by
    have ih := fstN_ge (p := p) (l := l) (fun j hj => h j (List.mem_cons_of_mem _ hj))
    have hi := h i List.mem_cons_self
    rw [fstN, List.any_cons]
    by_cases hp : p i = true
    · rw [if_pos hp, hp]; simp [hi]
    · rw [if_neg hp, ih]; simp [hp]
theorem fstN_congr {p q : Int → Bool} : ∀ {l : List Int}, (∀ i ∈ l, p i = q i) → fstN p l = fstN q l
  | [], _ => rfl
  | i :: l, h => by
    rw [fstN, fstN, h i List.mem_cons_self, fstN_congr (l := l) (fun j hj => h j (List.mem_cons_of_mem _ hj))]
/-- The symbols of rule i; none if there is no such rule. -/
def symI (i : Int) : List Sq := if 0 ≤ i then symR i.toNat else []
/-- The rule of variable v without symbols; -1 if it has none. -/
def empB (i : Int) : Bool := (symI i).length == 0
def empR (v : Int) : Int := fstN empB (ofR v)
/-- Can a symbol stand for nothing? -/
def mayN (t : Sq) : Bool := t.k == 1 && decide (0 ≤ empR t.n)
/-- Does a row begin by what fits? -/
def goB (f : Sq → Bool) : List Sq → Bool
  | [] => false
  | t :: l => f t || (mayN t && goB f l)
theorem goB_drop {f : Sq → Bool} {l : List Sq} {k : Nat} {t : Sq} (h : l[k]? = some t) : goB f (l.drop k) = (f t || (mayN t && goB f (l.drop (k + 1)))) := by
  obtain ⟨h1, rfl⟩ := List.getElem?_eq_some_iff.1 h
  rw [List.drop_eq_getElem_cons h1, goB]
/-- The symbols of a row that count, all so? -/
def okS (f : Sq → Bool) : List Sq → Bool
  | [] => true
  | t :: l => f t && (!mayN t || okS f l)
theorem okS_drop {f : Sq → Bool} {l : List Sq} {k : Nat} {t : Sq} (h : l[k]? = some t) : okS f (l.drop k) = (f t && (!mayN t || okS f (l.drop (k + 1)))) := by
  obtain ⟨h1, rfl⟩ := List.getElem?_eq_some_iff.1 h
  rw [List.drop_eq_getElem_cons h1, okS]
theorem goB_congr {f g p : Sq → Bool} (hp : ∀ t, p t = true → f t = g t) : ∀ {l : List Sq}, okS p l = true → goB f l = goB g l
  | [], _ => rfl
  | t :: l, h => by
    rw [okS, Bool.and_eq_true] at h
    rw [goB, goB, hp t h.1]
    cases hm : mayN t
    · rfl
    · have h2 := h.2
      rw [hm] at h2
      rw [goB_congr hp (l := l) (by simpa using h2)]
/-- The symbols of rule i that are no marks. -/
def plR (i : Int) : List Sq := plS (symI i)
/-- Do d questions behind one another suffice for a symbol? -/
def depB : Nat → Sq → Bool
  | 0, t => !(t.k == 1)
  | d + 1, t => !(t.k == 1) || (ofR t.n).all fun i => okS (depB d) (plR i)
/-- Does a symbol fit te? -/
def fitD : Nat → Int → Sq → Bool
  | d, te, t => if t.k = 0 then t.n == te && te != 0 else if t.k = 2 then inK t.n te else if t.k = 1 then (match d with | 0 => false | e + 1 => (ofR t.n).any fun i => goB (fitD e te) (plR i)) else false
theorem fitD_more {te : Int} : ∀ (d e : Nat) (t : Sq), depB d t = true → d ≤ e → fitD e te t = fitD d te t
  | 0, e, t, h, _ => by
    have h1 : t.k ≠ 1 := by simpa [depB] using h
    unfold fitD
    simp [h1]
  | d + 1, 0, t, _, h => by omega
  | d + 1, e + 1, t, h, hle => by
    by_cases h1 : t.k = 1
    · unfold fitD
      simp only [h1]
      simp only [show ¬ (1 : Int) = 0 by decide, show ¬ (1 : Int) = 2 by decide, if_false, if_true]
      have ha : ∀ i ∈ ofR t.n, okS (depB d) (plR i) = true := by
        have : (ofR t.n).all (fun i => okS (depB d) (plR i)) = true := by simpa [depB, h1] using h
        exact List.all_eq_true.1 this
      rw [Bool.eq_iff_iff, List.any_eq_true, List.any_eq_true]
      constructor
      · rintro ⟨i, hi, hg⟩
        exact ⟨i, hi, by rw [← goB_congr (fun u hu => fitD_more d e u hu (by omega)) (ha i hi)]; exact hg⟩
      · rintro ⟨i, hi, hg⟩
        exact ⟨i, hi, by rw [goB_congr (fun u hu => fitD_more d e u hu (by omega)) (ha i hi)]; exact hg⟩
    · unfold fitD
      simp [h1]
theorem dep_vars : ∀ v, v < 43 → depB 6 ⟨1, (v : Nat)⟩ = true := by decide +kernel
theorem dep_all (t : Sq) : depB 6 t = true := by
  obtain ⟨k, n⟩ := t
  by_cases h1 : k = 1
  · subst h1
    by_cases hv : 0 ≤ n ∧ n < 43
    · obtain ⟨a, rfl⟩ := Int.eq_ofNat_of_zero_le hv.1
      exact dep_vars a (by omega)
    · rw [depB, show (⟨1, n⟩ : Sq).n = n from rfl, ofR_none (by omega)]; rfl
  · rw [depB]; simp [h1]
/-- Does a symbol fit te? -/
def fitK (te : Int) (t : Sq) : Bool := fitD 6 te t
theorem fitK_eq (d : Nat) (te : Int) (t : Sq) (h : depB d t = true) (hd : d ≤ 6) : fitK te t = fitD d te t := fitD_more d 6 t h hd
/-- Can rule i begin with te? -/
def begK (te : Int) (i : Int) : Bool := goB (fitK te) (plR i)
/-- Can a rule of variable v? -/
def fstK (te v : Int) : Bool := (ofR v).any (begK te)
/-- The first of the rules of variable v that can; -1 if none can. -/
def begN (te v : Int) : Int := fstN (begK te) (ofR v)
/-- The rule of variable v that te asks for. -/
def pickK (te v : Int) : Int := if 0 ≤ begN te v then begN te v else empR v
theorem fitK_term (te n : Int) : fitK te ⟨0, n⟩ = (n == te && te != 0) := by unfold fitK fitD; simp
theorem fitK_class (te n : Int) : fitK te ⟨2, n⟩ = inK n te := by unfold fitK fitD; simp
theorem fitK_other (te : Int) {k n : Int} (h0 : k ≠ 0) (h1 : k ≠ 1) (h2 : k ≠ 2) : fitK te ⟨k, n⟩ = false := by unfold fitK fitD; simp [h0, h1, h2]
theorem fitK_var (te n : Int) : fitK te ⟨1, n⟩ = fstK te n := by
  have e : fitK te ⟨1, n⟩ = fitD 7 te ⟨1, n⟩ := (fitD_more 6 7 ⟨1, n⟩ (dep_all _) (by omega)).symm
  rw [e]
  unfold fitD
  simp only [show ¬ (1 : Int) = 0 by decide, show ¬ (1 : Int) = 2 by decide, if_false, if_true]
  rfl
theorem ofR_ge {v i : Int} (h : i ∈ ofR v) : 0 ≤ i ∧ i < 90 := by
  obtain ⟨a, h1, _, rfl⟩ := ofR_mem.1 h
  omega
theorem begN_ge (te v : Int) : decide (0 ≤ begN te v) = fstK te v := fstN_ge fun i hi => (ofR_ge hi).1
/-- A symbol's rank: how many questions behind one another it wants. -/
def rkK (t : Sq) : Nat := if depB 0 t then 0 else if depB 1 t then 1 else if depB 2 t then 2 else if depB 3 t then 3 else if depB 4 t then 4 else if depB 5 t then 5 else 6
end Go.Proofs.YtpcijjdlppoblaaGreatDoor

/- What holds of all rules and terminals (plain mathematics). -/
namespace Go.Proofs.YtpcijjdlppoblaaGreatDoor
open Go.RowKit
set_option linter.unusedVariables false
set_option maxRecDepth 100000

/-- What the first questions of a symbol come to: symbols of terminals, and classes. -/
def lfL (f : Sq → List Sq) : List Sq → List Sq
  | [] => []
  | t :: l => f t ++ (if mayN t then lfL f l else [])
def lfD : Nat → Sq → List Sq
  | d, t => if t.k = 0 then [t] else if t.k = 2 then [t] else if t.k = 1 then (match d with | 0 => [] | e + 1 => (ofR t.n).flatMap fun i => lfL (lfD e) (plR i)) else []
def hitB (te : Int) (t : Sq) : Bool := if t.k = 0 then t.n == te && te != 0 else inK t.n te
theorem lfL_hit {te : Int} {f : Sq → List Sq} {g : Sq → Bool} (h : ∀ t, (f t).any (hitB te) = g t) : ∀ l, (lfL f l).any (hitB te) = goB g l
  | [] => rfl
  | t :: l => by
    rw [lfL, List.any_append, h t, goB]
    cases mayN t
    · simp
    · simp [lfL_hit h l]
theorem lfD_hit {te : Int} : ∀ (d : Nat) (t : Sq), (lfD d t).any (hitB te) = fitD d te t := by
  intro d
  induction d with
  | zero =>
    intro t
    unfold lfD fitD
    by_cases h0 : t.k = 0
    · simp [h0, hitB]
    · by_cases h2 : t.k = 2
      · simp [h2, hitB]
      · simp [h0, h2]
  | succ d ih =>
    intro t
    unfold lfD fitD
    by_cases h0 : t.k = 0
    · simp [h0, hitB]
    · by_cases h2 : t.k = 2
      · simp [h2, hitB]
      · by_cases h1 : t.k = 1
        · simp only [h1, show ¬ (1 : Int) = 0 by decide, show ¬ (1 : Int) = 2 by decide, if_false, if_true]
          rw [List.any_flatMap]
          congr 1
          funext i
          exact lfL_hit ih (plR i)
        · simp [h0, h1, h2]
/-- What rule i can begin with. -/
def lfR (i : Int) : List Sq := lfL (lfD 6) (plR i)
theorem lfR_hit (te i : Int) : (lfR i).any (hitB te) = begK te i := lfL_hit (fun t => lfD_hit 6 t) (plR i)
/-- The same, written out. -/
def lfT : Nat → List (Nat × Nat)
  | 0 => [(0, 12), (2, 2), (0, 22), (0, 29), (0, 24), (0, 25), (0, 26), (0, 27), (0, 28), (0, 17)]
  | 2 => [(0, 12), (2, 2), (0, 22), (0, 29), (0, 24), (0, 25), (0, 26), (0, 27), (0, 28), (0, 17)]
  | 3 => [(0, 12)]
  | 4 => [(2, 2)]
  | 5 => [(0, 22)]
  | 6 => [(0, 29), (0, 24), (0, 25), (0, 26), (0, 27), (0, 28)]
  | 7 => [(0, 17)]
  | 9 => [(2, 0)]
  | 11 => [(0, 4)]
  | 13 => [(0, 2)]
  | 14 => [(0, 2)]
  | 16 => [(0, 8)]
  | 17 => [(2, 0)]
  | 18 => [(0, 10)]
  | 20 => [(0, 1)]
  | 22 => [(0, 9)]
  | 24 => [(0, 4)]
  | 26 => [(2, 0)]
  | 27 => [(2, 0)]
  | 28 => [(0, 2)]
  | 29 => [(0, 15)]
  | 30 => [(0, 16)]
  | 31 => [(0, 17)]
  | 32 => [(2, 0)]
  | 33 => [(0, 10)]
  | 34 => [(0, 12)]
  | 36 => [(0, 2), (0, 15), (0, 16), (0, 17), (2, 0), (0, 10), (0, 12)]
  | 38 => [(0, 2), (0, 15), (0, 16), (0, 17), (2, 0), (0, 10), (0, 12)]
  | 40 => [(2, 0)]
  | 41 => [(0, 12)]
  | 43 => [(2, 0), (0, 6)]
  | 44 => [(2, 0)]
  | 45 => [(0, 6)]
  | 47 => [(0, 7)]
  | 49 => [(0, 12)]
  | 50 => [(0, 23)]
  | 51 => [(2, 1)]
  | 52 => [(0, 9)]
  | 53 => [(0, 12)]
  | 54 => [(0, 29)]
  | 55 => [(0, 24)]
  | 56 => [(0, 25)]
  | 57 => [(0, 26)]
  | 58 => [(0, 27)]
  | 59 => [(0, 28)]
  | 61 => [(0, 30)]
  | 63 => [(0, 3)]
  | 65 => [(0, 3)]
  | 66 => [(0, 12)]
  | 68 => [(0, 17), (2, 0)]
  | 69 => [(0, 17), (2, 0)]
  | 71 => [(0, 17)]
  | 73 => [(0, 4)]
  | 75 => [(0, 17), (2, 0)]
  | 76 => [(0, 17), (2, 0)]
  | 77 => [(0, 12)]
  | 79 => [(0, 17), (2, 0)]
  | 80 => [(0, 17), (2, 0)]
  | 82 => [(0, 8)]
  | 84 => [(0, 13)]
  | 86 => [(0, 13)]
  | 87 => [(0, 12)]
  | 89 => [(0, 17), (2, 0)]
  | _ => []
def lfS (i : Nat) : List Sq := (lfT i).map fun p => ⟨p.1, p.2⟩
theorem lfT_eq : ∀ i, i < 90 → sameS (lfR (i : Nat)) (lfS i) = true := by decide +kernel
theorem sameS_eq : ∀ {a b : List Sq}, sameS a b = true → a = b
  | [], [], _ => rfl
  | [], _ :: _, h => by simp [sameS] at h
  | _ :: _, [], h => by simp [sameS] at h
  | ⟨k, n⟩ :: a, ⟨k', n'⟩ :: b, h => by
    simp only [sameS, Bool.and_eq_true, beq_iff_eq] at h
    rw [h.1.1, h.1.2, sameS_eq h.2]
def begT (te : Int) (i : Nat) : Bool := (lfS i).any (hitB te)
theorem begK_T (te : Int) {i : Nat} (h : i < 90) : begK te i = begT te i := by
  rw [← lfR_hit, sameS_eq (lfT_eq i h)]; rfl
end Go.Proofs.YtpcijjdlppoblaaGreatDoor

/- No two rules of a variable begin with one terminal, and what follows (plain mathematics). -/
namespace Go.Proofs.YtpcijjdlppoblaaGreatDoor
open Go.RowKit
set_option linter.unusedVariables false
set_option maxRecDepth 100000

/-- The rules of variable v. -/
def vsR (v : Int) : List Nat := (List.range 90).filter fun i => (varR i : Int) == v
theorem ofR_vs (v : Int) : ofR v = (vsR v).map fun i : Nat => (i : Int) := rfl
theorem vsR_lt {v : Int} {i : Nat} (h : i ∈ vsR v) : i < 90 := List.mem_range.1 (List.mem_filter.1 h).1
theorem vsR_none {v : Int} (h : v < 0 ∨ 43 ≤ v) : vsR v = [] := by
  have := ofR_none h
  rw [ofR_vs] at this
  exact List.map_eq_nil_iff.1 this
def fstT (te v : Int) : Bool := (vsR v).any (begT te)
theorem fstK_T (te v : Int) : fstK te v = fstT te v := by
  rw [fstK, ofR_vs, List.any_map, fstT, Bool.eq_iff_iff, List.any_eq_true, List.any_eq_true]
  constructor
  · rintro ⟨i, hi, hb⟩; exact ⟨i, hi, by rw [← begK_T te (vsR_lt hi)]; exact hb⟩
  · rintro ⟨i, hi, hb⟩; exact ⟨i, hi, by show begK te i = true; rw [begK_T te (vsR_lt hi)]; exact hb⟩
/-- With what is no terminal nothing begins. -/
theorem leaf_good : ∀ i, i < 90 → ((lfS i).all fun t => (t.k == 0 && decide (1 ≤ t.n) && decide (t.n ≤ 30)) || t.k == 2) = true := by decide +kernel
theorem begT_out {te : Int} (h : te ≤ 0 ∨ 31 ≤ te) {i : Nat} (hi : i < 90) : begT te i = false := by
  unfold begT
  rw [List.any_eq_false]
  intro t ht
  have hg := List.all_eq_true.1 (leaf_good i hi) t ht
  simp only [Bool.or_eq_true, Bool.and_eq_true, beq_iff_eq, decide_eq_true_eq] at hg
  unfold hitB
  rcases hg with ⟨⟨h0, h1⟩, h2⟩ | h2
  · rw [if_pos h0]
    have : ¬ (t.n = te) := by omega
    simp [this]
  · rw [if_neg (by omega)]
    have a1 : ¬ ((18 : Int) ≤ te ∧ te ≤ 30) := by omega
    have a2 : ¬ ((18 : Int) ≤ te ∧ te ≤ 30 ∧ te ≠ 23) := by omega
    have a3 : ¬ ((19 : Int) ≤ te ∧ te ≤ 21) := by omega
    simp only [inK, decide_eq_false a1, decide_eq_false a2, decide_eq_false a3, Bool.and_false, Bool.or_self]
    simp
theorem plR_over {i : Int} (h : i < 0 ∨ 90 ≤ i) : plR i = [] := by
  have e : symI i = [] := by
    unfold symI
    rcases h with h | h
    · rw [if_neg (by omega)]
    · rw [if_pos (by omega)]
      obtain ⟨k, hk⟩ : ∃ k : Nat, i.toNat = k + 90 := ⟨i.toNat - 90, by omega⟩
      rw [hk]; rfl
  rw [plR, e]; rfl
theorem begK_over (te : Int) {i : Int} (h : i < 0 ∨ 90 ≤ i) : begK te i = false := by rw [begK, plR_over h]; rfl
theorem begK_out {te : Int} (h : te ≤ 0 ∨ 31 ≤ te) (i : Int) : begK te i = false := by
  by_cases hi : 0 ≤ i ∧ i < 90
  · obtain ⟨a, rfl⟩ := Int.eq_ofNat_of_zero_le hi.1
    rw [begK_T te (by omega), begT_out h (by omega)]
  · exact begK_over te (by omega)
theorem fstK_out {te : Int} (h : te ≤ 0 ∨ 31 ≤ te) (v : Int) : fstK te v = false := by
  rw [fstK, List.any_eq_false]
  intro i _
  rw [begK_out h i]; simp
theorem fstK_over (te : Int) {v : Int} (h : v < 0 ∨ 43 ≤ v) : fstK te v = false := by rw [fstK, ofR_none h]; rfl
theorem empR_over {v : Int} (h : v < 0 ∨ 43 ≤ v) : empR v = -1 := by rw [empR, ofR_none h]; rfl
theorem begN_over (te : Int) {v : Int} (h : v < 0 ∨ 43 ≤ v) : begN te v = -1 := by rw [begN, ofR_none h]; rfl
theorem pickK_over (te : Int) {v : Int} (h : v < 0 ∨ 43 ≤ v) : pickK te v = -1 := by rw [pickK, begN_over te h, empR_over h]; rfl
/-- At most one rule of a variable begins with a terminal. -/
theorem one_dec : ∀ v, v < 43 → ∀ te, te < 31 → ((vsR (v : Nat)).filter (begT (te : Nat))).length ≤ 1 := by decide +kernel
theorem one_all (te v : Int) : ((ofR v).filter (begK te)).length ≤ 1 := by
  by_cases h : 0 < te ∧ te < 31
  · by_cases hv : 0 ≤ v ∧ v < 43
    · obtain ⟨a, rfl⟩ := Int.eq_ofNat_of_zero_le hv.1
      obtain ⟨b, rfl⟩ := Int.eq_ofNat_of_zero_le (show 0 ≤ te by omega)
      rw [ofR_vs, List.filter_map, List.length_map]
      have e : (vsR a).filter (begK b ∘ fun i : Nat => (i : Int)) = (vsR a).filter (begT b) :=
        List.filter_congr fun i hi => begK_T b (vsR_lt hi)
      rw [e]
      exact one_dec a (by omega) b (by omega)
    · rw [ofR_none (by omega)]; simp
  · rw [List.filter_eq_nil_iff.2 (fun i _ => by rw [begK_out (by omega) i]; simp)]; simp
/-- Each variable begins with some terminal. -/
theorem some_dec : ∀ v, v < 43 → ((List.range 31).any fun te => fstT (te : Nat) (v : Nat)) = true := by decide +kernel
def smB (v : Int) (n : Nat) : Bool := (List.range n).any fun te => fstK (te : Nat) v
theorem smB_succ (v : Int) (n : Nat) : smB v (n + 1) = (smB v n || fstK (n : Nat) v) := by unfold smB; rw [List.range_succ, List.any_append]; simp
theorem some_all {v : Int} (h : 0 ≤ v ∧ v < 43) : smB v 31 = true := by
  obtain ⟨a, rfl⟩ := Int.eq_ofNat_of_zero_le h.1
  have := some_dec a (by omega)
  unfold smB
  simpa only [fstK_T] using this
/-- What stands behind a variable that may be nothing can't begin it. -/
def folJ (te v : Int) : List Sq → Bool
  | [] => true
  | t :: l => !(fitK te t && fstK te v) && (!mayN t || folJ te v l)
def folK (te : Int) : List Sq → Bool
  | [] => true
  | t :: l => (!mayN t || folJ te t.n l) && folK te l
def fitT (te : Int) (t : Sq) : Bool := if t.k = 0 then t.n == te && te != 0 else if t.k = 2 then inK t.n te else if t.k = 1 then fstT te t.n else false
theorem fitK_T (te : Int) (t : Sq) : fitK te t = fitT te t := by
  obtain ⟨k, n⟩ := t
  unfold fitT
  by_cases h0 : k = 0
  · subst h0; rw [fitK_term]; simp
  · by_cases h2 : k = 2
    · subst h2; rw [fitK_class]; simp
    · by_cases h1 : k = 1
      · subst h1; rw [fitK_var, fstK_T]; simp
      · rw [fitK_other te h0 h1 h2]; simp [h0, h1, h2]
def folU (te v : Int) : List Sq → Bool
  | [] => true
  | t :: l => !(fitT te t && fstT te v) && (!mayN t || folU te v l)
def folT (te : Int) : List Sq → Bool
  | [] => true
  | t :: l => (!mayN t || folU te t.n l) && folT te l
theorem folJ_U (te v : Int) : ∀ l, folJ te v l = folU te v l
  | [] => rfl
  | t :: l => by rw [folJ, folU, fitK_T, fstK_T, folJ_U te v l]
theorem folK_T (te : Int) : ∀ l, folK te l = folT te l
  | [] => rfl
  | t :: l => by rw [folK, folT, folJ_U, folK_T te l]
theorem fol_dec : ∀ i, i < 90 → ∀ te, te < 31 → folT (te : Nat) (plS (symR i)) = true := by decide +kernel
theorem folJ_out {te : Int} (h : te ≤ 0 ∨ 31 ≤ te) (v : Int) : ∀ l, folJ te v l = true
  | [] => rfl
  | t :: l => by rw [folJ, fstK_out h v, folJ_out h v l]; simp
theorem folK_out {te : Int} (h : te ≤ 0 ∨ 31 ≤ te) : ∀ l, folK te l = true
  | [] => rfl
  | t :: l => by rw [folK, folJ_out h, folK_out h l]; simp
theorem fol_all (i te : Int) : folK te (plR i) = true := by
  by_cases h : 0 < te ∧ te < 31
  · by_cases hi : 0 ≤ i ∧ i < 90
    · obtain ⟨a, rfl⟩ := Int.eq_ofNat_of_zero_le hi.1
      obtain ⟨b, rfl⟩ := Int.eq_ofNat_of_zero_le (show 0 ≤ te by omega)
      have e : plR (a : Int) = plS (symR a) := by rw [plR, symI, if_pos hi.1]; rfl
      rw [folK_T, e]
      exact fol_dec a (by omega) b (by omega)
    · rw [plR_over (by omega)]; rfl
  · exact folK_out (by omega) _
/-- What begins with a name that asks for no word begins with each free name. -/
theorem free_dec : ∀ v, v < 43 → fstT 18 (v : Nat) = true → ∀ te, te < 31 → inK 1 (te : Nat) = true → fstT (te : Nat) (v : Nat) = true := by decide +kernel
theorem free_all (v te : Int) (h1 : fstK 18 v = true) (h2 : inK 1 te = true) : fstK te v = true := by
  by_cases hv : 0 ≤ v ∧ v < 43
  · have ht : 18 ≤ te ∧ te ≤ 30 := by
      have := h2
      rw [inK_1, Bool.and_eq_true] at this
      simpa [nmB] using this.1
    obtain ⟨a, rfl⟩ := Int.eq_ofNat_of_zero_le hv.1
    obtain ⟨b, rfl⟩ := Int.eq_ofNat_of_zero_le (show 0 ≤ te by omega)
    rw [fstK_T] at h1 ⊢
    exact free_dec a (by omega) h1 b (by omega) h2
  · rw [fstK_over 18 (by omega)] at h1; cases h1
end Go.Proofs.YtpcijjdlppoblaaGreatDoor
