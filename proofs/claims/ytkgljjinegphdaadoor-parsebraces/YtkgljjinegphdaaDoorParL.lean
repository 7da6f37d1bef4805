/- What the laws say of the parser: names in braces (plain mathematics). -/
import Derived.Test.YtkgljjinegphdaaDoorParO
namespace Go.Proofs.YtkgljjinegphdaaDoor
open Go.RowKit
set_option linter.unusedVariables false
set_option maxRecDepth 100000

/-- The parser stops there, whatever rules it tells. -/
def Ends (h : Nat → Int) (S : List Sq) (a z : Nat) (f : Bool) : Prop := ∃ rs, Run h S a rs z f
/-- Some steps of the parser, as far as the hands us tell. -/
def advB (us : List Int) (P' : List Sq) (k' : Nat) : Nat → List Sq → Nat → Bool
  | 0, P, k => sameS P P' && k == k'
  | _ + 1, [], _ => false
  | n + 1, t :: P, k => match us[k]? with
    | none => false
    | some te => if t.k = 1 then decide (0 ≤ pickK te t.n) && advB us P' k' n (plR (pickK te t.n) ++ P) k else fitK te t && advB us P' k' n P (k + 1)
/-- The hands from a on. -/
def Hs (h : Nat → Int) (a : Nat) (us : List Int) : Prop := ∀ j u, us[j]? = some u → h (a + j) = u
theorem Hs.head {h : Nat → Int} {a : Nat} {x : Int} {l : List Int} (e : Hs h a (x :: l)) : h a = x := e 0 x rfl
theorem Hs.tail {h : Nat → Int} {a : Nat} {x : Int} {l : List Int} (e : Hs h a (x :: l)) : Hs h (a + 1) l := fun j u hu => by
  have := e (j + 1) u hu
  rw [← this]; congr 1; omega
theorem Hs.left {h : Nat → Int} {a : Nat} {l m : List Int} (e : Hs h a (l ++ m)) : Hs h a l := fun j u hu =>
  e j u (by rw [List.getElem?_append_left (List.getElem?_eq_some_iff.1 hu).1]; exact hu)
theorem Hs.right {h : Nat → Int} {a : Nat} {l m : List Int} (e : Hs h a (l ++ m)) : Hs h (a + l.length) m := fun j u hu => by
  have := e (l.length + j) u (by rw [List.getElem?_append_right (by omega), Nat.add_sub_cancel_left]; exact hu)
  rw [← this]; congr 1; omega
theorem Hs.one {h : Nat → Int} {a : Nat} {x : Int} (e : h a = x) : Hs h a [x] := fun j u hu => by
  cases j with
  | zero => cases hu; exact e
  | succ j => simp at hu
theorem Hs.two {h : Nat → Int} {a : Nat} {x y : Int} (e : h a = x) (e' : h (a + 1) = y) : Hs h a [x, y] := fun j u hu => by
  match j, hu with
  | 0, hu => cases hu; exact e
  | 1, hu => cases hu; exact e'
  | j + 2, hu => simp at hu
theorem adv_run {h : Nat → Int} {us : List Int} {a : Nat} (he : Hs h a us) {P' : List Sq} {k' : Nat} {S : List Sq} {z : Nat} {f : Bool} (hr : Ends h (P' ++ S) (a + k') z f) :
    ∀ (n : Nat) (P : List Sq) (k : Nat), advB us P' k' n P k = true → Ends h (P ++ S) (a + k) z f := by
  intro n
  induction n with
  | zero =>
    intro P k e
    rw [advB, Bool.and_eq_true, beq_iff_eq] at e
    rw [sameS_eq e.1, e.2]; exact hr
  | succ n ih =>
    intro P k e
    cases P with
    | nil => cases e
    | cons t P =>
      rw [advB] at e
      cases hu : us[k]? with
      | none => rw [hu] at e; cases e
      | some te =>
        rw [hu] at e
        have hh := he k te hu
        dsimp only at e
        by_cases hk : t.k = 1
        · rw [if_pos hk, Bool.and_eq_true, decide_eq_true_eq] at e
          obtain ⟨rs, r⟩ := ih _ _ e.2
          rw [List.append_assoc] at r
          exact ⟨_, .var hk (by rw [hh]) e.1 r⟩
        · rw [if_neg hk, Bool.and_eq_true] at e
          obtain ⟨rs, r⟩ := ih _ _ e.2
          exact ⟨_, .term hk (by rw [hh]; exact e.1) r⟩
theorem adv_at {h : Nat → Int} {us : List Int} {a : Nat} (he : Hs h a us) {P P' S : List Sq} {k n z : Nat} {f : Bool} (hb : advB us P' k n P 0 = true) (hr : Ends h (P' ++ S) (a + k) z f) : Ends h (P ++ S) a z f :=
  adv_run he hr n P 0 hb
def vS (n : Int) : Sq := ⟨1, n⟩
def tS (n : Int) : Sq := ⟨0, n⟩
/-- A name, and names behind it, up to a brace that closes, or the end. -/
theorem names_end {h : Nat → Int} {te : Int} (hte : te = 14 ∨ te = 0) {S : List Sq} {z : Nat} {f : Bool} : ∀ (m a : Nat), (∀ j, j < m + 1 → h (a + j) = 18) → h (a + (m + 1)) = te → Ends h S (a + (m + 1)) z f → Ends h ([vS 20, vS 19] ++ S) a z f := by
  intro m
  induction m with
  | zero =>
    intro a h1 h2 hr
    have h0 : h a = 18 := h1 0 (by omega)
    rw [Nat.zero_add] at h2 hr
    rcases hte with rfl | rfl
    · exact adv_at (us := [18, 14]) (n := 7) (P := [vS 20, vS 19]) (P' := []) (k := 1) (Hs.two h0 h2) (by decide +kernel) hr
    · exact adv_at (us := [18, 0]) (n := 7) (P := [vS 20, vS 19]) (P' := []) (k := 1) (Hs.two h0 h2) (by decide +kernel) hr
  | succ m ih =>
    intro a h1 h2 hr
    have h0 : h a = 18 := h1 0 (by omega)
    have h3 : h (a + 1) = 18 := h1 1 (by omega)
    refine adv_at (us := [18, 18]) (n := 7) (P := [vS 20, vS 19]) (P' := [vS 20, vS 19]) (k := 1) (Hs.two h0 h3) (by decide +kernel) (ih (a + 1) ?_ ?_ ?_)
    · intro j hj
      rw [show a + 1 + j = a + (j + 1) by omega]; exact h1 (j + 1) (by omega)
    · rw [← h2]; congr 1; omega
    · rw [show a + 1 + (m + 1) = a + (m + 1 + 1) by omega]; exact hr
/-- Braces that open, with a name ahead of each but the first one. -/
def opL : Nat → List Int
  | 0 => []
  | 1 => [12]
  | d + 2 => opL (d + 1) ++ [18, 12]
theorem opL_front : ∀ d, opL (d + 2) = 12 :: 18 :: opL (d + 1)
  | 0 => rfl
  | d + 1 => by
    have e1 : opL (d + 1 + 2) = opL (d + 2) ++ [18, 12] := by rw [opL]
    have e2 : opL (d + 1 + 1) = opL (d + 1) ++ [18, 12] := by rw [opL]
    have e3 := e2.symm.trans (opL_front d)
    rw [e1, e2]
    conv => lhs; rw [e3]
    rfl
theorem opL_len : ∀ d, (opL d).length ≤ 2 * d
  | 0 => Nat.le_refl _
  | 1 => by decide
  | d + 2 => by have := opL_len (d + 1); rw [opL, List.length_append]; simp; omega
theorem opL_pos (d : Nat) : 1 ≤ (opL (d + 1)).length := by
  cases d with
  | zero => decide
  | succ d => rw [opL_front]; simp
/-- All but the last brace. -/
def brI (n d : Nat) : List Int := opL (d + 1) ++ List.replicate n 18 ++ List.replicate d 14
theorem brI_succ (n d : Nat) : brI n (d + 1) = 12 :: 18 :: (brI n d ++ [14]) := by
  unfold brI
  rw [opL_front, List.replicate_succ']
  simp
theorem brI_zero (n : Nat) : brI n 0 = 12 :: List.replicate n 18 := by unfold brI; simp [opL]
theorem brI_head (n d : Nat) : ∃ l, brI n d = 12 :: l := by
  cases d with
  | zero => exact ⟨_, brI_zero n⟩
  | succ d => exact ⟨_, brI_succ n d⟩
theorem hs_rep {h : Nat → Int} {a n : Nat} {x : Int} (e : Hs h a (List.replicate n x)) : ∀ j, j < n → h (a + j) = x := fun j hj => e j x (by rw [List.getElem?_replicate]; simp [hj])
theorem brace {h : Nat → Int} {z n : Nat} {f : Bool} : ∀ (d a : Nat) (S : List Sq) (te : Int), te = 14 ∨ te = 0 → Hs h a (brI (n + 1) d) → h (a + (brI (n + 1) d).length) = te → Ends h (tS 14 :: S) (a + (brI (n + 1) d).length) z f → Ends h ([vS 18] ++ S) a z f := by
  intro d
  induction d with
  | zero =>
    intro a S te hte he h2 hr
    rw [brI_zero] at he h2 hr
    rw [List.length_cons, List.length_replicate] at h2 hr
    refine adv_at (us := [12]) (n := 2) (P := [vS 18]) (P' := [vS 20, vS 19, tS 14]) (k := 1) (Hs.one he.head) (by decide +kernel) ?_
    refine names_end hte (S := tS 14 :: S) n (a + 1) (fun j hj => hs_rep he.tail j hj) ?_ ?_
    · rw [← h2]; congr 1; omega
    · rw [show a + 1 + (n + 1) = a + (n + 1 + 1) by omega]; exact hr
  | succ d ih =>
    intro a S te hte he h2 hr
    obtain ⟨l, hl⟩ := brI_head (n + 1) d
    rw [brI_succ] at he h2 hr
    rw [List.length_cons, List.length_cons, List.length_append, List.length_singleton] at h2 hr
    have e1 := he.head
    have e2 := he.tail.head
    have e3 := he.tail.tail.left
    have e4 := he.tail.tail.right.head
    have e5 : h (a + 1 + 1) = 12 := by rw [hl] at e3; exact e3.head
    refine adv_at (us := [12]) (n := 2) (P := [vS 18]) (P' := [vS 20, vS 19, tS 14]) (k := 1) (Hs.one e1) (by decide +kernel) ?_
    refine adv_at (us := [18, 12]) (n := 6) (P := [vS 20]) (P' := [vS 18]) (S := [vS 19, tS 14] ++ S) (k := 1) (Hs.two e2 e5) (by decide +kernel) ?_
    refine ih (a + 1 + 1) ([vS 19, tS 14] ++ S) 14 (.inl rfl) e3 e4 ?_
    have hg : Ends h ([vS 19, tS 14] ++ S) (a + 1 + 1 + (brI (n + 1) d).length + 1) z f := by
      have hr' : Ends h ([tS 14] ++ S) (a + 1 + 1 + (brI (n + 1) d).length + 1 + 0) z f := by
        rw [show a + 1 + 1 + (brI (n + 1) d).length + 1 + 0 = a + ((brI (n + 1) d).length + 1 + 1 + 1) by omega]; exact hr
      have h2' : h (a + 1 + 1 + (brI (n + 1) d).length + 1) = te := by rw [← h2]; congr 1; omega
      rcases hte with rfl | rfl
      · exact adv_at (us := [14]) (n := 1) (P := [vS 19]) (P' := []) (S := [tS 14] ++ S) (k := 0) (Hs.one h2') (by decide +kernel) hr'
      · exact adv_at (us := [0]) (n := 1) (P := [vS 19]) (P' := []) (S := [tS 14] ++ S) (k := 0) (Hs.one h2') (by decide +kernel) hr'
    exact adv_at (us := [14]) (n := 1) (P := [tS 14]) (P' := []) (S := [vS 19, tS 14] ++ S) (k := 1) (Hs.one e4) (by decide +kernel) hg
theorem hdL_mid {l m : List Int} : hdL (l ++ m) l.length = hdL m 0 := hdL_app' (l := l) (m := m) (a := 0)
theorem hdL_hs {l m : List Int} : Hs (hdL (l ++ m)) 0 l := fun j u hu => by
  have hj := (List.getElem?_eq_some_iff.1 hu).1
  rw [Nat.zero_add, hdL_app hj, hdL_some hu]
theorem hdL_hs0 {l : List Int} : Hs (hdL l) 0 l := fun j u hu => by rw [Nat.zero_add, hdL_some hu]
/-- From the beginning to the last brace. -/
theorem braces_at {h : Nat → Int} {n d z : Nat} {f : Bool} {te : Int} (hte : te = 14 ∨ te = 0) (he : Hs h 0 (brI (n + 1) d)) (hl : h (brI (n + 1) d).length = te) (hr : Ends h (tS 14 :: [moreS]) (brI (n + 1) d).length z f) : Ends h docS 0 z f := by
  obtain ⟨l, hl1⟩ := brI_head (n + 1) d
  have e1 : h 0 = 12 := by rw [hl1] at he; exact he.head
  refine adv_at (us := [12]) (n := 2) (P := docS) (P' := [vS 18, moreS]) (S := []) (k := 0) (Hs.one e1) (by decide +kernel) ?_
  refine brace d 0 [moreS] te hte he ?_ ?_
  · rw [Nat.zero_add]; exact hl
  · rw [Nat.zero_add]; exact hr
theorem more_end {h : Nat → Int} {a : Nat} {te : Int} (hte : te = 14 ∨ te = 0) (hh : h a = te) : Ends h [moreS] a a true := by
  have hn : Ends h ([] ++ []) (a + 0) a true := ⟨[], .nil⟩
  rcases hte with rfl | rfl
  · exact adv_at (us := [14]) (n := 1) (P := [moreS]) (P' := []) (S := []) (k := 0) (Hs.one hh) (by decide +kernel) hn
  · exact adv_at (us := [0]) (n := 1) (P := [moreS]) (P' := []) (S := []) (k := 0) (Hs.one hh) (by decide +kernel) hn
theorem last_brace {h : Nat → Int} {a : Nat} {te : Int} (hte : te = 14 ∨ te = 0) (h1 : h a = 14) (h2 : h (a + 1) = te) : Ends h (tS 14 :: [moreS]) a (a + 1) true :=
  adv_at (us := [14]) (n := 1) (P := [tS 14]) (P' := []) (S := [moreS]) (k := 1) (Hs.one h1) (by decide +kernel) (more_end hte h2)
theorem out_of {l : List Int} {z z' : Nat} {f f' : Bool} {R : List Int} (he : Ends (hdL l) docS 0 z f) (hp : Par l R z' f') : outZ l z' f' = outZ l z f := by
  obtain ⟨rs, r⟩ := he
  obtain ⟨-, h2, h3⟩ := hp.det r
  rw [h2, h3]
/-- The braces. -/
def brL (n d : Nat) : List Int := opL (d + 1) ++ List.replicate n 18 ++ List.replicate (d + 1) 14
theorem brL_eq (n d : Nat) : brL n d = brI n d ++ [14] := by unfold brL brI; rw [List.replicate_succ']; simp
theorem braces_full {n d z : Nat} {f : Bool} {R : List Int} (hp : Par (brL (n + 1) d) R z f) : outZ (brL (n + 1) d) z f = -1 := by
  have hd : hdL (brL (n + 1) d) (brI (n + 1) d).length = 14 := by rw [brL_eq, hdL_mid]; rfl
  have he := braces_at (h := hdL (brL (n + 1) d)) (.inl rfl) (by rw [brL_eq]; exact hdL_hs) hd (last_brace (.inr rfl) hd (hdL_over (by rw [brL_eq, List.length_append]; simp)))
  rw [out_of he hp]
  exact outZ_ok (by rw [brL_eq, List.length_append]; rfl)
theorem braces_less {n d z : Nat} {f : Bool} {R : List Int} (hp : Par (brI (n + 1) d) R z f) : outZ (brI (n + 1) d) z f = ((brI (n + 1) d).length : Nat) := by
  have hd : hdL (brI (n + 1) d) (brI (n + 1) d).length = 0 := hdL_over (Nat.le_refl _)
  have he := braces_at (h := hdL (brI (n + 1) d)) (z := (brI (n + 1) d).length) (f := false) (.inr rfl) hdL_hs0 hd ⟨[], .miss (by decide) (by rw [hd]; exact fit_end (by decide))⟩
  rw [out_of he hp, outZ, yesB, Bool.false_and, if_neg (by simp)]
theorem braces_more {n d z : Nat} {f : Bool} {R : List Int} (hp : Par (brL (n + 1) d ++ [14]) R z f) : outZ (brL (n + 1) d ++ [14]) z f = ((brL (n + 1) d).length : Nat) := by
  have e : brL (n + 1) d ++ [14] = brI (n + 1) d ++ [14, 14] := by rw [brL_eq, List.append_assoc]; rfl
  have hl : (brL (n + 1) d).length = (brI (n + 1) d).length + 1 := by rw [brL_eq, List.length_append]; rfl
  have hd : hdL (brI (n + 1) d ++ [14, 14]) (brI (n + 1) d).length = 14 := by rw [hdL_mid]; rfl
  have hd2 : hdL (brI (n + 1) d ++ [14, 14]) ((brI (n + 1) d).length + 1) = 14 := by rw [hdL_app']; rfl
  rw [e] at hp ⊢
  have he := braces_at (h := hdL (brI (n + 1) d ++ [14, 14])) (.inl rfl) hdL_hs hd (last_brace (.inl rfl) hd hd2)
  rw [out_of he hp, outZ_no (by rw [List.length_append]; simp), hl]
theorem par_none : Par [12, 14] [0, 3, 41] 1 false := runF_run (n := 40) (by decide +kernel)
end Go.Proofs.YtkgljjinegphdaaDoor
