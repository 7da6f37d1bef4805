/- What a number's text tells, in plain words: digits, a dot, an exponent. -/
import Derived.Test.YtocgknhpecobfaaDoorRealF
namespace Go.Proofs.YtocgknhpecobfaaDoor
open Go.RowKit

theorem take_tw (p : UInt8 → Bool) (l : List UInt8) : l.take (l.takeWhile p).length = l.takeWhile p := by
  induction l with
  | nil => rfl
  | cons a l ih =>
    by_cases h : p a = true
    · rw [List.takeWhile_cons, if_pos h, List.length_cons, List.take_succ_cons, ih]
    · rw [List.takeWhile_cons, if_neg h]; rfl
theorem drop_tw (p : UInt8 → Bool) (l : List UInt8) : l.drop (l.takeWhile p).length = l.dropWhile p := by
  induction l with
  | nil => rfl
  | cons a l ih =>
    by_cases h : p a = true
    · rw [List.takeWhile_cons, if_pos h, List.length_cons, List.drop_succ_cons, ih, List.dropWhile_cons, if_pos h]
    · rw [List.takeWhile_cons, if_neg h, List.dropWhile_cons, if_neg h]; rfl

/-- The digits ahead; what stands behind them. -/
def dg (l : List UInt8) : List UInt8 := l.takeWhile isD
def ud (l : List UInt8) : List UInt8 := l.dropWhile isD
theorem cnt_figs {L : Nat} {l : List UInt8} (h : l.length ≤ L) : cnt figs L l = (l.takeWhile isD).length := by
  unfold cnt
  rw [List.take_of_length_le h]
  have e : (fun c => figs.contains c) = isD := funext figs_isD
  rw [e]
theorem tk_figs {L : Nat} {l : List UInt8} (h : l.length ≤ L) : tk figs L l = dg l := by
  unfold tk; rw [cnt_figs h, take_tw]; rfl
theorem dr_figs {L : Nat} {l : List UInt8} (h : l.length ≤ L) : dr figs L l = ud l := by
  unfold dr; rw [cnt_figs h, drop_tw]; rfl
theorem tk1_nil (S : List UInt8) : tk S 1 [] = [] := by simp [tk]
theorem dr1_nil (S : List UInt8) : dr S 1 [] = [] := by simp [dr]
theorem cnt1_cons (S : List UInt8) (c : UInt8) (l : List UInt8) : cnt S 1 (c :: l) = if S.contains c then 1 else 0 := by
  unfold cnt
  rw [List.take_succ_cons, List.take_zero, List.takeWhile_cons]
  split <;> simp
theorem tk1_cons (S : List UInt8) (c : UInt8) (l : List UInt8) : tk S 1 (c :: l) = if S.contains c then [c] else [] := by
  unfold tk; rw [cnt1_cons]; split <;> simp
theorem dr1_cons (S : List UInt8) (c : UInt8) (l : List UInt8) : dr S 1 (c :: l) = if S.contains c then l else c :: l := by
  unfold dr; rw [cnt1_cons]; split <;> simp

def expoD (l : List UInt8) : Option Int :=
  if tk [101, 69] 1 l = [] then (if dr [101, 69] 1 l = [] then some 0 else none)
  else if dg (dr [43, 45] 1 (dr [101, 69] 1 l)) = [] then none
  else if ud (dr [43, 45] 1 (dr [101, 69] 1 l)) = [] then some (sgnd (tk [43, 45] 1 (dr [101, 69] 1 l)) (pw (dg (dr [43, 45] 1 (dr [101, 69] 1 l))))) else none
def plainD (l : List UInt8) : Option (List UInt8 × Int) :=
  if dg l = [] then none
  else if tk [46] 1 (ud l) = [] then (expoD (dr [46] 1 (ud l))).map fun x => (dg l, x)
  else if dg (dr [46] 1 (ud l)) = [] then none
  else (expoD (ud (dr [46] 1 (ud l)))).map fun x => (dg l ++ dg (dr [46] 1 (ud l)), x - ((dg (dr [46] 1 (ud l))).length : Int))

theorem ud_len (l : List UInt8) : (ud l).length ≤ l.length := (List.dropWhile_sublist _).length_le
theorem dg_len (l : List UInt8) : (dg l).length ≤ l.length := (List.takeWhile_sublist _).length_le
theorem expo_D {L : Nat} {l : List UInt8} (h : l.length ≤ L) : expo L l = expoD l := by
  have h1 := dr_len [101, 69] 1 l
  have h2 := dr_len [43, 45] 1 (dr [101, 69] 1 l)
  unfold expo expoD
  rw [tk_figs (by omega), dr_figs (by omega)]
theorem plain_D {L : Nat} {l : List UInt8} (h : l.length ≤ L) : plainN L l = plainD l := by
  have h1 := ud_len l
  have h2 := dr_len [46] 1 (ud l)
  have h3 := ud_len (dr [46] 1 (ud l))
  unfold plainN plainD
  rw [tk_figs h, dr_figs h, tk_figs (by omega), dr_figs (by omega), expo_D (by omega), expo_D (by omega)]
  simp

theorem num_minus (t : List UInt8) : num (45 :: t) = (plainD t).map fun d => (true, d.1, d.2) := by
  unfold num
  rw [dr1_cons, tk1_cons]
  simp only [List.contains_cons, beq_self_eq_true, Bool.true_or, if_true]
  rw [plain_D (by simp)]
  simp
theorem num_plain (s : List UInt8) (h : ∀ t, s ≠ 45 :: t) : num s = (plainD s).map fun d => (false, d.1, d.2) := by
  unfold num
  have e : tk [45] 1 s = [] ∧ dr [45] 1 s = s := by
    cases s with
    | nil => exact ⟨tk1_nil _, dr1_nil _⟩
    | cons c t =>
      have hc : ¬ c = 45 := fun e => h t (by rw [e])
      have : ([45] : List UInt8).contains c = false := by simp [hc]
      rw [tk1_cons, dr1_cons, this]; simp
  rw [e.1, e.2, plain_D (Nat.le_refl _)]
  simp

/-- What may stand behind digits: nothing, or no digit first. -/
def NoD (r : List UInt8) : Prop := r = [] ∨ ∃ c t, r = c :: t ∧ isD c = false
theorem dg_app {ds r : List UInt8} (hd : ds.all isD = true) (hr : NoD r) : dg (ds ++ r) = ds ∧ ud (ds ++ r) = r := by
  induction ds with
  | nil =>
    rcases hr with rfl | ⟨c, t, rfl, hc⟩
    · exact ⟨rfl, rfl⟩
    · simp [dg, ud, hc]
  | cons a ds ih =>
    simp only [List.all_cons, Bool.and_eq_true] at hd
    obtain ⟨h1, h2⟩ := ih hd.2
    constructor
    · show List.takeWhile isD (a :: (ds ++ r)) = _
      rw [List.takeWhile_cons, if_pos hd.1]
      exact congrArg (List.cons a) h1
    · show List.dropWhile isD (a :: (ds ++ r)) = _
      rw [List.dropWhile_cons, if_pos hd.1]
      exact h2
/-- An exponent's text, or nothing. -/
def Ep (r : List UInt8) : Prop := r = [] ∨ ∃ c t, r = c :: t ∧ (c = 101 ∨ c = 69)
theorem Ep.noD {r : List UInt8} (h : Ep r) : NoD r := by
  rcases h with rfl | ⟨c, t, rfl, hc⟩
  · exact .inl rfl
  · exact .inr ⟨c, t, rfl, by rcases hc with rfl | rfl <;> decide⟩
theorem Ep.noDot {r : List UInt8} (h : Ep r) : tk [46] 1 r = [] ∧ dr [46] 1 r = r := by
  rcases h with rfl | ⟨c, t, rfl, hc⟩
  · exact ⟨tk1_nil _, dr1_nil _⟩
  · have : ([46] : List UInt8).contains c = false := by rcases hc with rfl | rfl <;> decide
    rw [tk1_cons, dr1_cons, this]; simp
theorem plainD_B {ds ep : List UInt8} (hd : ds.all isD = true) (hne : ds ≠ []) (hE : Ep ep) : plainD (ds ++ ep) = (expoD ep).map fun x => (ds, x) := by
  unfold plainD
  rw [(dg_app hd hE.noD).1, (dg_app hd hE.noD).2, hE.noDot.1, hE.noDot.2]
  simp [hne]
theorem plainD_C {ds ps ep : List UInt8} (hd : ds.all isD = true) (hne : ds ≠ []) (hp : ps.all isD = true) (hpe : ps ≠ []) (hE : Ep ep) :
    plainD (ds ++ 46 :: (ps ++ ep)) = (expoD ep).map fun x => (ds ++ ps, x - (ps.length : Int)) := by
  have hr : NoD (46 :: (ps ++ ep)) := .inr ⟨46, _, rfl, by decide⟩
  have e1 : tk [46] 1 (46 :: (ps ++ ep)) = [46] := by rw [tk1_cons]; rfl
  have e2 : dr [46] 1 (46 :: (ps ++ ep)) = ps ++ ep := by rw [dr1_cons]; rfl
  unfold plainD
  rw [(dg_app hd hr).1, (dg_app hd hr).2, e1, e2, (dg_app hp hE.noD).1, (dg_app hp hE.noD).2]
  simp [hne, hpe]
theorem expoD_nil : expoD [] = some 0 := by unfold expoD; rw [tk1_nil, dr1_nil]; rfl
theorem eE {c : UInt8} (hc : c = 101 ∨ c = 69) : ([101, 69] : List UInt8).contains c = true := by rcases hc with rfl | rfl <;> decide
theorem expoD_sign {c g : UInt8} {es : List UInt8} (hc : c = 101 ∨ c = 69) (hg : g = 43 ∨ g = 45) (hd : es.all isD = true) (hne : es ≠ []) : expoD (c :: g :: es) = some (sgnd [g] (pw es)) := by
  have hs : ([43, 45] : List UInt8).contains g = true := by rcases hg with rfl | rfl <;> decide
  have h := dg_app hd (r := []) (.inl rfl)
  rw [List.append_nil] at h
  unfold expoD
  rw [tk1_cons, dr1_cons, eE hc]
  simp only [if_true]
  rw [tk1_cons, dr1_cons, hs]
  simp only [if_true]
  rw [h.1, h.2]
  simp [hne]
theorem expoD_e {c : UInt8} {es : List UInt8} (hc : c = 101 ∨ c = 69) (hd : es.all isD = true) (hne : es ≠ []) : expoD (c :: es) = some (pw es) := by
  have h := dg_app hd (r := []) (.inl rfl)
  rw [List.append_nil] at h
  obtain ⟨a, t, rfl⟩ : ∃ a t, es = a :: t := by cases es with | nil => exact absurd rfl hne | cons a t => exact ⟨a, t, rfl⟩
  have ha : isD a = true := by simp only [List.all_cons, Bool.and_eq_true] at hd; exact hd.1
  have hs : ([43, 45] : List UInt8).contains a = false := by
    rw [isD_iff] at ha
    have h1 : ¬ a = 43 := by rintro rfl; simp at ha
    have h2 : ¬ a = 45 := by rintro rfl; simp at ha
    simp [h1, h2]
  unfold expoD
  rw [tk1_cons, dr1_cons, eE hc]
  simp only [if_true]
  rw [tk1_cons, dr1_cons, hs]
  simp only [Bool.false_eq_true, if_false]
  rw [h.1, h.2]
  simp [sgnd]

/-- A word with a sign. -/
def sgw (m : Bool) (v : Nat) : Nat := if m then v + 9223372036854775808 else v
theorem rv_of {s d : List UInt8} {m : Bool} {x : Int} (h : num s = some (m, d, x)) (hn : nanB (valB (tz d) x) = false) (hp : valB (tz d) x < 9223372036854775808) : rv s = sgw m (valB (tz d) x) := by
  unfold rv sgw
  rw [h]
  have hr : rg (valB (tz d) x) = valB (tz d) x := by unfold rg; omega
  simp [rvo, hn, hr]
theorem sgw_facts {m : Bool} {v : Nat} (hp : v < 9223372036854775808) : sgw m v < 18446744073709551616 ∧ rg (sgw m v) = v ∧ sg (sgw m v) = m := by
  unfold sgw rg sg
  cases m
  · simp only [Bool.false_eq_true, if_false, decide_eq_false_iff_not]; omega
  · simp only [if_true, decide_eq_true_eq]; omega
theorem sgw_nan {m : Bool} {v : Nat} (hp : v < 9223372036854775808) : nanB (sgw m v) = nanB v := by
  unfold nanB
  exact decide_eq_decide.2 (by unfold isN; rw [(sgw_facts hp).2.1, show rg v = v by unfold rg; omega])
theorem sgw_sort {m : Bool} {v : Nat} (hp : v < 9223372036854775808) : sortv (sgw m v) = sortv v := by
  unfold sortv
  rw [sgw_nan hp, (sgw_facts hp).2.1, show rg v = v by unfold rg; omega]
theorem sgw_neg {m : Bool} {v : Nat} (hp : v < 9223372036854775808) (hn : nanB v = false) : negv (sgw m v) = m := by
  unfold negv
  rw [sgw_nan hp, hn, (sgw_facts hp).2.2]
  simp
theorem num_signed (m : Bool) (t : List UInt8) (h : ∀ u, t ≠ 45 :: u) : num ((if m then [45] else []) ++ t) = (plainD t).map fun d => (m, d.1, d.2) := by
  cases m
  · exact num_plain t h
  · exact num_minus t
theorem not_minus {ds r : List UInt8} (hd : ds.all isD = true) (hne : ds ≠ []) : ∀ u, ds ++ r ≠ 45 :: u := by
  intro u e
  cases ds with
  | nil => exact hne rfl
  | cons a ds =>
    rw [List.cons_append] at e
    simp only [List.all_cons, Bool.and_eq_true] at hd
    rw [(List.cons.inj e).1] at hd
    exact absurd hd.1 (by decide)
theorem zeros_all (n : Nat) : (List.replicate n (48 : UInt8)).all isD = true := by
  rw [List.all_eq_true]; intro x hx; rw [List.eq_of_mem_replicate hx]; decide
theorem tz_zeros (n : Nat) : tz (List.replicate n 48) = [] := by
  unfold tz
  induction n with
  | zero => rfl
  | succ n ih => rw [List.replicate_succ, List.dropWhile_cons, if_pos (by decide)]; exact ih
theorem valB_nil (x : Int) : valB [] x = 0 := by simp [valB]
end Go.Proofs.YtocgknhpecobfaaDoor
