/- Strings made of bytes; digits that are all 0. -/
import Derived.Test.YtocgknhpecobfaaDoorRealH
import Derived.Laws.IdiomStrings
namespace Go.Proofs.YtocgknhpecobfaaDoor
open Go.RowKit

theorem sadd (a b : List UInt8) (h : a.length + b.length ≤ 1000000) (w : World) : (Op.stringOp .add (mkb a) (mkb b)).run Tryd.prog w = .ok (.string (mkb (a ++ b))) w := by
  rw [← mkb_add]; exact run_string_add_sum w _ _ (by rw [mkb_size, mkb_size]; omega)

/-- A sum of strings, under a name of its own. -/
theorem sadd' {A B : ByteArray} {a b : List UInt8} (hA : A = mkb a) (hB : B = mkb b) (h : a.length + b.length ≤ 1000000) : ∃ R, R = mkb (a ++ b) ∧ ∀ w, (Op.stringOp .add A B).run Tryd.prog w = .ok (.string R) w :=
  ⟨mkb (a ++ b), rfl, fun w => by rw [hA, hB]; exact sadd a b h w⟩
theorem real_b {A : ByteArray} {l : List UInt8} {v : Nat} (hA : A = mkb l) (hv : rv l = v) (hl : l.length ≤ 100000) (w : World) :
    Calls Tryd.prog 8 #[.string A] w fun e w' => e = .returned (.float .f64 v) ∧ Below w.heap.size w w' := by
  rw [hA, ← hv]; exact real_any l w hl

theorem z_tells {L : List UInt8} {d : List UInt8} {x : Int} (hp : plainD L = some (d, x)) (hz : tz d = []) (hm : ∀ u, L ≠ 45 :: u) (m : Bool) : rv ((if m then [45] else []) ++ L) = sgw m 0 := by
  have h : num ((if m then [45] else []) ++ L) = some (m, d, x) := by rw [num_signed m L hm, hp]; rfl
  have e : valB (tz d) x = 0 := by rw [hz, valB_nil]
  rw [rv_of h (by rw [e]; decide) (by rw [e]; decide), e]

theorem zadd (n m : Nat) : List.replicate n (48 : UInt8) ++ List.replicate m 48 = List.replicate (n + m) 48 := List.replicate_append_replicate
theorem rep_ne {n : Nat} (h : 1 ≤ n) : List.replicate n (48 : UInt8) ≠ [] := by
  intro e; have := congrArg List.length e; simp at this; omega
theorem z1 {n : Nat} (h : 1 ≤ n) (s : Bool) : rv ((if s then [45] else []) ++ List.replicate n 48) = sgw s 0 := by
  have hp := plainD_B (zeros_all n) (rep_ne h) (ep := []) (.inl rfl)
  rw [List.append_nil, expoD_nil] at hp
  have hm := not_minus (r := []) (zeros_all n) (rep_ne h)
  rw [List.append_nil] at hm
  exact z_tells hp (tz_zeros n) hm s
theorem z2 {n m : Nat} (h : 1 ≤ n) (hm : 1 ≤ m) (s : Bool) : rv ((if s then [45] else []) ++ (List.replicate n 48 ++ [46] ++ List.replicate m 48)) = sgw s 0 := by
  have hp := plainD_C (zeros_all n) (rep_ne h) (zeros_all m) (rep_ne hm) (ep := []) (.inl rfl)
  rw [List.append_nil, expoD_nil] at hp
  have e : List.replicate n (48 : UInt8) ++ [46] ++ List.replicate m 48 = List.replicate n 48 ++ 46 :: List.replicate m 48 := by simp
  rw [e]
  exact z_tells hp (by rw [zadd]; exact tz_zeros _) (not_minus (zeros_all n) (rep_ne h)) s
theorem z3 {n : Nat} {es : List UInt8} (h : 1 ≤ n) (hd : es.all isD = true) (hne : es ≠ []) (s : Bool) : rv ((if s then [45] else []) ++ (List.replicate n 48 ++ [101] ++ es)) = sgw s 0 := by
  have hp := plainD_B (zeros_all n) (rep_ne h) (ep := 101 :: es) (.inr ⟨101, es, rfl, .inl rfl⟩)
  rw [expoD_e (.inl rfl) hd hne] at hp
  have e : List.replicate n (48 : UInt8) ++ [101] ++ es = List.replicate n 48 ++ 101 :: es := by simp
  rw [e]
  exact z_tells hp (tz_zeros n) (not_minus (zeros_all n) (rep_ne h)) s
theorem z4 {n m : Nat} {es : List UInt8} (h : 1 ≤ n) (hm : 1 ≤ m) (hd : es.all isD = true) (hne : es ≠ []) (s : Bool) : rv ((if s then [45] else []) ++ (List.replicate n 48 ++ [46] ++ List.replicate m 48 ++ [101] ++ es)) = sgw s 0 := by
  have hp := plainD_C (zeros_all n) (rep_ne h) (zeros_all m) (rep_ne hm) (ep := 101 :: es) (.inr ⟨101, es, rfl, .inl rfl⟩)
  rw [expoD_e (.inl rfl) hd hne] at hp
  have e : List.replicate n (48 : UInt8) ++ [46] ++ List.replicate m 48 ++ [101] ++ es = List.replicate n 48 ++ 46 :: (List.replicate m 48 ++ 101 :: es) := by simp
  rw [e]
  exact z_tells hp (by rw [zadd]; exact tz_zeros _) (not_minus (zeros_all n) (rep_ne h)) s

theorem zs20 (k : Nat) (h : k ≤ 20) : (⟨#[48, 48, 48, 48, 48, 48, 48, 48, 48, 48, 48, 48, 48, 48, 48, 48, 48, 48, 48, 48]⟩ : ByteArray).extract 0 k = mkb (List.replicate k 48) := by
  have e : (⟨#[48, 48, 48, 48, 48, 48, 48, 48, 48, 48, 48, 48, 48, 48, 48, 48, 48, 48, 48, 48]⟩ : ByteArray) = mkb (List.replicate 20 48) := rfl
  rw [e, mkb_extract, List.drop_zero, List.take_replicate]
  congr 2
  omega


end Go.Proofs.YtocgknhpecobfaaDoor
