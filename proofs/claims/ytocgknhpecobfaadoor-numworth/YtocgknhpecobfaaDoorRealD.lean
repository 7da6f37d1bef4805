/- Contracts of taking, read, Real. -/
import Derived.Test.YtocgknhpecobfaaDoorRealC
namespace Go.Proofs.YtocgknhpecobfaaDoor
open Go.RowKit

/-- The string of a list's bytes. -/
def mkb (l : List UInt8) : ByteArray := ⟨l.toArray⟩
theorem mkb_data (l : List UInt8) : (mkb l).data.toList = l := rfl
theorem mkb_size (l : List UInt8) : (mkb l).size = l.length := by simp [mkb, ByteArray.size]
theorem mkb_toList (l : List UInt8) : (mkb l).toList = l := by rw [Lib.toList_data]; rfl
theorem mkb_of (s : ByteArray) : mkb s.data.toList = s := rfl
theorem mkb_extract (l : List UInt8) (a b : Nat) : (mkb l).extract a b = mkb ((l.drop a).take (b - a)) := Lib.extract_mk l a b
theorem mkb_add (a b : List UInt8) : mkb a ++ mkb b = mkb (a ++ b) := by
  apply ByteArray.ext
  simp [mkb]

def figs : List UInt8 := [48, 49, 50, 51, 52, 53, 54, 55, 56, 57]
def tk (S : List UInt8) (m : Nat) (l : List UInt8) : List UInt8 := l.take (cnt S m l)
def dr (S : List UInt8) (m : Nat) (l : List UInt8) : List UInt8 := l.drop (cnt S m l)
theorem dr_len (S : List UInt8) (m : Nat) (l : List UInt8) : (dr S m l).length ≤ l.length := by simp [dr]
theorem tk_len (S : List UInt8) (m : Nat) (l : List UInt8) : (tk S m l).length ≤ l.length := by simp [tk]; omega

set_option maxHeartbeats 400000 in
theorem take_rd (set : ByteArray) (l : List UInt8) (most : Nat) (w0 : World) (b0 b1 b2 : Nat) (w : World) (hl : l.length ≤ 1000000000) (hmost : most ≤ 1000000000) (hR : Rd w0 b0 b1 b2 (mkb l) w) :
    Calls Tryd.prog 37 #[.string set, .int .i64 most, .pointer (some ⟨b2, 0, none⟩)] w fun e w' =>
      e = .returned (.string (mkb (tk set.data.toList most l))) ∧ Rd w0 b0 b1 b2 (mkb (dr set.data.toList most l)) w' := by
  refine (take_any set (mkb l) most b1 b2 w (by rw [mkb_size]; exact hl) hmost hR.c2 hR.c1 hR.f1).mono ?_
  rintro e w' ⟨rfl, rfl⟩
  rw [mkb_data, mkb_extract, mkb_extract, mkb_size]
  have e1 : List.take (cnt set.data.toList most l - 0) (List.drop 0 l) = tk set.data.toList most l := by simp [tk]
  have e2 : List.take (l.length - cnt set.data.toList most l) (List.drop (cnt set.data.toList most l) l) = dr set.data.toList most l := by
    rw [List.take_of_length_le (by simp)]; rfl
  rw [e1, e2]
  exact ⟨rfl, hR.next _⟩

set_option maxHeartbeats 400000 in
theorem taking_any (a : Addr) (w : World) :
    Calls Tryd.prog 27 #[.pointer (some a)] w fun e w' => e = .returned (.func (.func 37) #[] #[.pointer (some ⟨w.heap.size, 0, none⟩)]) ∧ w' = w.alloc (.cells #[.pointer (some a)] 48) := by
  have hmf : ∀ (fn : Fn) (first cap : Array Value) (w : World), (Instr.makeFunc fn first cap).run Tryd.prog w = .ok (.func fn first cap) w := fun _ _ _ _ => rfl
  go_enter Tryd.func27, Tryd.ntmps27
  go_wp2
  go_ret
  exact ⟨rfl, rfl⟩

theorem rd_start (w : World) (r : ByteArray) : Rd w w.heap.size (w.heap.size + 1) (w.heap.size + 1 + 1) r
    ((((w.alloc (.cells #[.bool false, .string ⟨#[]⟩, .int .i64 0] 38)).alloc (.cells #[.string r] 9))).alloc (.cells #[.pointer (some ⟨w.heap.size + 1, 0, none⟩)] 48)) := by
  refine ⟨?_, ?_, ?_, ?_, ?_, ?_, ?_, ?_, ?_, by omega, by omega, by omega, by omega, bel_alloc (bel_alloc (bel_alloc (Below.refl _ _) _) _) _⟩ <;> simp [go_sem]

/-- What stands behind the digits: the exponent. -/
def expo (L : Nat) (l : List UInt8) : Option Int :=
  if tk [101, 69] 1 l = [] then (if dr [101, 69] 1 l = [] then some 0 else none)
  else if tk figs L (dr [43, 45] 1 (dr [101, 69] 1 l)) = [] then none
  else if dr figs L (dr [43, 45] 1 (dr [101, 69] 1 l)) = [] then some (sgnd (tk [43, 45] 1 (dr [101, 69] 1 l)) (pw (tk figs L (dr [43, 45] 1 (dr [101, 69] 1 l))))) else none
/-- Digits and exponent of a number's text without a minus. -/
def plainN (L : Nat) (l : List UInt8) : Option (List UInt8 × Int) :=
  if tk figs L l = [] then none
  else if tk [46] 1 (dr figs L l) = [] then (expo L (dr [46] 1 (dr figs L l))).map fun x => (tk figs L l ++ [], x - ((([] : List UInt8).length : Nat) : Int))
  else if tk figs L (dr [46] 1 (dr figs L l)) = [] then none
  else (expo L (dr figs L (dr [46] 1 (dr figs L l)))).map fun x => (tk figs L l ++ tk figs L (dr [46] 1 (dr figs L l)), x - ((tk figs L (dr [46] 1 (dr figs L l))).length : Int))
/-- What a number's text tells. -/
def num (s : List UInt8) : Option (Bool × List UInt8 × Int) := (plainN s.length (dr [45] 1 s)).map fun d => (!(tk [45] 1 s).isEmpty, d.1, d.2)
/-- Without leading zeros. -/
def tz (l : List UInt8) : List UInt8 := l.dropWhile (· == 48)
def rdv : Option (Bool × List UInt8 × Int) → Value
  | none => .tuple #[.agg #[.bool false, .string ⟨#[]⟩, .int .i64 0], .bool false]
  | some (m, d, x) => .tuple #[.agg #[.bool m, .string (mkb (tz d)), .int .i64 x], .bool true]

set_option maxHeartbeats 400000 in
theorem trim_l (l : List UInt8) (w : World) :
    Calls Tryd.prog 29 #[.string (mkb l), .string ⟨#[48]⟩] w fun e w' => e = .returned (.string (mkb (tz l))) ∧ w = w' := trim_any (mkb l) w

theorem cnt_all (S : List UInt8) (m : Nat) (l : List UInt8) : (tk S m l).all (fun c => S.contains c) = true := by
  rw [List.all_eq_true]
  intro x hx
  unfold tk at hx
  obtain ⟨i, hi, rfl⟩ := List.getElem_of_mem hx
  rw [List.length_take] at hi
  obtain ⟨_, h1, h2⟩ := cnt_lt (S := S) (most := m) (l := l) (n := i) (by omega)
  rw [List.getElem_take]
  exact h2
theorem figs_isD (c : UInt8) : figs.contains c = isD c := by
  have h : ∀ n, n < 256 → figs.contains (UInt8.ofNat n) = isD (UInt8.ofNat n) := by decide +kernel
  have := h c.toNat c.toNat_lt
  simpa using this
theorem digs_all (m : Nat) (l : List UInt8) : (tk figs m l).all isD = true := by
  have := cnt_all figs m l
  simpa only [figs_isD] using this
theorem sgnd_bd (g : List UInt8) {n : Nat} (h : n ≤ 1000000) : -1000000 ≤ sgnd g n ∧ sgnd g n ≤ 1000000 := by
  unfold sgnd; split <;> omega
end Go.Proofs.YtocgknhpecobfaaDoor
