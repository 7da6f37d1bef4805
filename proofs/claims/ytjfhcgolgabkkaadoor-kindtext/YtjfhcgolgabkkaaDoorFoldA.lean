/- Contracts of package fold's functions: stands, next, Raw. -/
import Derived.Test.YtjfhcgolgabkkaaDoorFoldN
import Derived.Test.YtjfhcgolgabkkaaDoorUtfR
import Derived.Test.YtjfhcgolgabkkaaDoorBytes
import Derived.IntWalk
import Derived.WalkMore
import Derived.Lib.AppendStr
import Derived.OneCell
import Derived.OwnWalk
import Derived.Deep.LoopGhost
import Derived.Laws.Rows
namespace Go.Proofs.YtjfhcgolgabkkaaDoor.Fo
open Go.RowKit
set_option linter.unusedVariables false

theorem ext_drop (s : ByteArray) (k : Nat) : s.extract k s.size = mkb (s.data.toList.drop k) := by
  rw [← mkb_of (s.extract k s.size), Lib.extract_data, List.take_of_length_le (by simp)]
theorem ext_mkb (s : ByteArray) (k n : Nat) : s.extract k (k + n) = mkb ((s.data.toList.drop k).take n) := by
  rw [← mkb_of (s.extract k (k + n)), Lib.extract_data, Nat.add_sub_cancel_left]
theorem ext_mkb' (s : ByteArray) (k m : Nat) : s.extract k m = mkb ((s.data.toList.drop k).take (m - k)) := by
  rw [← mkb_of (s.extract k m), Lib.extract_data]

set_option maxHeartbeats 400000 in
theorem stands_any (s : ByteArray) (i : Int) (p : ByteArray) (w : World) :
    Calls Tryd.prog 71 #[.string s, .int .i64 i, .string p] w fun e w' => e = .returned (.bool (stB s.data.toList i p.data.toList)) ∧ w = w' := by
  have hsz : s.data.toList.length = s.size := (Lib.size_eq s).symm
  by_cases h0 : 0 ≤ i
  · obtain ⟨k, rfl⟩ := Int.eq_ofNat_of_zero_le h0
    by_cases h1 : k ≤ s.size
    · rw [stB_at (by omega)]
      have HX := Lib.hid (show (s.data.toList.drop k).take (s.size - k) = s.data.toList.drop k from List.take_of_length_le (by rw [List.length_drop]; omega))
      clear hsz
      have d0 : decide ((0 : Int) ≤ (k : Int)) = true := by simp
      have d1 : decide ((k : Int) ≤ (s.size : Int)) = true := by simp [h1]
      go_enter Tryd.func71, Tryd.ntmps71
      go_wp2_with fail
      (with_reducible refine (hp_any _ _ _).mono ?_)
      rintro e w' ⟨rfl, rfl⟩
      go_wp2
      go_ret
      refine ⟨?_, rfl⟩
      rw [HX.out]; rfl
    · rw [stB_out (.inr (by omega))]
      clear hsz
      have d0 : decide ((0 : Int) ≤ (k : Int)) = true := by simp
      have d1 : decide ((k : Int) ≤ (s.size : Int)) = false := by simp; omega
      go_enter Tryd.func71, Tryd.ntmps71
      go_wp2
      go_ret
      exact ⟨rfl, rfl⟩
  · rw [stB_out (.inl (by omega))]
    clear hsz
    have d0 : decide ((0 : Int) ≤ i) = false := by simp; omega
    go_enter Tryd.func71, Tryd.ntmps71
    go_wp2
    go_ret
    exact ⟨rfl, rfl⟩
theorem stands_b {s : ByteArray} {i : Int} {p : ByteArray} {b : Bool} (h : stB s.data.toList i p.data.toList = b) (w : World) :
    Calls Tryd.prog 71 #[.string s, .int .i64 i, .string p] w fun e w' => e = .returned (.bool b) ∧ w = w' := by rw [← h]; exact stands_any s i p w
theorem stands_q {s : ByteArray} {i : Int} {b : Bool} (h : stB s.data.toList i q3 = b) (w : World) :
    Calls Tryd.prog 71 #[.string s, .int .i64 i, .string ⟨#[34, 34, 34]⟩] w fun e w' => e = .returned (.bool b) ∧ w = w' := stands_b (p := ⟨#[34, 34, 34]⟩) h w
theorem stands_bq {s : ByteArray} {i : Int} {b : Bool} (h : stB s.data.toList i b3 = b) (w : World) :
    Calls Tryd.prog 71 #[.string s, .int .i64 i, .string ⟨#[92, 34, 34, 34]⟩] w fun e w' => e = .returned (.bool b) ∧ w = w' := stands_b (p := ⟨#[92, 34, 34, 34]⟩) h w

set_option maxHeartbeats 400000 in
theorem fnext_b {s : ByteArray} {k : Nat} (hk : k ≤ s.size) (h : b3.isPrefixOf (s.data.toList.drop k) = true) (w : World) :
    Calls Tryd.prog 72 #[.string s, .int .i64 k] w fun e w' => e = .returned (.tuple #[.string (mkb q3), .int .i64 4]) ∧ Below w.heap.size w w' := by
  have r1 := stands_bq (s := s) (i := k) (b := true) (by rw [stB_at (by rw [← Lib.size_eq]; exact hk)]; exact h)
  clear h
  go_enter Tryd.func72, Tryd.ntmps72
  go_wp2_with fail
  (with_reducible refine (r1 _).mono ?_)
  rintro e w' ⟨rfl, rfl⟩
  go_wp2
  go_ret2
  exact ⟨rfl, Below.refl _ _⟩
set_option maxHeartbeats 400000 in
theorem fnext_c {s : ByteArray} {k : Nat} (hs : s.size ≤ 1000000000) (hk : k ≤ s.size) (h : b3.isPrefixOf (s.data.toList.drop k) = false) (w : World) :
    Calls Tryd.prog 72 #[.string s, .int .i64 k] w fun e w' => e = .returned (.tuple #[.string (mkb ((s.data.toList.drop k).take (nxt (s.data.toList.drop k)).2)), .int .i64 ((nxt (s.data.toList.drop k)).2 : Nat)]) ∧ Below w.heap.size w w' := by
  have r1 := stands_bq (s := s) (i := k) (b := false) (by rw [stB_at (by rw [← Lib.size_eq]; exact hk)]; exact h)
  obtain ⟨m, hm, hm2, hm3⟩ := nxtN_bd s k hk
  rw [hm2]
  have r2 : ∀ w : World, Calls Tryd.prog 33 #[.string s, .int .i64 k] w fun e w' => e = .returned (.tuple #[.int .i64 (nxtC s k), .int .i64 (m : Int)]) ∧ Grew w w' := by
    intro w; rw [← hm]; exact next_any s k w
  have HE := Lib.hid (ext_mkb s k m)
  obtain ⟨c, hc⟩ : ∃ c, nxtC s k = c := ⟨_, rfl⟩
  rw [hc] at r2
  clear h hm hm2 hc
  go_enter Tryd.func72, Tryd.ntmps72
  go_wp2_with fail
  (with_reducible refine (r1 _).mono ?_)
  rintro e w' ⟨rfl, rfl⟩
  go_wp2_with fail
  (with_reducible refine (r2 _).mono ?_)
  rintro e w1 ⟨rfl, hg⟩
  have hb := hg.below
  clear hg
  go_wp2
  go_ret2
  refine ⟨?_, hb⟩
  rw [← HE.out]
  rfl
theorem fnext_n {s : ByteArray} {k : Nat} (hs : s.size ≤ 1000000000) (hk : k ≤ s.size) (h : pcR (s.data.toList.drop k) = none) (w : World) :
    Calls Tryd.prog 72 #[.string s, .int .i64 k] w fun e w' => e = .returned (.tuple #[.string (mkb []), .int .i64 0]) ∧ Below w.heap.size w w' := by
  cases hb : b3.isPrefixOf (s.data.toList.drop k)
  · by_cases h0 : (nxt (s.data.toList.drop k)).2 = 0
    · have := fnext_c hs hk hb w
      rw [h0] at this; exact this
    · rw [pcR_c hb h0] at h; cases h
  · rw [pcR_b hb] at h; cases h
theorem fnext_s {s : ByteArray} {k n : Nat} {t : List UInt8} (hs : s.size ≤ 1000000000) (hk : k ≤ s.size) (h : pcR (s.data.toList.drop k) = some (t, n)) (w : World) :
    Calls Tryd.prog 72 #[.string s, .int .i64 k] w fun e w' => e = .returned (.tuple #[.string (mkb t), .int .i64 (n : Nat)]) ∧ Below w.heap.size w w' := by
  cases hb : b3.isPrefixOf (s.data.toList.drop k)
  · by_cases h0 : (nxt (s.data.toList.drop k)).2 = 0
    · rw [pcR_n hb h0] at h; cases h
    · rw [pcR_c hb h0] at h; cases h; exact fnext_c hs hk hb w
  · rw [pcR_b hb] at h; cases h; exact fnext_b hk hb w

/-! ### Rows of bytes -/
def bc (l : List UInt8) : List Value := l.map fun b => Value.int .u8 b.toNat
theorem bc_app (a : List UInt8) (p : ByteArray) : bc a ++ Lib.strCells p = bc (a ++ p.data.toList) := by simp [bc, Lib.strCells]
theorem bc_len (a : List UInt8) : (bc a).length = a.length := by simp [bc]
theorem infoB : (Tryd.prog.info? 5).map (fun i => (i.zero, i.size, i.bytes)) = some (some (.int .u8 0), 1, 1) := by kernel_rfl
theorem conv_own {w : World} {base : Nat} {v : Value} {acc : List UInt8} (h : w.ownsRow base 5 1 v acc.length (bc acc)) :
    (convert 83 9 v).run Tryd.prog w = .ok (.string (mkb acc)) w := by
  rcases h.2 with ⟨rfl, h0⟩ | ⟨g, cap, cur, rfl, r⟩
  · rw [run_convert_bytes_string _ _ _ 5 _ _ _ Tryd.underlying83 Tryd.underlying5 Tryd.underlying9]
    obtain rfl : acc = [] := List.eq_nil_of_length_eq_zero h0
    simp [Conv.bytesToString, mkb]
    rfl
  · rw [run_convert_bytes_string _ _ _ 5 _ _ _ Tryd.underlying83 Tryd.underlying5 Tryd.underlying9]
    have hb : bc acc = (acc.map fun b => (b.toNat : Int)).map (Value.int .u8) := by simp [bc]
    have hl := run_loadCells_list (P := Tryd.prog) w ⟨g, 0, none⟩ (bc acc) (fun j v hj => h.cells (g := g) rfl j v hj)
    rw [bc_len, hb] at hl
    rw [run_bytesToString _ _ _ _ _ hl, push_bytes]
    rw [show (ByteArray.empty).data = #[] from rfl, Array.empty_append, List.map_map]
    have e : acc.map ((fun n : Int => UInt8.ofNat n.toNat) ∘ fun b : UInt8 => (b.toNat : Int)) = acc := by
      conv => rhs; rw [← List.map_id acc]
      apply List.map_congr_left; intro b _; simp
    rw [e]; rfl

/-- How Raw ends. -/
def rawE (r : Rw) (i : Int) : Ending := .returned (.tuple #[.string (mkb r.v), .int .i64 (i + (r.n : Int)), .bool r.b])
/-- j has been come to, acc is told. -/
def Rel (l : List UInt8) (k : Nat) (acc : List UInt8) (j : Nat) : Prop := k + 3 ≤ j ∧ acc.length ≤ j ∧ rwB (l.drop (k + 3)) = cmb acc (j - (k + 3)) (rwB (l.drop j))
theorem cmb_nil (r : Rw) (h : r.b = false → r.v = []) : cmb [] 0 r = r := by
  cases r with | mk v n b =>
  cases b
  · have := h rfl; simp at this; subst this; simp [cmb]
  · simp [cmb]
theorem Rel.start (l : List UInt8) (k : Nat) : Rel l k [] (k + 3) := ⟨Nat.le_refl _, by simp, by rw [Nat.sub_self, cmb_nil _ (rwB_bd _).2.2.2]⟩
theorem Rel.next {l : List UInt8} {k : Nat} {acc t : List UInt8} {j n : Nat} (h : Rel l k acc j) (hq : q3.isPrefixOf (l.drop j) = false) (hp : pcR (l.drop j) = some (t, n)) : Rel l k (acc ++ t) (j + n) := by
  obtain ⟨h1, h2, h3⟩ := h
  have hb := pcR_bd hp
  refine ⟨by omega, by simp; omega, ?_⟩
  rw [h3, rwB_s hq hp, cmb_cmb, List.drop_drop]
  congr 1; omega
theorem Rel.yes {l : List UInt8} {k : Nat} {acc : List UInt8} {j : Nat} (h : Rel l k acc j) (h0 : stB l k q3 = true) (hq : q3.isPrefixOf (l.drop j) = true) : rawA l k = ⟨acc, j + 3 - k, true⟩ := by
  obtain ⟨h1, h2, h3⟩ := h
  rw [rawA_at h0, h3, rwB_q hq]
  simp [cmb]; omega
theorem Rel.no {l : List UInt8} {k : Nat} {acc : List UInt8} {j : Nat} (h : Rel l k acc j) (h0 : stB l k q3 = true) (hq : q3.isPrefixOf (l.drop j) = false) (hp : pcR (l.drop j) = none) : rawA l k = ⟨[], j - k, false⟩ := by
  obtain ⟨h1, h2, h3⟩ := h
  rw [rawA_at h0, h3, rwB_n hq hp]
  simp [cmb]; omega
theorem own_slice {w : World} {base : Nat} {e : TypeId} {size n : Nat} {v : Value} {xs : List Value} (h : w.ownsRow base e size v n xs) : ∃ A m c, v = .slice A m c := by
  rcases h.2 with ⟨rfl, _⟩ | ⟨g', cap, cur, rfl, _⟩
  · exact ⟨_, _, _, rfl⟩
  · exact ⟨_, _, _, rfl⟩
theorem own_below {w w' : World} {base : Nat} {e : TypeId} {size n : Nat} {v : Value} {xs : List Value} (h : w.ownsRow base e size v n xs) (b : Below w.heap.size w w') : w'.ownsRow base e size v n xs :=
  h.kept (row := none) ⟨b.os, b.tape, b.output, b.size, fun k hk _ => b.block k hk⟩ (by cases hv : v.ownBlock <;> simp)

set_option maxHeartbeats 1000000 in
theorem raw_any (s : ByteArray) (i : Int) (w : World) (hs : s.size ≤ 100000000) :
    Calls Tryd.prog 63 #[.string s, .int .i64 i] w fun e w' => e = rawE (rawA s.data.toList i) i ∧ Below w.heap.size w w' := by
  have hsz : s.data.toList.length = s.size := (Lib.size_eq s).symm
  cases h1 : stB s.data.toList i q3
  · rw [rawA_no h1]
    have r1 := stands_q h1
    clear h1 hsz
    go_enter Tryd.func63, Tryd.ntmps63
    go_wp2_with fail
    (with_reducible refine (r1 _).mono ?_)
    rintro e w' ⟨rfl, rfl⟩
    go_wp2
    go_ret3
    exact ⟨by simp [rawE, mkb], Below.refl _ _⟩
  have hin := stB_in h1
  rw [q3_len] at hin
  obtain ⟨k, rfl⟩ := Int.eq_ofNat_of_zero_le hin.1
  have r1 := stands_q h1
  have hk : k + 3 ≤ s.size := by omega
  have HH := Lib.hid h1
  have HZ := Lib.hid hsz
  obtain ⟨i0, hi, hz0, hz1, hz2⟩ := info_parts infoB
  have HI := Lib.hid hi
  have HI0 := Lib.hid hz0
  have HI1 := Lib.hid hz1
  have HI2 := Lib.hid hz2
  clear h1 hin hsz hi hz0 hz1 hz2
  go_enter Tryd.func63, Tryd.ntmps63
  go_wp2_with fail
  (with_reducible refine (r1 _).mono ?_)
  rintro e w' ⟨rfl, rfl⟩
  clear r1
  go_wp2_with fail
  go_loopw [7, 8] (fun t a wr => ∃ (j : Nat) (acc : List UInt8), j ≤ s.size ∧ a = .int .i64 j ∧ Rel s.data.toList k acc j ∧ wr.ownsRow w.heap.size 5 1 t acc.length (bc acc) ∧ Below w.heap.size w wr) (fun _ a _ => s.size - (intOf a).toNat)
  case atStart => exact ⟨k + 3, [], hk, by simp, Rel.start _ _, World.ownsRow_nil _ _ _ _, Below.refl _ _⟩
  case round =>
    obtain ⟨j, acc, hj, rfl, hrl, hown, hB⟩ := hrel
    have hal : acc.length ≤ j := hrl.2.1
    have hjk : k + 3 ≤ j := hrl.1
    have HL := Lib.hid hrl
    have HO := Lib.hid hown
    clear hrl
    cases h34 : q3.isPrefixOf (s.data.toList.drop j)
    · have r1 := stands_q (s := s) (i := j) (b := false) (by rw [stB_at (by rw [HZ.out]; exact hj)]; exact h34)
      cases hp : pcR (s.data.toList.drop j) with
      | none =>
        have r2 := fnext_n (by omega) hj hp
        have HW := Lib.hid (HL.out.no HH.out h34 hp)
        clear h34 hp hown
        go_wp2_with fail
        (with_reducible refine (r1 _).mono ?_)
        rintro e w' ⟨rfl, rfl⟩
        go_wp2_with fail
        (with_reducible refine (r2 _).mono ?_)
        rintro e w1 ⟨rfl, hb1⟩
        go_wp2
        go_ret3
        refine ⟨?_, bel_trans hB hb1⟩
        rw [HW.out]; unfold rawE
        rw [show (k : Int) + ((j - k : Nat) : Int) = (j : Int) by omega]
        rfl
      | some q =>
        obtain ⟨t, n⟩ := q
        have r2 := fnext_s (by omega) hj hp
        have hbd := pcR_bd hp
        rw [List.length_drop, HZ.out] at hbd
        have HX := Lib.hid (HL.out.next h34 hp)
        have b1 := hbd.1
        have b2 := hbd.2.1
        have b3' := hbd.2.2
        have hz : (mkb t).size = t.length := mkb_size t
        have HT := Lib.hid hz
        have n0 : ((n : Int) == 0) = false := by simp; omega
        clear h34 hp hbd hown hz
        go_wp2_with fail
        (with_reducible refine (r1 _).mono ?_)
        rintro e w' ⟨rfl, rfl⟩
        go_wp2_with fail
        (with_reducible refine (r2 _).mono ?_)
        rintro e w1 ⟨rfl, hb1⟩
        have hB1 := bel_trans hB hb1
        have hown1 := own_below HO.out hb1
        have hsz1 := hB1.size
        go_wp2_with (at_builtin; refine Lib.wpList_append_own_string _ rfl _ _ 83 9 rfl w.heap.size 5 i0 Tryd.underlying83 Tryd.underlying9 HI.out HI0.out HI1.out HI2.out _ _ _ rfl hown1 (mkb t) rfl (by unfold maxLen; rw [HT.out]; omega) (by rw [HT.out]; omega) hsz1 ?_)
        intro v' w2 ho hg _
        have hB2 : Below w.heap.size w w2 := hB1.grown hg hB1.size (fun k hk => (hown1.lt k hk).1)
        rw [bc_app, HT.out, mkb_data] at ho
        have HO2 := Lib.hid ho
        clear ho hown1
        go_wp2
        go_roundw
        case rel => exact ⟨j + n, acc ++ t, by omega, by go_num, HX.out, by rw [List.length_append]; exact HO2.out, hB2⟩
        case measure => simp [intOf]; omega
    · have r1 := stands_q (s := s) (i := j) (b := true) (by rw [stB_at (by rw [HZ.out]; exact hj)]; exact h34)
      have HW := Lib.hid (HL.out.yes HH.out h34)
      have hcv := conv_own hown
      clear h34 hown
      go_wp2_with fail
      (with_reducible refine (r1 _).mono ?_)
      rintro e w' ⟨rfl, rfl⟩
      go_wp2
      go_ret3
      refine ⟨?_, hB⟩
      rw [HW.out]; unfold rawE
      rw [show (k : Int) + ((j + 3 - k : Nat) : Int) = (j : Int) + 3 by omega]
      rfl
end Go.Proofs.YtjfhcgolgabkkaaDoor.Fo
