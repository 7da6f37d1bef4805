/- Package rule: its table; Count, Vars, symbol, ofKind, Of. -/
import Derived.Test.YtpcijjdlppoblaaGreatDoorSliI
import Derived.Test.YtpcijjdlppoblaaGreatDoorTokR
import Derived.RangeFuncKeeps
import Derived.RangeFuncOwn
import Derived.Deep.LoopGhost
import Derived.OneCell
import Derived.Deep.AppendLies
import Derived.Deep.RegionLaw
namespace Go.Proofs.YtpcijjdlppoblaaGreatDoor
open Go.RowKit
set_option linter.unusedVariables false
set_option maxRecDepth 100000

/-- The table holds the rules' codes. -/
def TabR (w : World) : Prop := 2 < w.heap.size ∧ ∀ c, c < 90 → w.cell? ⟨2, c, none⟩ = some (.string (mkb (codR c)))
theorem TabR.below {w w' : World} (h : TabR w) (b : Below w.heap.size w w') : TabR w' :=
  ⟨Nat.lt_of_lt_of_le h.1 b.size, fun c hc => (b.cell (p := ⟨2, c, none⟩) h.1).trans (h.2 c hc)⟩

set_option maxHeartbeats 400000 in
theorem symbol_any {c k n : Int} (h0 : 0 ≤ c) (h1 : c < 256) (hr : symZ c = ⟨k, n⟩) (w : World) :
    Calls Tryz.prog 104 #[.int .i64 c] w fun e w' => e = .returned (.agg #[.int .i64 k, .int .i64 n]) ∧ Below w.heap.size w w' := by
  unfold symZ at hr
  by_cases g1 : 98 ≤ c
  · rw [if_pos g1] at hr
    injection hr with e1 e2
    subst e1 e2
    go_enter Tryz.func104, Tryz.ntmps104
    go_wp2
    go_returns
    exact ⟨rfl, by go_grown⟩
  rw [if_neg g1] at hr
  by_cases g2 : 95 ≤ c
  · rw [if_pos g2] at hr
    injection hr with e1 e2
    subst e1 e2
    go_enter Tryz.func104, Tryz.ntmps104
    go_wp2
    go_returns
    exact ⟨rfl, by go_grown⟩
  rw [if_neg g2] at hr
  by_cases g3 : 64 ≤ c
  · rw [if_pos g3] at hr
    injection hr with e1 e2
    subst e1 e2
    go_enter Tryz.func104, Tryz.ntmps104
    go_wp2
    go_returns
    exact ⟨rfl, by go_grown⟩
  rw [if_neg g3] at hr
  injection hr with e1 e2
  subst e1 e2
  go_enter Tryz.func104, Tryz.ntmps104
  go_wp2
  go_returns
  exact ⟨rfl, by go_grown⟩

theorem ofKind_any (k : Int) (w : World) :
    Calls Tryz.prog 93 #[.int .i64 k] w fun e w' => e = .returned (.func (.func 112) #[] #[.pointer (some ⟨w.heap.size, 0, none⟩)]) ∧ w' = w.alloc (.cells #[.int .i64 k] 3) := by
  go_enter Tryz.func93, Tryz.ntmps93
  go_wp2
  go_ret
  exact ⟨rfl, rfl⟩
theorem isKind_any {w : World} {bx : Nat} {kk : Int} (k n : Int) {r : Bool} (hr : (k == kk) = r) (hb : w.cell? ⟨bx, 0, none⟩ = some (.int .i64 kk)) :
    Calls Tryz.prog 112 #[.agg #[.int .i64 k, .int .i64 n], .pointer (some ⟨bx, 0, none⟩)] w fun e w' => e = .returned (.bool r) ∧ w' = w.alloc (.cells #[.int .i64 k, .int .i64 n] 59) := by
  have lb := World.block_lt_of_cell? _ _ hb
  go_enter Tryz.func112, Tryz.ntmps112
  go_wp2
  go_ret
  exact ⟨by first | rfl | (simp; done) | (simp [hr]; done), rfl⟩

/-- How Of ends. -/
def OfE (L : List Int) (w : World) (e : Ending) (w' : World) : Prop := ∃ A c, e = .returned (.slice A L.length c) ∧ Below w.heap.size w w' ∧ Ri w' A L ∧ (A = none → L.length = 0 ∧ c = 0)
/-- A rule's codes as a string. -/
theorem str_cod (i : Nat) (h : i < 90) : ∃ X : ByteArray, mkb (codR i) = X ∧ ∃ h : 0 < X.size, X[0].toNat = varR i := by
  refine ⟨_, rfl, ?_⟩
  rw [codR_eq i h]
  refine ⟨by rw [mkb_size]; simp, ?_⟩
  have := varR_lt i h
  show (UInt8.ofNat (varR i)).toNat = varR i
  rw [UInt8.toNat_ofNat']; omega
set_option maxHeartbeats 1000000 in
theorem of_any {w : World} (v : Int) {L : List Int} (hL : ofR v = L) (ht : TabR w) :
    Calls Tryz.prog 102 #[.int .i64 v] w fun e w' => OfE L w e w' := by
  have HL := Lib.hid hL
  have HT := Lib.hid ht
  obtain ⟨i0, hi, hz0, hz1, hz2⟩ := info_parts infoI
  have HI := Lib.hid hi
  have HI0 := Lib.hid hz0
  have HI1 := Lib.hid hz1
  have HI2 := Lib.hid hz2
  clear hL ht hi hz0 hz1 hz2
  go_enter Tryz.func102, Tryz.ntmps102
  go_wp2
  go_loopw [3, 5] (fun q i wr => ∃ k : Nat, i = .int .i64 k ∧ k ≤ 90 ∧ wr.ownsRow w.heap.size 3 1 q (ofN v k).length ((ofN v k).map iv) ∧ Below w.heap.size w wr) (fun _ i _ => 90 - (intOf i).toNat)
  case atStart => exact ⟨0, rfl, by decide, World.ownsRow_nil _ _ _ _, Below.refl _ _⟩
  case round =>
    obtain ⟨k, rfl, hk, hown, hB⟩ := hrel
    by_cases hlt : k < 90
    · have q1 : (k : Int) < 90 := by omega
      have hcell := (HT.out.below hB).2 k hlt
      obtain ⟨X, hX, x0, x1⟩ := str_cod k hlt
      rw [hX] at hcell
      have hs := ofN_succ v k
      have hlen := ofN_len v k
      have hv3 := varR_lt k hlt
      have hO := Lib.hid hown
      generalize varR k = m at *
      clear hown hX
      by_cases hm : (m : Int) = v
      · rw [if_pos hm] at hs
        have HS := Lib.hid hs
        have q2 : ((m : Int) == v) = true := by simpa using hm
        clear hs hm
        go_wp2_with (at_builtin; refine wpList_append_own _ rfl _ _ 22 rfl w.heap.size 3 i0 (.int .i64 0) 1 8 Tryz.underlying22 HI.out HI0.out HI1.out HI2.out rfl (by decide) _ _ _ rfl (hO.out.alloc _) ⟨wr.heap.size, 0, none⟩ 1 1 [.int .i64 (k : Int)] rfl rfl (cell_one_new _ _ _) (by simp [Value.oneCell']) (by unfold maxLen; omega) (by omega) (by have := hB.size; simp; omega) ?_)
        intro v' w3 hown' hgrow _
        have hB3 : Below w.heap.size w w3 := (bel_alloc hB _).grown hgrow (by have := hB.size; simp; omega) (fun k hk => (hO.out.lt k hk).1)
        have hown3 : w3.ownsRow w.heap.size 3 1 v' (ofN v (k + 1)).length ((ofN v (k + 1)).map iv) := by
          rw [HS.out, List.length_append, List.map_append]; exact hown'
        have HO3 := Lib.hid hown3
        clear hown' hgrow hown3
        go_wp2
        go_roundw
        case rel => exact ⟨k + 1, by go_num, by omega, HO3.out, hB3⟩
        case measure => simp [intOf]; omega
      · rw [if_neg hm, List.append_nil] at hs
        have HS := Lib.hid hs
        have q2 : ((m : Int) == v) = false := by simpa using hm
        clear hs hm
        go_wp2
        go_roundw
        case rel => exact ⟨k + 1, by go_num, by omega, by rw [HS.out]; exact hO.out, hB⟩
        case measure => simp [intOf]; omega
    · obtain rfl : k = 90 := by omega
      have e : ofN v 90 = L := HL.out
      rw [e] at hown
      obtain ⟨A', m, c', hv⟩ := own_sl hown
      subst hv
      obtain ⟨e1, e2, e3⟩ := ri_row hown
      have H2 := Lib.hid e2
      have H3 := Lib.hid e3
      subst e1
      clear hown e2 e3 e
      go_wp2
      go_ret
      exact ⟨_, _, rfl, hB, H2.out, H3.out⟩
end Go.Proofs.YtpcijjdlppoblaaGreatDoor

/- A range over a string: the iterator. -/
namespace Go.Proofs.YtpcijjdlppoblaaGreatDoor
open Go.RowKit
set_option linter.unusedVariables false

theorem next_at {P : Program} {W : World} {g : Nat} {s : ByteArray} {pos c n : Nat} (h : W.heap[g]? = some (.stringIter s pos)) (hp : pos < s.size) (hd : Utf8.decode s pos = (c, n)) (ty : TypeId) :
    (Instr.next (.pointer (some ⟨g, 0, none⟩)) true ty).run P W = .ok (.tuple #[.bool true, .int .i64 pos, .int .i32 c]) (W.putObj g (.stringIter s (pos + n))) := by
  simp only [Instr.next, getObj, setObj, Sem.run_bind, Sem.run, h, Result.andThen, hp, if_true, hd, World.putObj]
  simp [goInt]
theorem next_over {P : Program} {W : World} {g : Nat} {s : ByteArray} {pos : Nat} (h : W.heap[g]? = some (.stringIter s pos)) (hp : ¬ pos < s.size) (ty : TypeId) :
    (Instr.next (.pointer (some ⟨g, 0, none⟩)) true ty).run P W = .ok (.tuple #[.bool false]) W := by
  simp [Instr.next, getObj, Sem.run, h, hp]

/-- The iterator stands at pos, and all below is as it was. -/
structure It (w : World) (g : Nat) (s : ByteArray) (pos : Nat) (W : World) : Prop where
  at_ : W.heap[g]? = some (.stringIter s pos)
  ge : w.heap.size ≤ g
  bel : Below w.heap.size w W
theorem It.put {w : World} {g : Nat} {s : ByteArray} {pos : Nat} {W : World} (h : It w g s pos W) (q : Nat) : It w g s q (W.putObj g (.stringIter s q)) :=
  ⟨World.putObj_heap_same (lt_of_block h.at_), h.ge, h.bel.grown (grownBy_putObj' W g _) h.bel.size (fun k hk => by cases hk; exact h.ge)⟩
theorem It.below {w : World} {g : Nat} {s : ByteArray} {pos : Nat} {W W' : World} (h : It w g s pos W) (b : Below W.heap.size W W') : It w g s pos W' :=
  ⟨(b.block g (lt_of_block h.at_)).trans h.at_, h.ge, h.bel.trans (b.mono h.bel.size)⟩
theorem it_start (w : World) (s : ByteArray) : It w w.heap.size s 0 (w.iter s 0) :=
  ⟨World.iter_heap w s 0, Nat.le_refl _, bel_alloc (Below.refl _ _) _⟩
theorem get_bang (s : ByteArray) (k : Nat) (h : k < s.size) : s.get! k = s[k] := by
  show s.data[k]! = s.data[k]
  rw [getElem!_pos]
/-- A byte below 128 is a character. -/
theorem decode_low (s : ByteArray) (k : Nat) (h : k < s.size) (hl : (s[k]).toNat < 128) : Utf8.decode s k = ((s[k]).toNat, 1) := by
  unfold Utf8.decode
  simp only [Nat.add_zero, get_bang s k h]
  rw [if_pos hl]
end Go.Proofs.YtpcijjdlppoblaaGreatDoor

/- Package rule: Plain. -/
namespace Go.Proofs.YtpcijjdlppoblaaGreatDoor
open Go.RowKit
set_option linter.unusedVariables false
set_option maxRecDepth 100000

/-- How Plain ends. -/
def PlE (L : List Sq) (w : World) (e : Ending) (w' : World) : Prop := ∃ A c, e = .returned (.slice A L.length c) ∧ Below w.heap.size w w' ∧ Sr w' A L ∧ (A = none → L.length = 0 ∧ c = 0)
/-- .. and where its answer lies. -/
def PlzE (L : List Sq) (w : World) (e : Ending) (w' : World) : Prop := ∃ A c, e = .returned (.slice A L.length c) ∧ Below w.heap.size w w' ∧ Sr w' A L ∧ (A = none → L.length = 0 ∧ c = 0) ∧ (∀ b, (Value.slice A L.length c).ownBlock = some b → w.heap.size ≤ b)
set_option maxHeartbeats 1000000 in
theorem plain_lies {w : World} {A : Option Addr} {n c : Nat} {ts L : List Sq} (hL : plS ts = L) (ha : Sr w A ts) (hn : ts.length = n) (hz : n ≤ 1000000) :
    Calls Tryz.prog 61 #[.slice A n c] w fun e w' => PlzE L w e w' := by
  have HA := Lib.hid ha
  have HN := Lib.hid hn
  have HL := Lib.hid hL
  obtain ⟨i0, hi, hz0, hz1, hz2⟩ := info_parts infoSym
  have HI := Lib.hid hi
  have HI0 := Lib.hid hz0
  have HI1 := Lib.hid hz1
  have HI2 := Lib.hid hz2
  have hcl : (w.alloc (.cells #[.int .i64 3] 3)).cell? ⟨w.heap.size, 0, none⟩ = some (.int .i64 3) := by simp [go_sem]
  have HC := Lib.hid hcl
  clear hL ha hn hi hz0 hz1 hz2 hcl
  go_enter Tryz.func61, Tryz.ntmps61
  go_wp2_with fail
  (with_reducible refine (ofKind_any 3 _).mono ?_)
  rintro e w1 ⟨rfl, rfl⟩
  go_wp2
  go_loopw [4, 10] (fun q i wr => ∃ k : Nat, i = .int .i64 k ∧ k ≤ n ∧ wr.ownsRow (w.heap.size + 1) 59 2 q (plS (ts.take k)).length (cly (plS (ts.take k))) ∧ Below (w.heap.size + 1) (w.alloc (.cells #[.int .i64 3] 3)) wr) (fun _ i _ => n - (intOf i).toNat)
  case atStart => exact ⟨0, rfl, Nat.zero_le _, World.ownsRow_nil _ _ _ _, Below.refl _ _⟩
  case round =>
    obtain ⟨k, rfl, hk, hown, hB⟩ := hrel
    by_cases hlt : k < n
    · obtain ⟨t, ht⟩ : ∃ t, ts[k]? = some t := ⟨_, List.getElem?_eq_getElem (by rw [HN.out]; exact hlt)⟩
      obtain ⟨b, o, rfl, c0, c1⟩ := (HA.out.below ((bel_alloc (Below.refl _ w) _).trans (hB.mono (by simp)))) k t ht
      have q1 : (k : Int) < (n : Int) := by omega
      have hs := plS_take ht
      have hlen := plS_le (ts.take k)
      have hlt2 : (ts.take k).length ≤ k := by rw [List.length_take]; omega
      have hcl := HC.out
      have hc2 := (hB.cell (p := ⟨w.heap.size, 0, none⟩) (by simp)).trans hcl
      have hO := Lib.hid hown
      have hsz := hB.size
      have hsz2 : w.heap.size + 1 ≤ wr.heap.size := by simpa using hsz
      have HB1 := Lib.hid hB
      clear hown hcl ht
      by_cases h3 : t.k = 3
      · rw [if_pos h3, List.append_nil] at hs
        have HS := Lib.hid hs
        have q2 : (t.k == 3) = true := by simpa using h3
        clear hs h3
        go_wp2_with fail
        refine (isKind_any (kk := 3) t.k t.n q2 ?_).mono ?_
        · exact bel_cell (bel_alloc (Below.refl _ _) _) hc2
        rintro e w2 ⟨rfl, rfl⟩
        go_wp2
        go_roundw
        case rel => exact ⟨k + 1, by go_num, by omega, by rw [HS.out]; exact (hO.out.alloc _).alloc _, (HB1.out.alloc hsz2 _).alloc (by simp; omega) _⟩
        case measure => simp [intOf]; omega
      · rw [if_neg h3] at hs
        have HS := Lib.hid hs
        have q2 : (t.k == 3) = false := by simpa using h3
        clear hs h3
        go_wp2_with fail
        refine (isKind_any (kk := 3) t.k t.n q2 ?_).mono ?_
        · exact bel_cell (bel_alloc (Below.refl _ _) _) hc2
        rintro e w2 ⟨rfl, rfl⟩
        go_wp2_with (at_builtin; refine app_syms rfl _ _ rfl (w.heap.size + 1) _ _ (plS (ts.take k)) rfl (((hO.out.alloc _).alloc _).alloc _) (A := some ⟨wr.heap.size + 1 + 1, 0, none⟩) (m := 1) (c := 1) (ts := [t]) (by simp [go_sem]) ?_ rfl (fun e => by cases e) (by omega) (by simp; omega) ?_)
        · exact sr_one (k := t.k) (n := t.n) (by simpa using heap_alloc_new ((wr.alloc (.cells #[.int .i64 t.k, .int .i64 t.n] 59)).alloc (.cells #[.int .i64 t.k, .int .i64 t.n] 59)) (.cells #[.int .i64 t.k, .int .i64 t.n] 59))
        intro v' w3 hown' hgrow
        have hB3 : Below (w.heap.size + 1) (w.alloc (.cells #[.int .i64 3] 3)) w3 := (((HB1.out.alloc hsz2 _).alloc (by simp; omega) _).alloc (by simp; omega) _).grown hgrow (by simp; omega) (fun k hk => (hO.out.lt k hk).1)
        have hown3 : w3.ownsRow (w.heap.size + 1) 59 2 v' (plS (ts.take (k + 1))).length (cly (plS (ts.take (k + 1)))) := by
          rw [HS.out, List.length_append]; exact hown'
        have HO3 := Lib.hid hown3
        have HB3 := Lib.hid hB3
        clear hown' hgrow hown3 hB3
        go_wp2
        go_roundw
        case rel => exact ⟨k + 1, by go_num, by omega, HO3.out, HB3.out⟩
        case measure => simp [intOf]; omega
    · obtain rfl : k = n := by omega
      rw [List.take_of_length_le (by rw [HN.out]; exact Nat.le_refl _), HL.out] at hown
      obtain ⟨A', m, c', hv⟩ := own_sl hown
      subst hv
      obtain ⟨e1, e2, e3⟩ := sr_row hown
      have H2 := Lib.hid e2
      have H3 := Lib.hid e3
      have hB4 : Below w.heap.size w wr := (bel_alloc (Below.refl _ w) _).trans (hB.mono (Nat.le_succ _))
      have hat : ∀ b, (Value.slice A' m c').ownBlock = some b → w.heap.size ≤ b := fun b e => by have := (hown.lt b e).1; omega
      subst e1
      have H4 := Lib.hid hat
      clear hown e2 e3 hat
      go_wp2
      go_ret
      exact ⟨_, _, rfl, hB4, H2.out, H3.out, H4.out⟩
theorem plain_any {w : World} {A : Option Addr} {n c : Nat} {ts L : List Sq} (hL : plS ts = L) (ha : Sr w A ts) (hn : ts.length = n) (hz : n ≤ 1000000) :
    Calls Tryz.prog 61 #[.slice A n c] w fun e w' => PlE L w e w' :=
  (plain_lies hL ha hn hz).mono (by rintro e w' ⟨A, c, rfl, hb, hs, h1, -⟩; exact ⟨A, c, rfl, hb, hs, h1⟩)
/-- Plain, its answer's length under a name of its own. -/
def PyE (m : Nat) (L : List Sq) (w : World) (e : Ending) (w' : World) : Prop := ∃ A c, e = .returned (.slice A m c) ∧ Below w.heap.size w w' ∧ Sr w' A L ∧ (A = none → m = 0 ∧ c = 0)
theorem plain_as {w : World} {A : Option Addr} {n m c : Nat} {ts L : List Sq} (hL : plS ts = L) (hm : L.length = m) (ha : Sr w A ts) (hn : ts.length = n) (hz : n ≤ 1000000) :
    Calls Tryz.prog 61 #[.slice A n c] w fun e w' => PyE m L w e w' := by
  subst hm
  exact plain_any hL ha hn hz
end Go.Proofs.YtpcijjdlppoblaaGreatDoor

/- Package rule: Get. -/
namespace Go.Proofs.YtpcijjdlppoblaaGreatDoor
open Go.RowKit
set_option linter.unusedVariables false
set_option maxRecDepth 100000

/-- How Get ends where there is rule i. -/
def GtE (i : Nat) (w : World) (e : Ending) (w' : World) : Prop := ∃ A c, e = .returned (.tuple #[.agg #[.int .i64 (varR i : Nat), .slice A (symR i).length c], .bool true]) ∧ Below w.heap.size w w' ∧ Sr w' A (symR i) ∧ (A = none → (symR i).length = 0 ∧ c = 0)
/-- How it ends where there is none. -/
def GnE (w : World) (e : Ending) (w' : World) : Prop := e = .returned (.tuple #[.agg #[.int .i64 0, .slice none 0 0], .bool false]) ∧ Below w.heap.size w w'

/-- A rule's box: its two cells. -/
structure B2 (w : World) (b : Nat) (v0 v1 : Value) : Prop where
  c0 : w.cell? ⟨b, 0, none⟩ = some v0
  c1 : w.cell? ⟨b, 1, none⟩ = some v1
  f0 : w.frozen? ⟨b, 0, none⟩ = false
  f1 : w.frozen? ⟨b, 1, none⟩ = false
theorem B2.new (w : World) (v0 v1 : Value) (t : TypeId) : B2 (w.alloc (.cells #[v0, v1] t)) w.heap.size v0 v1 := by
  constructor <;> simp [go_sem]
theorem B2.below {w w' : World} {b : Nat} {v0 v1 : Value} (h : B2 w b v0 v1) (hb : Below w.heap.size w w') : B2 w' b v0 v1 := by
  have hlt : b < w.heap.size := World.block_lt_of_cell? w _ h.c0
  exact ⟨(hb.cell (p := ⟨b, 0, none⟩) hlt).trans h.c0, (hb.cell (p := ⟨b, 1, none⟩) hlt).trans h.c1, (hb.frozen (p := ⟨b, 0, none⟩) hlt).trans h.f0, (hb.frozen (p := ⟨b, 1, none⟩) hlt).trans h.f1⟩

set_option maxHeartbeats 400000 in
theorem get_no {i : Int} (h : i < 0 ∨ 90 ≤ i) (w : World) : Calls Tryz.prog 80 #[.int .i64 i] w fun e w' => GnE w e w' := by
  rcases h with h | h
  · go_enter Tryz.func80, Tryz.ntmps80
    go_wp2
    go_returns
    exact ⟨rfl, by go_grown⟩
  · have h' : ¬ i < 0 := by omega
    go_enter Tryz.func80, Tryz.ntmps80
    go_wp2
    go_returns
    exact ⟨rfl, by go_grown⟩

/-- The box written. -/
def set2 (w : World) (b : Nat) (v0 v1 : Value) : World := (w.setCell ⟨b, 0, none⟩ v0).setCell ⟨b, 1, none⟩ v1
theorem bel_set2 {w w' : World} {b : Nat} (h : Below w.heap.size w w') (hb : w.heap.size ≤ b) (v0 v1 : Value) : Below w.heap.size w (set2 w' b v0 v1) :=
  (h.setCell (p := ⟨b, 0, none⟩) hb v0).setCell (p := ⟨b, 1, none⟩) hb v1
theorem B2.set {w : World} {b : Nat} {u0 u1 : Value} (h : B2 w b u0 u1) (v0 v1 : Value) : B2 (set2 w b v0 v1) b v0 v1 := by
  obtain ⟨c0, c1, f0, f1⟩ := h
  unfold set2
  constructor <;> simp [World.cell?_setCell_same, go_sem, c0, c1, f0, f1]
theorem ret_box2 {fn : Func} {t u : Tmp} (hr : fn.results = #[.cell t 78, .tmp u]) {tmps : Array Value} {W : World} {b : Nat} {v0 v1 : Value}
    (ht : tmps.getD t undef = .pointer (some ⟨b, 0, none⟩)) (h : B2 W b v0 v1) : (results fn tmps).run Tryz.prog W = .ok (.tuple #[.agg #[v0, v1], tmps.getD u undef]) W := by
  obtain ⟨c0, c1, f0, f1⟩ := h
  unfold results
  rw [hr]
  simp only [List.mapM_toArray, List.mapM_cons, List.mapM_nil, ht]
  simp [go_sem, c0, c1]
theorem body_box2 {fn : Func} {R : Ending → World → Prop} {t u : Tmp} (hr : fn.results = #[.cell t 78, .tmp u]) {a : Act} {w : World} {b : Nat} {u0 u1 v0 v1 : Value}
    (h : B2 w b u0 u1) (ht : a.tmps.getD t undef = .pointer (some ⟨b, 0, none⟩)) (hd : a.defers = [])
    (hR : R (.returned (.tuple #[.agg #[v0, v1], a.tmps.getD u undef])) (set2 w b v0 v1)) : bodyPost Tryz.prog fn R .ret a (set2 w b v0 v1) :=
  bodyPost_ret (ret_box2 hr ht (h.set v0 v1)) hd hR
theorem B2.drew {w : World} {b : Nat} {v0 v1 : Value} (h : B2 w b v0 v1) : B2 w.drew b v0 v1 := ⟨h.c0, h.c1, h.f0, h.f1⟩
theorem B2.far {w w' : World} {b : Nat} {v0 v1 : Value} {row : Option Nat} (h : B2 w b v0 v1) (hg : w.grownBy w' row) (hne : some b ≠ row) : B2 w' b v0 v1 := by
  have hlt : b < w.heap.size := World.block_lt_of_cell? w _ h.c0
  exact ⟨(hg.cell_far ⟨b, 0, none⟩ hlt hne).trans h.c0, (hg.cell_far ⟨b, 1, none⟩ hlt hne).trans h.c1, (hg.frozen_far ⟨b, 0, none⟩ hlt hne).trans h.f0, (hg.frozen_far ⟨b, 1, none⟩ hlt hne).trans h.f1⟩
/-- While a rule's symbols are gathered: the iterator at pos, acc gathered. -/
structure Gq (w : World) (s : ByteArray) (m : Int) (pos : Nat) (v : Value) (acc : List Sq) (W : World) : Prop where
  it : W.heap[w.heap.size + 2]? = some (.stringIter s pos)
  bx : B2 W (w.heap.size + 1) (.int .i64 m) v
  rs : B2 W w.heap.size (.int .i64 0) (.slice none 0 0)
  ow : W.ownsRow (w.heap.size + 3) 59 2 v acc.length (cly acc)
  bel : Below w.heap.size w W
  sz : w.heap.size + 3 ≤ W.heap.size
theorem Gq.start (w : World) (s : ByteArray) (m : Int) : Gq w s m 0 (.slice none 0 0) [] (((w.alloc (.cells #[.int .i64 0, .slice none 0 0] 78)).alloc (.cells #[.int .i64 m, .slice none 0 0] 78)).iter s 0) := by
  have h1 := B2.new w (.int .i64 0) (.slice none 0 0) 78
  have h2 := B2.new (w.alloc (.cells #[.int .i64 0, .slice none 0 0] 78)) (.int .i64 m) (.slice none 0 0) 78
  rw [World.size_alloc] at h2
  refine ⟨?_, h2.below (bel_alloc (Below.refl _ _) _), (h1.below (bel_alloc (Below.refl _ _) _)).below (bel_alloc (Below.refl _ _) _), World.ownsRow_nil _ _ _ _, bel_alloc (bel_alloc (bel_alloc (Below.refl _ _) _) _) _, ?_⟩
  · have := World.iter_heap ((w.alloc (.cells #[.int .i64 0, .slice none 0 0] 78)).alloc (.cells #[.int .i64 m, .slice none 0 0] 78)) s 0
    rwa [World.size_alloc, World.size_alloc] at this
  · show _ ≤ (World.alloc _ _).heap.size
    rw [World.size_alloc, World.size_alloc, World.size_alloc]; omega
theorem Gq.own {w : World} {s : ByteArray} {m : Int} {pos : Nat} {v : Value} {acc : List Sq} {W : World} (h : Gq w s m pos v acc W) : ∀ b, b < w.heap.size + 3 → v.ownBlock ≠ some b := fun b hb e => by
  have := (h.ow.lt b e).1
  omega
theorem Gq.put {w : World} {s : ByteArray} {m : Int} {pos : Nat} {v : Value} {acc : List Sq} {W : World} (h : Gq w s m pos v acc W) (q : Nat) : Gq w s m q v acc (W.putObj (w.heap.size + 2) (.stringIter s q)) := by
  have hg := grownBy_putObj' W (w.heap.size + 2) (.stringIter s q)
  exact ⟨World.putObj_heap_same (lt_of_block h.it), h.bx.far hg (by simp), h.rs.far hg (by simp), h.ow.kept hg (.inr (h.own _ (by omega))),
    h.bel.grown hg h.bel.size (fun k hk => by cases hk; omega), Nat.le_trans h.sz hg.size⟩
theorem Gq.drew {w : World} {s : ByteArray} {m : Int} {pos : Nat} {v : Value} {acc : List Sq} {W : World} (h : Gq w s m pos v acc W) : Gq w s m pos v acc W.drew :=
  ⟨h.it, h.bx.drew, h.rs.drew, h.ow.drew, ⟨h.bel.os, h.bel.tape, h.bel.output, h.bel.size, h.bel.block⟩, h.sz⟩
theorem Gq.below {w : World} {s : ByteArray} {m : Int} {pos : Nat} {v : Value} {acc : List Sq} {W W' : World} (h : Gq w s m pos v acc W) (b : Below W.heap.size W W') : Gq w s m pos v acc W' :=
  ⟨(b.block _ (lt_of_block h.it)).trans h.it, h.bx.below b, h.rs.below b, row_below h.ow b, h.bel.trans (b.mono h.bel.size), Nat.le_trans h.sz b.size⟩
theorem Gq.next {w : World} {s : ByteArray} {m : Int} {pos : Nat} {v v' : Value} {acc : List Sq} {W W' : World} {t : Sq} (h : Gq w s m pos v acc W) (hg : W.grownBy W' v.ownBlock)
    (ho : W'.ownsRow (w.heap.size + 3) 59 2 v' (acc.length + 1) (cly acc ++ [.int .i64 t.k, .int .i64 t.n])) : Gq w s m pos v' (acc ++ [t]) (W'.setCell ⟨w.heap.size + 1, 1, none⟩ v') := by
  have h1 := h.bx.far hg (Ne.symm (h.own _ (by omega)))
  have h0 := h.rs.far hg (Ne.symm (h.own _ (by omega)))
  have hI := (hg.block _ (lt_of_block h.it) (Ne.symm (h.own _ (by omega)))).trans h.it
  have hB := h.bel.grown hg h.bel.size (fun k hk => by have := (h.ow.lt k hk).1; omega)
  have hsz := hg.size
  have hs3 := h.sz
  refine ⟨(Below.heap_setCell _ _ _ _ (by simp)).trans hI, ⟨?_, World.cell?_setCell_same _ _ _ h1.c1, ?_, ?_⟩, ⟨?_, ?_, ?_, ?_⟩, ?_, hB.setCell (p := ⟨w.heap.size + 1, 1, none⟩) (by simp) v', by rw [World.size_setCell]; omega⟩
  · refine (World.cell?_setCell_other _ _ _ _ (by simp)).trans ?_; exact h1.c0
  · rw [World.frozen?_setCell]; exact h1.f0
  · rw [World.frozen?_setCell]; exact h1.f1
  · refine (World.cell?_setCell_other _ _ _ _ (by simp)).trans ?_; exact h0.c0
  · refine (World.cell?_setCell_other _ _ _ _ (by simp)).trans ?_; exact h0.c1
  · rw [World.frozen?_setCell]; exact h0.f0
  · rw [World.frozen?_setCell]; exact h0.f1
  · refine ownsRow_setCell_below ?_ (by simp) v'
    rw [cly_append, List.length_append]; exact ho
set_option maxHeartbeats 1000000 in
/-- The same, and where its symbols lie. -/
def GlE (i : Nat) (w : World) (e : Ending) (w' : World) : Prop := ∃ A c, e = .returned (.tuple #[.agg #[.int .i64 (varR i : Nat), .slice A (symR i).length c], .bool true]) ∧ Below w.heap.size w w' ∧ Sr w' A (symR i) ∧ (A = none → (symR i).length = 0 ∧ c = 0) ∧ (∀ b, (Value.slice A (symR i).length c).ownBlock = some b → w.heap.size ≤ b)
set_option maxHeartbeats 4000000 in
theorem get_lies {i : Nat} (h : i < 90) {w : World} (ht : TabR w) : Calls Tryz.prog 80 #[.int .i64 i] w fun e w' => GlE i w e w' := by
  have q1 : (i : Int) < 90 := by omega
  have hcell := ht.2 i h
  obtain ⟨X, hX, x0, x1⟩ := str_cod i h
  rw [hX] at hcell
  have hv3 := varR_lt i h
  have hlt0 := ht.1
  have HX := Lib.hid hX
  obtain ⟨Y, hY, hYl⟩ : ∃ Y, X.extract 1 X.size = Y ∧ Y.data.toList = tlR i := by
    refine ⟨_, rfl, ?_⟩
    rw [← hX, codR_eq i h]
    simp [mkb, ByteArray.data_extract, ByteArray.size]
  have HYL := Lib.hid hYl
  obtain ⟨m, hm⟩ : ∃ m, varR i = m := ⟨_, rfl⟩
  rw [hm] at x1 hv3
  have HM := Lib.hid hm
  clear hm
  have HG := Lib.hid (Gq.start w Y m)
  obtain ⟨i0, hi, hz0, hz1, hz2⟩ := info_parts infoSym
  have HI := Lib.hid hi
  have HI0 := Lib.hid hz0
  have HI1 := Lib.hid hz1
  have HI2 := Lib.hid hz2
  clear hi hz0 hz1 hz2
  clear hX ht hYl
  go_enter Tryz.func80, Tryz.ntmps80
  go_wp2_with fail
  go_loopg [] Y.size (fun g wr => ∃ (pos : Nat) (v : Value), g = Y.size - pos ∧ pos ≤ Y.size ∧ Gq w Y m pos v (((tlR i).take pos).map symC) wr)
  case atStart => exact ⟨0, _, rfl, Nat.zero_le _, HG.out⟩
  case round =>
    obtain ⟨pos, v, hg, hle, hq⟩ := hrel
    have HGG := Lib.hid hg
    by_cases hp : pos < Y.size
    · have hl : pos < (tlR i).length := by rw [← HYL.out, ← Lib.size_eq]; exact hp
      have hby : (tlR i)[pos]? = some Y[pos] := by
        rw [← HYL.out, List.getElem?_eq_getElem (by rw [← Lib.size_eq]; exact hp)]; rfl
      have hlow : (Y[pos]).toNat < 128 := tlR_low i h _ (List.mem_of_getElem? hby)
      have hnx := fun ty => next_at (P := Tryz.prog) hq.it hp (decode_low Y pos hp hlow) ty
      obtain ⟨t, ht⟩ : ∃ t, symC Y[pos] = t := ⟨_, rfl⟩
      have hq1 := hq.put (pos + 1)
      generalize hb : (Y[pos]).toNat = b at *
      have r1 := fun W => symbol_any (c := (b : Int)) (k := t.k) (n := t.n) (by omega) (by omega) (by rw [← ht, symC, hb]) W
      have HZ := Lib.hid hq1
      have hsy : ((tlR i).take (pos + 1)).map symC = ((tlR i).take pos).map symC ++ [t] := by rw [List.take_add_one, hby, Option.toList_some, List.map_append, ← ht]; rfl
      have HS := Lib.hid hsy
      have hlen : (((tlR i).take pos).map symC).length ≤ 10 := by rw [List.length_map, List.length_take]; have := tlR_len i h; omega
      obtain ⟨d0, d1, e0, e1⟩ := hq1.bx.drew
      have wb := IntWalk.i64_in (b : Int) (by omega)
      have hlt1 := World.block_lt_of_cell? _ _ d1
      obtain ⟨acc, hacc⟩ : ∃ acc, ((tlR i).take pos).map symC = acc := ⟨_, rfl⟩
      rw [hacc] at HZ HS hlen
      clear hg hq ht hby hb hsy hq1 hacc
      go_wp2_with fail
      go_region_law (first
        | (go_simp; go_at_call 104; ((with_reducible refine (r1 _).mono ?_)); rintro e w2 ⟨rfl, hb2⟩; have hx1 := bel_cell hb2 d1; have hlt2 : w.heap.size + 1 < w2.heap.size := World.block_lt_of_cell? _ _ hx1; have HW := Lib.hid (HZ.out.drew.below hb2); clear hb2)
        | (refine step_append_lies _ (by rfl) _ _ _ (by rfl) (w.heap.size + 3) 59 i0 _ 2 16 Tryz.underlying42 HI.out HI0.out HI1.out HI2.out rfl (by decide) v _ _ (by rfl) (HW.out.ow.alloc _)
            ⟨w2.heap.size, 0, none⟩ 1 1 [.int .i64 t.k, .int .i64 t.n] (by rfl) (by rfl) (World.news_of_block (cs := #[.int .i64 t.k, .int .i64 t.n]) (t := 59) (fr := (0, 0)) (heap_alloc_new w2 _)) (by simp [Value.oneCell'])
            (by decide) (by unfold maxLen; omega) (by omega) (by have := HW.out.sz; simp; omega) (w2.heap.size + 1) (by simp) ?_; intro gg cap w3 hown3 hgrow3 hat3 hlt3
           have HW3 := Lib.hid (HW.out.bx.below (bel_alloc (Below.refl _ _) (.cells #[.int .i64 t.k, .int .i64 t.n] 59)))
           have hbx := HW3.out.far hgrow3 (Ne.symm (HW.out.own _ (by omega)))
           obtain ⟨y0, y1, z0, z1⟩ := hbx))
      all_goals
        go_wp2_with fail
        go_roundg (Y.size - (pos + 1))
        case measure => rw [HGG.out]; omega
        case rel => exact ⟨pos + 1, _, rfl, hp, by rw [HS.out]; exact (HW.out.below (bel_alloc (Below.refl _ _) _)).next hgrow3 hown3⟩
    · have hnx := fun ty => next_over (P := Tryz.prog) hq.it hp ty
      rw [List.take_of_length_le (by rw [← HYL.out, ← Lib.size_eq]; omega)] at hq
      have hL : symR i = (tlR i).map symC := rfl
      rw [← hL] at hq
      obtain ⟨c0, c1, f0, f1⟩ := hq.rs
      obtain ⟨d0, d1, e0, e1⟩ := hq.bx
      obtain ⟨A, n, c, rfl⟩ := own_sl hq.ow
      obtain ⟨rfl, -, hA⟩ := sr_row hq.ow
      have hlt1 := World.block_lt_of_cell? _ _ d1
      have hlt2 := World.block_lt_of_cell? _ _ c1
      have hB := Lib.hid hq.bel
      have hS := Lib.hid hq.ow
      clear hg hq hL
      go_wp2_with fail
      refine body_box2 rfl ⟨c0, c1, f0, f1⟩ rfl rfl ?_
      have hO2 := ownsRow_setCell_below (ownsRow_setCell_below hS.out (a := ⟨w.heap.size, 0, none⟩) (by simp) (.int .i64 m)) (a := ⟨w.heap.size, 1, none⟩) (by simp) (.slice A (symR i).length c)
      exact ⟨A, c, by rw [HM.out]; rfl, bel_set2 hB.out (Nat.le_refl _) _ _, (sr_row hO2).2.1, hA, fun b hb => by have := (hO2.lt b hb).1; omega⟩
theorem get_yes {i : Nat} (h : i < 90) {w : World} (ht : TabR w) : Calls Tryz.prog 80 #[.int .i64 i] w fun e w' => GtE i w e w' :=
  (get_lies h ht).mono (by rintro e w' ⟨A, c, h1, h2, h3, h4, -⟩; exact ⟨A, c, h1, h2, h3, h4⟩)
end Go.Proofs.YtpcijjdlppoblaaGreatDoor

/- Stage 11's common beginning: awake. -/
namespace Go.Proofs.YtpcijjdlppoblaaGreatDoor
open Go.RowKit
set_option linter.unusedVariables false
set_option maxRecDepth 100000

theorem TabR.drew {w : World} (h : TabR w) : TabR w.drew := h
/-- How Get ends, whatever the number. -/
def GaE (w : World) (e : Ending) (w' : World) : Prop := ∃ (v : Int) (A : Option Addr) (n c : Nat) (b : Bool), e = .returned (.tuple #[.agg #[.int .i64 v, .slice A n c], .bool b]) ∧ Below w.heap.size w w'
theorem get_all (k : Int) {w : World} (ht : TabR w) : Calls Tryz.prog 80 #[.int .i64 k] w fun e w' => GaE w e w' := by
  by_cases h : 0 ≤ k ∧ k < 90
  · obtain ⟨i, rfl⟩ := Int.eq_ofNat_of_zero_le h.1
    refine (get_yes (i := i) (by omega) ht).mono ?_
    rintro e w' ⟨A, c, rfl, hb, -, -⟩
    exact ⟨_, _, _, _, _, rfl, hb⟩
  · refine (get_no (by omega) w).mono ?_
    rintro e w' ⟨rfl, hb⟩
    exact ⟨_, _, _, _, _, rfl, hb⟩
/-- How Get ends where there is the rule: its variable v, its symbols L, n of them. -/
def GyE (v : Int) (n : Nat) (L : List Sq) (w : World) (e : Ending) (w' : World) : Prop := ∃ A c, e = .returned (.tuple #[.agg #[.int .i64 v, .slice A n c], .bool true]) ∧ Below w.heap.size w w' ∧ Sr w' A L ∧ (A = none → n = 0 ∧ c = 0)
theorem get_as {i : Nat} (h : i < 90) {v : Int} {n : Nat} {L : List Sq} (hv : (varR i : Int) = v) (hL : symR i = L) (hn : L.length = n) {w : World} (ht : TabR w) : Calls Tryz.prog 80 #[.int .i64 i] w fun e w' => GyE v n L w e w' := by
  subst hv hL hn
  exact get_yes h ht
end Go.Proofs.YtpcijjdlppoblaaGreatDoor
