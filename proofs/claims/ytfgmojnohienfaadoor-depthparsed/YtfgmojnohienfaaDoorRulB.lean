/- Package rule: Plain. -/
import Derived.Test.YtfgmojnohienfaaDoorRulA
namespace Go.Proofs.YtfgmojnohienfaaDoor
open Go.RowKit
set_option linter.unusedVariables false
set_option maxRecDepth 100000

/-- How Plain ends. -/
def PlE (L : List Sq) (w : World) (e : Ending) (w' : World) : Prop := ∃ A c, e = .returned (.slice A L.length c) ∧ Below w.heap.size w w' ∧ Sr w' A L ∧ (A = none → L.length = 0 ∧ c = 0)
/-- .. and where its answer lies. -/
def PlzE (L : List Sq) (w : World) (e : Ending) (w' : World) : Prop := ∃ A c, e = .returned (.slice A L.length c) ∧ Below w.heap.size w w' ∧ Sr w' A L ∧ (A = none → L.length = 0 ∧ c = 0) ∧ (∀ b, (Value.slice A L.length c).ownBlock = some b → w.heap.size ≤ b)
set_option maxHeartbeats 1000000 in
theorem plain_lies {w : World} {A : Option Addr} {n c : Nat} {ts L : List Sq} (hL : plS ts = L) (ha : Sr w A ts) (hn : ts.length = n) (hz : n ≤ 1000000) :
    Calls Tryd.prog 21 #[.slice A n c] w fun e w' => PlzE L w e w' := by
  have HA := Lib.hid ha
  have HN := Lib.hid hn
  have HL := Lib.hid hL
  obtain ⟨i0, hi, hz0, hz1, hz2⟩ := info_parts infoSym
  have HI := Lib.hid hi
  have HI0 := Lib.hid hz0
  have HI1 := Lib.hid hz1
  have HI2 := Lib.hid hz2
  have hcl : (w.alloc (.cells #[.int .i64 3] 3)).cell? ⟨w.heap.size, 0, none⟩ = some (.int .i64 3) := by simp [go_sem]
  have HC := Lib.hid hcl
  clear hL ha hn hi hz0 hz1 hz2 hcl
  go_enter Tryd.func21, Tryd.ntmps21
  go_wp2_with fail
  (with_reducible refine (ofKind_any 3 _).mono ?_)
  rintro e w1 ⟨rfl, rfl⟩
  go_wp2
  go_loopw [4, 10] (fun q i wr => ∃ k : Nat, i = .int .i64 k ∧ k ≤ n ∧ wr.ownsRow (w.heap.size + 1) 35 2 q (plS (ts.take k)).length (cly (plS (ts.take k))) ∧ Below (w.heap.size + 1) (w.alloc (.cells #[.int .i64 3] 3)) wr) (fun _ i _ => n - (intOf i).toNat)
  case atStart => exact ⟨0, rfl, Nat.zero_le _, World.ownsRow_nil _ _ _ _, Below.refl _ _⟩
  case round =>
    obtain ⟨k, rfl, hk, hown, hB⟩ := hrel
    by_cases hlt : k < n
    · obtain ⟨t, ht⟩ : ∃ t, ts[k]? = some t := ⟨_, List.getElem?_eq_getElem (by rw [HN.out]; exact hlt)⟩
      obtain ⟨b, o, rfl, c0, c1⟩ := (HA.out.below ((bel_alloc (Below.refl _ w) _).trans (hB.mono (by simp)))) k t ht
      have q1 : (k : Int) < (n : Int) := by omega
      have hs := plS_take ht
      have hlen := plS_le (ts.take k)
      have hlt2 : (ts.take k).length ≤ k := by rw [List.length_take]; omega
      have hcl := HC.out
      have hc2 := (hB.cell (p := ⟨w.heap.size, 0, none⟩) (by simp)).trans hcl
      have hO := Lib.hid hown
      have hsz := hB.size
      have hsz2 : w.heap.size + 1 ≤ wr.heap.size := by simpa using hsz
      have HB1 := Lib.hid hB
      clear hown hcl ht
      by_cases h3 : t.k = 3
      · rw [if_pos h3, List.append_nil] at hs
        have HS := Lib.hid hs
        have q2 : (t.k == 3) = true := by simpa using h3
        clear hs h3
        go_wp2_with fail
        refine (isKind_any (kk := 3) t.k t.n q2 ?_).mono ?_
        · exact bel_cell (bel_alloc (Below.refl _ _) _) hc2
        rintro e w2 ⟨rfl, rfl⟩
        go_wp2
        go_roundw
        case rel => exact ⟨k + 1, by go_num, by omega, by rw [HS.out]; exact (hO.out.alloc _).alloc _, (HB1.out.alloc hsz2 _).alloc (by simp; omega) _⟩
        case measure => simp [intOf]; omega
      · rw [if_neg h3] at hs
        have HS := Lib.hid hs
        have q2 : (t.k == 3) = false := by simpa using h3
        clear hs h3
        go_wp2_with fail
        refine (isKind_any (kk := 3) t.k t.n q2 ?_).mono ?_
        · exact bel_cell (bel_alloc (Below.refl _ _) _) hc2
        rintro e w2 ⟨rfl, rfl⟩
        go_wp2_with (at_builtin; refine app_syms rfl _ _ rfl (w.heap.size + 1) _ _ (plS (ts.take k)) rfl (((hO.out.alloc _).alloc _).alloc _) (A := some ⟨wr.heap.size + 1 + 1, 0, none⟩) (m := 1) (c := 1) (ts := [t]) (by simp [go_sem]) ?_ rfl (fun e => by cases e) (by omega) (by simp; omega) ?_)
        · exact sr_one (k := t.k) (n := t.n) (by simpa using heap_alloc_new ((wr.alloc (.cells #[.int .i64 t.k, .int .i64 t.n] 35)).alloc (.cells #[.int .i64 t.k, .int .i64 t.n] 35)) (.cells #[.int .i64 t.k, .int .i64 t.n] 35))
        intro v' w3 hown' hgrow
        have hB3 : Below (w.heap.size + 1) (w.alloc (.cells #[.int .i64 3] 3)) w3 := (((HB1.out.alloc hsz2 _).alloc (by simp; omega) _).alloc (by simp; omega) _).grown hgrow (by simp; omega) (fun k hk => (hO.out.lt k hk).1)
        have hown3 : w3.ownsRow (w.heap.size + 1) 35 2 v' (plS (ts.take (k + 1))).length (cly (plS (ts.take (k + 1)))) := by
          rw [HS.out, List.length_append]; exact hown'
        have HO3 := Lib.hid hown3
        have HB3 := Lib.hid hB3
        clear hown' hgrow hown3 hB3
        go_wp2
        go_roundw
        case rel => exact ⟨k + 1, by go_num, by omega, HO3.out, HB3.out⟩
        case measure => simp [intOf]; omega
    · obtain rfl : k = n := by omega
      rw [List.take_of_length_le (by rw [HN.out]; exact Nat.le_refl _), HL.out] at hown
      obtain ⟨A', m, c', hv⟩ := own_sl hown
      subst hv
      obtain ⟨e1, e2, e3⟩ := sr_row hown
      have H2 := Lib.hid e2
      have H3 := Lib.hid e3
      have hB4 : Below w.heap.size w wr := (bel_alloc (Below.refl _ w) _).trans (hB.mono (Nat.le_succ _))
      have hat : ∀ b, (Value.slice A' m c').ownBlock = some b → w.heap.size ≤ b := fun b e => by have := (hown.lt b e).1; omega
      subst e1
      have H4 := Lib.hid hat
      clear hown e2 e3 hat
      go_wp2
      go_ret
      exact ⟨_, _, rfl, hB4, H2.out, H3.out, H4.out⟩
theorem plain_any {w : World} {A : Option Addr} {n c : Nat} {ts L : List Sq} (hL : plS ts = L) (ha : Sr w A ts) (hn : ts.length = n) (hz : n ≤ 1000000) :
    Calls Tryd.prog 21 #[.slice A n c] w fun e w' => PlE L w e w' :=
  (plain_lies hL ha hn hz).mono (by rintro e w' ⟨A, c, rfl, hb, hs, h1, -⟩; exact ⟨A, c, rfl, hb, hs, h1⟩)
/-- Plain, its answer's length under a name of its own. -/
def PyE (m : Nat) (L : List Sq) (w : World) (e : Ending) (w' : World) : Prop := ∃ A c, e = .returned (.slice A m c) ∧ Below w.heap.size w w' ∧ Sr w' A L ∧ (A = none → m = 0 ∧ c = 0)
theorem plain_as {w : World} {A : Option Addr} {n m c : Nat} {ts L : List Sq} (hL : plS ts = L) (hm : L.length = m) (ha : Sr w A ts) (hn : ts.length = n) (hz : n ≤ 1000000) :
    Calls Tryd.prog 21 #[.slice A n c] w fun e w' => PyE m L w e w' := by
  subst hm
  exact plain_any hL ha hn hz
end Go.Proofs.YtfgmojnohienfaaDoor
