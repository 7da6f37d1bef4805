/- The law SpanBehind: its walk. -/
import Derived.Test.YtmknjhmfgapejaaSpaE
import Derived.Test.YtmknjhmfgapejaaSpaN
import Derived.Test.YtmknjhmfgapejaaBitH
namespace Go.Proofs.Ytmknjhmfgapejaa
open Go.RowKit
set_option linter.unusedVariables false
set_option maxRecDepth 100000

set_option maxHeartbeats 8000000 in
theorem behind_law {w : World} {i m : Int} {s x : ByteArray} {A : Option Addr} {n c : Nat} {ts : List Bq} (hl : ts.length = n) (hA : Br w A ts) (hc : n ≤ c) (h0 : A = none → n = 0 ∧ c = 0) (hw : ∀ x ∈ ts, (Lit.int .i64 x.m).wf = true) (hs : SzB ts) :
    Calls Try.prog 9 #[.slice A n c, .int .i64 i, .string s, .string x, .int .i64 m] w fun e w' => e = .returned (.bool true) ∧ Below w.heap.size w w' := by
  obtain ⟨us, rfl⟩ := bz_ex ts hw hs
  have r1 := fun w => awake_any w
  have HA := Lib.hid hA
  have HL := Lib.hid hl
  have H0 := Lib.hid h0
  clear hA hl hs hw h0
  go_enter Try.func9, Try.ntmps9
  go_wp2_with fail
  ((with_reducible refine (r1 _).mono ?_))
  rintro e w1 ⟨rfl, hb1⟩
  have HB1 := Lib.hid hb1
  clear hb1 r1
  by_cases h3 : 300 < n
  · have qh3 : (300 : Int) < (n : Int) := by omega
    go_wp2
    go_ret
    exact ⟨rfl, HB1.out⟩
  have qh3 : ¬ (300 : Int) < (n : Int) := by omega
  by_cases h4 : 300 < s.size
  · have qh4 : (300 : Int) < (s.size : Int) := by omega
    go_wp2
    go_ret
    exact ⟨rfl, HB1.out⟩
  have qh4 : ¬ (300 : Int) < (s.size : Int) := by omega
  by_cases h5 : 300 < x.size
  · have qh5 : (300 : Int) < (x.size : Int) := by omega
    go_wp2
    go_ret
    exact ⟨rfl, HB1.out⟩
  have qh5 : ¬ (300 : Int) < (x.size : Int) := by omega
  by_cases m2 : m < 2
  · go_wp2
    go_ret
    exact ⟨rfl, HB1.out⟩
  by_cases m5 : 5 < m
  · go_wp2
    go_ret
    exact ⟨rfl, HB1.out⟩
  by_cases i0 : i < 0
  · go_wp2
    go_ret
    exact ⟨rfl, HB1.out⟩
  obtain ⟨j, rfl⟩ := Int.eq_ofNat_of_zero_le (show 0 ≤ i by omega)
  have hm5 : ¬ 5 < m := m5
  have hm2 : ¬ m < 2 := m2
  clear i0
  by_cases jn : n ≤ j
  · have qj : decide (n ≤ j) = true := decide_eq_true jn
    go_wp2
    go_ret
    exact ⟨rfl, HB1.out⟩
  have qj : decide (n ≤ j) = false := decide_eq_false jn
  have hjn : j < n := by omega
  obtain ⟨t, ht⟩ : ∃ t, (us.map (·.b))[j]? = some t := ⟨_, List.getElem?_eq_getElem (by rw [HL.out]; omega)⟩
  obtain ⟨b, o, rfl, d0, d1⟩ := HA.out j t ht
  have hlu : us.length = n := by rw [← HL.out, List.length_map]
  obtain ⟨q, hq⟩ := mtA_ex (us.map (·.b)) (j : Int)
  have r2 := fun w h => smatch_any (w := w) (A := some ⟨b, o, none⟩) (n := n) (c := c) hq hlu (by omega) h
  clear d0 d1 ht
  rcases hq with ⟨j', p, e1, rfl, hm⟩ | ⟨rfl, hno⟩
  · obtain rfl : j' = j := by omega
    have hpn := hm.len
    have hjp := hm.lt
    rw [HL.out] at hpn
    have hbr : brF m = true := decide_eq_true (by omega)
    obtain ⟨f1, f2, f3⟩ := behind_need s x hm hbr
    obtain ⟨z, hz⟩ : ∃ z, cols s.data.toList = z := ⟨_, rfl⟩
    have hzb := cols_le s.data.toList
    rw [← size_list, hz] at hzb
    have hmw : (Lit.int .i64 m).wf = true := by simp [Lit.wf, IntKind.min, IntKind.max, IntKind.bits, IntKind.signed]; omega
    obtain ⟨tk, htk⟩ : ∃ tk, (us.map (·.b)).take (p + 1) = tk := ⟨_, rfl⟩
    obtain ⟨bb, hbb⟩ : ∃ bb, tk ++ [(⟨0, s⟩ : Bq), ⟨m, noV⟩, ⟨0, x⟩] = bb := ⟨_, rfl⟩
    have hltk : tk.length = p + 1 := by rw [← htk, List.length_take, HL.out]; omega
    have hlb : bb.length = p + 4 := by rw [← hbb, List.length_append, hltk]; rfl
    rw [htk] at f1 f2 f3
    rw [hbb] at f2 f3
    obtain ⟨us1, hu1, hl1⟩ : ∃ us1 : List Bz, us1.map (·.b) = tk ∧ us1.length = p + 1 := ⟨us.take (p + 1), by rw [List.map_take, htk], by rw [List.length_take, hlu]; omega⟩
    obtain ⟨us2, hu2, hl2⟩ : ∃ us2 : List Bz, us2.map (·.b) = bb ∧ us2.length = p + 4 :=
      ⟨us1 ++ [⟨⟨0, s⟩, rfl, by show s.size ≤ _; omega⟩, ⟨⟨m, noV⟩, hmw, by show noV.size ≤ _; decide⟩, ⟨⟨0, x⟩, rfl, by show x.size ≤ _; omega⟩], by rw [← hbb, List.map_append, hu1]; rfl, by rw [List.length_append, hl1]; rfl⟩
    obtain ⟨r, hr⟩ : ∃ r, ndF tk j' p = r := ⟨_, rfl⟩
    obtain ⟨r', hr'⟩ : ∃ r', ndF bb j' p = r' := ⟨_, rfl⟩
    have n1 := NeA.mk f1
    have n2 := NeA.mk f2
    rw [hr] at n1 f3
    rw [hr'] at n2 f3
    rw [hz] at f3
    have hrb := neA_range (l := us1.map (·.b)) (us_sz us1) (by rw [List.length_map, hl1]; omega) (by rw [hu1]; exact n1)
    have r3 := fun w (h : Br w (some ⟨b, o, none⟩) tk) => sneed_any (w := w) (A := some ⟨b, o, none⟩) (n := p + 1) (c := c) (us := us1) (by rw [hu1]; exact n1) hl1 (by omega) (by omega) (by rw [hu1]; exact h)
    have r4 := fun w (E : Option Addr) (d : Nat) hd (h : Br w E bb) => sneed_any (w := w) (A := E) (n := p + 4) (c := d) (us := us2) (by rw [hu2]; exact n2) hl2 (by omega) hd (by rw [hu2]; exact h)
    have r5 := fun w => scols_any s (by omega) hz w
    have hbt : ∀ W, Br W (some ⟨b, o, none⟩) (us.map (·.b)) → Br W (some ⟨b, o, none⟩) tk := fun W h => by rw [← htk]; exact br_take h _
    have g1 : ¬ (p : Int) < 0 := by omega
    have g2 : decide (n ≤ p) = false := decide_eq_false (by omega)
    have g3 : p + 1 ≤ c := by omega
    have g4 : ([] : List Bq).length + (p + 1) ≤ 1000000 := by simp; omega
    have g5 : tk.length + 3 ≤ 1000000 := by omega
    have HBT := Lib.hid hbt
    have HBB := Lib.hid hbb
    have HLB := Lib.hid hlb
    have HLT := Lib.hid hltk
    have HF := Lib.hid f3
    clear hm e1 f1 f2 f3 hz hmw htk hbb hltk hlb hu1 hl1 hu2 hl2 hr hr' n1 n2 hbt hbr hlu h3 h4 h5 jn m2 m5
    go_wp2_with fail
    ((with_reducible refine (r2 _ (HA.out.below HB1.out)).mono ?_))
    rintro e w2 ⟨rfl, hb2⟩
    have HB2 := Lib.hid (bel_trans HB1.out hb2)
    clear hb2 r2
    go_wp2_with fail
    ((with_reducible refine (r3 _ (HBT.out _ (HA.out.below HB2.out))).mono ?_))
    rintro e w3 ⟨rfl, hb3⟩
    have HB3 := Lib.hid (bel_trans HB2.out hb3)
    clear hb3 r3
    go_wp2_with (at_builtin; refine app_bns rfl _ _ rfl (.slice none 0 0) [] rfl (Bn.start w3) rfl (HBT.out _ (HA.out.below HB3.out)) HLT.out (fun e => by cases e) g4 ?_)
    intro v5 w5 hn5
    replace hn5 : Bn w3 tk v5 w5 := by simpa using hn5
    have HN5 := Lib.hid hn5
    clear hn5 g4
    go_wp2_with (at_builtin; refine app_bns rfl _ _ rfl v5 tk rfl (HN5.out.alloc _) (bs := [⟨0, s⟩, ⟨m, noV⟩, ⟨0, x⟩]) rfl (br_blk (heap_alloc_new w5 _) rfl) rfl (fun e => by cases e) g5 ?_)
    intro v6 w6 hn6
    replace hn6 : Bn w3 bb v6 w6 := by rw [← HBB.out]; exact hn6
    obtain ⟨E, cE, rfl, hE, -, hcE⟩ := hn6.row
    have HE := Lib.hid hE
    have HB6 := Lib.hid (bel_trans HB3.out hn6.bel)
    rw [HLB.out] at hcE
    rw [HLB.out]
    clear hn6 hE g5 HN5
    rcases HF.out with ⟨rfl, rfl⟩ | ⟨hr0, hrr⟩
    · go_wp2_with fail
      ((with_reducible refine (r4 _ _ _ hcE HE.out).mono ?_))
      rintro e w7 ⟨rfl, hb7⟩
      have HB7 := Lib.hid (bel_trans HB6.out hb7)
      clear hb7 r4 HE
      go_wp2
      go_ret
      exact ⟨rfl, HB7.out⟩
    · have z0 : (r == -1) = false := beq_false_of_ne (by omega)
      have z1 : decide (0 ≤ r) = true := decide_eq_true hr0
      have z2 : (r' == r + (z : Int)) = true := by rw [hrr]; simp
      clear hrr
      go_wp2_with fail
      ((with_reducible refine (r4 _ _ _ hcE HE.out).mono ?_))
      rintro e w7 ⟨rfl, hb7⟩
      have HB7 := Lib.hid (bel_trans HB6.out hb7)
      clear hb7 r4 HE
      go_wp2_with fail
      ((with_reducible refine (r5 _).mono ?_))
      rintro e w8 ⟨rfl, hb8⟩
      have HB8 := Lib.hid (bel_trans HB7.out hb8)
      clear hb8 r5
      go_wp2
      go_ret
      exact ⟨rfl, HB8.out⟩
  · clear hno hlu h3 h4 h5 jn m2 m5
    go_wp2_with fail
    ((with_reducible refine (r2 _ (HA.out.below HB1.out)).mono ?_))
    rintro e w2 ⟨rfl, hb2⟩
    have HB2 := Lib.hid (bel_trans HB1.out hb2)
    clear hb2 r2
    go_wp2
    go_ret
    exact ⟨rfl, HB2.out⟩
end Go.Proofs.Ytmknjhmfgapejaa
