/- Contracts of package flow: matches. -/
import Derived.Test.YtfcjihfnimefhaaFloD
namespace Go.Proofs.Ytfcjihfnimefhaa
open Go.Shelf Go.RowKit
set_option linter.unusedVariables false
set_option maxRecDepth 100000

theorem skF_len (l : List Bq) (k : Nat) : (skF l k).length ≤ k := by
  induction k with
  | zero => exact Nat.le_refl _
  | succ k ih =>
    rw [skF]
    split
    · split
      · rw [List.length_append, List.length_singleton]; omega
      · split
        · rw [List.length_dropLast]; omega
        · omega
    · omega
/-- .. as ints. -/
def skZ (l : List Bq) (k : Nat) : List Int := (skF l k).map fun j => ((j : Nat) : Int)
theorem skZ_len (l : List Bq) (k : Nat) : (skZ l k).length = (skF l k).length := by rw [skZ, List.length_map]
theorem skZ_open {l : List Bq} {k : Nat} (h : skF l (k + 1) = skF l k ++ [k]) : skZ l (k + 1) = skZ l k ++ [(k : Int)] := by rw [skZ, h, List.map_append]; rfl
theorem skZ_close {l : List Bq} {k j : Nat} {s : List Nat} (h : skF l k = s ++ [j]) : skZ l k = s.map (fun j => ((j : Nat) : Int)) ++ [(j : Int)] := by rw [skZ, h, List.map_append]; rfl
theorem own_mono {w : World} {B B' : Nat} {v : Value} {n : Nat} {xs : List Value} (h : w.ownsRow B 3 1 v n xs) (hB : B' ≤ B) : w.ownsRow B' 3 1 v n xs := by
  obtain ⟨h1, h2⟩ := h
  refine ⟨h1, ?_⟩
  rcases h2 with h2 | ⟨g, cap, cur, e, hb, r⟩
  · exact .inl h2
  · exact .inr ⟨g, cap, cur, e, Nat.le_trans hB hb, r⟩
/-- A row cut short. -/
theorem own_cut {w : World} {B g n m c : Nat} {xs : List Value} (h : w.ownsRow B 3 1 (.slice (some ⟨g, 0, none⟩) n c) n xs) (hm : m ≤ n) : w.ownsRow B 3 1 (.slice (some ⟨g, 0, none⟩) m c) m (xs.take m) := by
  obtain ⟨h1, h2⟩ := h
  refine ⟨by rw [List.length_take]; omega, ?_⟩
  rcases h2 with ⟨e, _⟩ | ⟨g', cap, cur, e, hb, h3, h4, h5, h6, h7⟩
  · cases e
  · injection e with e e1 e2
    injection e with e
    injection e with e
    subst e e2
    refine .inr ⟨g, c, cur, rfl, hb, h3, by omega, h5, h6, ?_⟩
    rw [← h7, List.take_take, Nat.min_eq_left (by omega), Nat.mul_one]
/-- Behind the first k: all, and what is open. -/
structure MaI (w : World) (l : List Bq) (gA n B1 k : Nat) (v : Value) (wr : World) : Prop where
  all : wr.ownsRow w.heap.size 3 1 (.slice (some ⟨gA, 0, none⟩) n n) n ((mtK l k).map iv)
  op : wr.ownsRow B1 3 1 v (skF l k).length ((skZ l k).map iv)
  bel : Below w.heap.size w wr
  lt : gA < B1
  le : B1 ≤ wr.heap.size
theorem MaI.below {w : World} {l : List Bq} {gA n B1 k : Nat} {v : Value} {wr w' : World} (h : MaI w l gA n B1 k v wr) (hb : Below wr.heap.size wr w') : MaI w l gA n B1 k v w' :=
  ⟨row_below h.all hb, row_below h.op hb, bel_trans h.bel hb, h.lt, Nat.le_trans h.le hb.size⟩
theorem own_apart {w : World} {B gA : Nat} {v : Value} {n : Nat} {xs : List Value} (h : w.ownsRow B 3 1 v n xs) (hlt : gA < B) : v.ownBlock ≠ some gA := fun e => by
  have := (h.lt gA e).1
  omega
set_option maxHeartbeats 4000000 in
theorem fmtch_any {w : World} {A : Option Addr} {n c : Nat} {l : List Bq} (hA : Br w A l) (hn : l.length = n) (hz : n ≤ 400) (hp : Pre l) :
    Calls Try.prog 59 #[.slice A n c] w fun e w' => ∃ g, e = .returned (.slice (some ⟨g, 0, none⟩) n n) ∧ w'.ownsRow w.heap.size 3 1 (.slice (some ⟨g, 0, none⟩) n n) n ((mtL l).map iv) ∧ Below w.heap.size w w' := by
  have HA := Lib.hid hA
  have HL := Lib.hid hn
  have HP := Lib.hid hp
  have r1 := fun w (g : Nat) h => rep1_any (w := w) (g0 := g) (n := n) (x := (n : Int)) h (by omega)
  have HB0 := Lib.hid (bel_alloc (Below.refl _ w) (.cells #[.int .i64 (n : Int)] 3))
  have HN0 := Lib.hid (heap_alloc_new w (.cells #[.int .i64 (n : Int)] 3))
  have hsz : (w.alloc (.cells #[.int .i64 (n : Int)] 3)).heap.size = w.heap.size + 1 := by simp
  have HSZ := Lib.hid hsz
  clear hA hn hp hsz
  go_enter Try.func59, Try.ntmps59
  go_wp2_with fail
  ((with_reducible refine (r1 _ _ HN0.out).mono ?_))
  rintro e w1 ⟨gA, rfl, ho1, hb1⟩
  have HI0 : MaI w l gA n w1.heap.size 0 (.slice none 0 0) w1 := by
    refine ⟨?_, World.ownsRow_nil _ _ _ _, bel_trans HB0.out hb1, (ho1.lt gA rfl).2, Nat.le_refl _⟩
    rw [mtK_zero, HL.out]
    exact own_mono ho1 (by rw [HSZ.out]; omega)
  obtain ⟨B1, hB1⟩ : ∃ B1, w1.heap.size = B1 := ⟨_, rfl⟩
  rw [hB1] at HI0
  have HI := Lib.hid HI0
  clear r1 ho1 hb1 HI0 hB1
  go_wp2_with fail
  go_loopw [4, 16] (fun v i wr => ∃ k : Nat, k ≤ n ∧ i = .int .i64 k ∧ MaI w l gA n B1 k v wr) (fun _ i _ => n - (intOf i).toNat)
  case atStart => exact ⟨0, Nat.zero_le _, rfl, HI.out⟩
  case round =>
    obtain ⟨k, hk, rfl, hR⟩ := hrel
    by_cases hlt : k < n
    · obtain ⟨t, ht⟩ : ∃ t, l[k]? = some t := ⟨_, List.getElem?_eq_getElem (by rw [HL.out]; omega)⟩
      obtain ⟨b0, o0, rfl, d0, d1⟩ := (HA.out.below hR.bel) k t ht
      have hR1 := hR.below (bel_alloc (Below.refl _ wr) (.cells #[.int .i64 t.m, .string t.v] 34))
      have hsl := skF_len l k
      obtain ⟨s, hs⟩ : ∃ s, (skF l k).length = s := ⟨_, rfl⟩
      rw [hs] at hsl
      obtain ⟨AX, nX, cX, rfl, hnc⟩ := own_sli hR.op
      obtain ⟨hnX, hRX, hAX⟩ := ri_row (l := (skZ l k)) (by rw [skZ_len]; exact hR1.op)
      rw [skZ_len, hs] at hnX
      subst hnX
      have hw1 : IntKind.i64.wrap ((nX : Int) - 1) = (nX : Int) - 1 := IntWalk.i64_in _ (by omega)
      have lb := World.block_lt_of_cell? _ _ d0
      have x0 := Lib.cell_of_heap (heap_alloc_new wr (.cells #[.int .i64 t.m, .string t.v] 34)) 0
      have HR := Lib.hid hR
      have HR1 := Lib.hid hR1
      have HT := Lib.hid ht
      have HS := Lib.hid hs
      have HAX := Lib.hid hAX
      by_cases h6 : t.m = 6
      · have he := skF_open ht h6
        have hm := mtK_else ht (by omega)
        have HE := Lib.hid (And.intro he (skZ_open he))
        have HM := Lib.hid hm
        obtain ⟨tm, tv⟩ := t
        dsimp only at h6 d0 d1
        subst h6
        clear ht hs hR hR1 he hm hRX hAX x0
        have HK := Lib.hid (rib [(k : Int)] (heap_alloc_new (wr.alloc (.cells #[.int .i64 6, .string tv] 34)) (.cells #[.int .i64 (k : Int)] 3)) rfl)
        have HR2 := Lib.hid (HR1.out.below (bel_alloc (Below.refl _ _) (.cells #[.int .i64 (k : Int)] 3)))
        have HO2 := Lib.hid (show ((wr.alloc (.cells #[.int .i64 6, .string tv] 34)).alloc (.cells #[.int .i64 (k : Int)] 3)).ownsRow B1 3 1 (.slice AX nX cX) nX ((skZ l k).map iv) by have := HR2.out.op; rwa [HS.out] at this)
        simp only [World.size_alloc] at HK
        go_wp2_with (at_builtin; refine app_ints rfl _ _ rfl B1 _ nX (skZ l k) rfl HO2.out (A := some ⟨wr.heap.size + 1, 0, none⟩) (m := 1) (c := 1) (ts := [(k : Int)]) rfl HK.out rfl (fun e => by cases e) (by omega) HR2.out.le ?_)
        intro v3 w3 ho3 hg3
        have hM3 : MaI w l gA n B1 (k + 1) v3 w3 := by
          have hap : (Value.slice AX nX cX).ownBlock ≠ some gA := own_apart HO2.out HR2.out.lt
          refine ⟨?_, ?_, HR2.out.bel.grown hg3 HR2.out.bel.size (fun q hq => ?_), HR2.out.lt, Nat.le_trans HR2.out.le hg3.size⟩
          · rw [HM.out]; exact HR2.out.all.kept hg3 (.inr (fun e => hap e.symm))
          · rw [HE.out.1, HE.out.2, List.length_append, List.length_singleton, HS.out, List.map_append]; exact ho3
          · have := (HO2.out.lt q hq).1
            have h2 := HR2.out.lt
            have h3 := (HR2.out.all.lt gA rfl).1
            omega
        have HM3 := Lib.hid hM3
        clear ho3 hg3 hM3
        go_wp2_with fail
        go_roundw
        case rel => exact ⟨k + 1, by omega, by go_num, HM3.out⟩
        case measure => simp [intOf]; omega
      · by_cases h7 : t.m = 7
        · obtain ⟨s', j, e1, e2, e3⟩ := skI_close HP.out ht h7
          have hm := mtK_close e2
          have hjn := e2.len
          have hjk := e2.lt
          have hls : s'.length + 1 = nX := by rw [← hs, e1, List.length_append, List.length_singleton]
          subst hls
          obtain ⟨g, c', hsl2⟩ := own_sln (by have := hR.op; rwa [hs] at this : wr.ownsRow B1 3 1 (.slice AX (s'.length + 1) cX) (s'.length + 1) ((skZ l k).map iv)) (by omega)
          injection hsl2 with hAg _ hcc
          subst hAg hcc
          obtain ⟨L, hLs⟩ : ∃ L, s'.length = L := ⟨_, rfl⟩
          have hcell : (wr.alloc (.cells #[.int .i64 t.m, .string t.v] 34)).cell? ⟨g, L, none⟩ = some (.int .i64 (j : Int)) := by
            have h := hR1.op
            rw [hs] at h
            rw [h.cellAt L (by omega), skZ_close e1, List.map_append, List.getElem?_append_right (by simp [hLs]), List.length_map, List.length_map, hLs, Nat.sub_self]; rfl
          have hop2 : wr.ownsRow B1 3 1 (.slice (some ⟨g, 0, none⟩) (s'.length + 1) cX) (s'.length + 1) ((skZ l k).map iv) := by have := hR.op; rwa [hs] at this
          have HOP := Lib.hid (show wr.ownsRow B1 3 1 (.slice (some ⟨g, 0, none⟩) L cX) L ((s'.map (fun j => ((j : Nat) : Int))).map iv) by
            have h := own_cut hop2 (show s'.length ≤ s'.length + 1 by omega)
            rw [skZ_close e1, List.map_append, List.take_left' (by simp)] at h
            rw [← hLs]; exact h)
          have hall := hR1.all
          rw [mtK, HL.out] at hall
          have hjl : j < n := by rw [← HL.out]; omega
          obtain ⟨u, hu⟩ : ∃ u, (wr.alloc (.cells #[.int .i64 t.m, .string t.v] 34)).cell? ⟨gA, j, none⟩ = some u := by
            rw [hall.cellAt j (by omega)]
            exact ⟨_, List.getElem?_eq_getElem (by simp; omega)⟩
          have hfz := hall.frozenAt j
          have q1 : (L : Int) < (L : Int) + 1 := by omega
          have q2 : (j : Int) < (n : Int) := by omega
          have q3 : (L : Int) ≤ (cX : Int) := by omega
          have hLn : L ≤ 400 := by omega
          have HE := Lib.hid (And.intro e3 hLs)
          have HM := Lib.hid hm
          have HR1' := Lib.hid hR1
          obtain ⟨tm, tv⟩ := t
          dsimp only at h7 d0 d1 hcell hu hfz HR1'
          subst h7
          rw [hLs] at hw1 hnc
          clear ht hs hR hR1 HR1 e1 e2 e3 hm hRX hAX x0 hop2 hall h6 HS
          rw [hLs]
          have hM3 : MaI w l gA n B1 (k + 1) (.slice (some ⟨g, 0, none⟩) L cX) ((wr.alloc (.cells #[.int .i64 7, .string tv] 34)).setCell ⟨gA, j, none⟩ (.int .i64 (k : Int))) := by
            obtain ⟨st1, st2⟩ := HR1'.out.all.stored j (iv (k : Int))
            have hl2 := HR1'.out.lt
            have hg0 := (HR1'.out.all.lt gA rfl).1
            have hop3 := (HOP.out.alloc (.cells #[.int .i64 7, .string tv] 34)).kept st2 (.inr (own_apart HOP.out hl2))
            refine ⟨?_, ?_, HR1'.out.bel.setCell (p := ⟨gA, j, none⟩) hg0 _, hl2, Nat.le_trans HR1'.out.le st2.size⟩
            · rw [HM.out, List.map_set]; exact st1
            · rw [skZ, HE.out.1, HE.out.2]; exact hop3
          have HM3 := Lib.hid hM3
          clear hM3
          go_wp2_with fail
          go_roundw
          case rel => exact ⟨k + 1, by omega, by go_num, HM3.out⟩
          case measure => simp [intOf]; omega
        · have he := skF_else ht h6 h7
          have hm := mtK_else ht h7
          have hM3 : MaI w l gA n B1 (k + 1) (.slice AX nX cX) (wr.alloc (.cells #[.int .i64 t.m, .string t.v] 34)) := by
            refine ⟨by rw [hm]; exact hR1.all, by rw [skZ, he]; exact hR1.op, hR1.bel, hR1.lt, hR1.le⟩
          have HM3 := Lib.hid hM3
          obtain ⟨tm, tv⟩ := t
          dsimp only at h6 h7 d0 d1 HM3
          have g6 : (tm == 6) = false := by simpa using h6
          have g7 : (tm == 7) = false := by simpa using h7
          clear hM3 he hm ht hs hR hR1 HR HR1 hRX hAX x0 h6 h7
          go_wp2_with fail
          go_roundw
          case rel => exact ⟨k + 1, by omega, by go_num, HM3.out⟩
          case measure => simp [intOf]; omega
    · obtain rfl : k = n := by omega
      have ho := hR.all
      have hb := hR.bel
      have e : mtK l k = mtL l := by have := mtK_all l; rwa [HL.out] at this
      rw [e] at ho
      have HO := Lib.hid ho
      have HB := Lib.hid hb
      clear ho hb e hR
      go_wp2
      go_ret
      exact ⟨_, rfl, HO.out, HB.out⟩
end Go.Proofs.Ytfcjihfnimefhaa
