/- The law MarkTexts: its walk. -/
import Derived.Test.YtpcijjdlppoblaaGreatDoorMarH
import Derived.Test.YtpcijjdlppoblaaGreatDoorMarQ
namespace Go.Proofs.YtpcijjdlppoblaaGreatDoor
open Go.RowKit
set_option linter.unusedVariables false
set_option maxRecDepth 100000

set_option maxHeartbeats 4000000 in
theorem texts_law {w : World} {A A2 : Option Addr} {n c n2 c2 : Nat} {us vs : List Bq} (x : Int) (hl : us.length = n) (hA : Br w A us) (h0 : A = none → n = 0 ∧ c = 0) (hl2 : vs.length = n2) (hA2 : Br w A2 vs) (h02 : A2 = none → n2 = 0 ∧ c2 = 0) (ht : TabR w) (hk : TabK w) (hq : Tab w) :
    Calls Tryz.prog 7 #[.slice A n c, .slice A2 n2 c2, .int .i64 x] w fun e w' => e = .returned (.bool true) ∧ Below w.heap.size w w' := by
  have HTR := Lib.hid ht
  have HTK := Lib.hid hk
  have HTQ := Lib.hid hq
  have HA := Lib.hid hA
  have HA2 := Lib.hid hA2
  have HL := Lib.hid hl
  have HL2 := Lib.hid hl2
  have H0 := Lib.hid h0
  have H02 := Lib.hid h02
  obtain ⟨xa, hxa⟩ : ∃ xa, txL us = xa := ⟨_, rfl⟩
  obtain ⟨ma, hma⟩ : ∃ ma, xa.length = ma := ⟨_, rfl⟩
  obtain ⟨xb, hxb⟩ : ∃ xb, txL vs = xb := ⟨_, rfl⟩
  obtain ⟨mb, hmb⟩ : ∃ mb, xb.length = mb := ⟨_, rfl⟩
  have hma2 : ma ≤ n := by rw [← hma, ← hxa, ← hl]; exact txL_le us
  have hmb2 : mb ≤ n2 := by rw [← hmb, ← hxb, ← hl2]; exact txL_le vs
  obtain ⟨bb, hbb⟩ : ∃ bb, us ++ vs = bb := ⟨_, rfl⟩
  have hxab : txL bb = xa ++ xb := by rw [← hbb, txL_app, hxa, hxb]
  obtain ⟨xc, hxc⟩ : ∃ xc, xa ++ xb = xc := ⟨_, rfl⟩
  rw [hxc] at hxab
  have hmc : xc.length = ma + mb := by rw [← hxc, List.length_append, hma, hmb]
  have hlb : bb.length = n + n2 := by rw [← hbb, List.length_append, hl, hl2]
  have HXA := Lib.hid hxa
  have HXB := Lib.hid hxb
  have HXC := Lib.hid hxab
  have HMA := Lib.hid hma
  have HMB := Lib.hid hmb
  have HMC := Lib.hid hmc
  have HLB := Lib.hid hlb
  have HBB := Lib.hid hbb
  have HCC := Lib.hid hxc
  obtain ⟨mo, hmo, hmo2⟩ : ∃ mo, (txL [⟨x, ⟨#[120]⟩⟩]).length = mo ∧ ((((mo : Nat) : Int) == 1) == (x == 0)) = true := by
    by_cases e : x = 0
    · subst e; exact ⟨1, rfl, rfl⟩
    · refine ⟨0, by rw [txL_mark _ e]; rfl, ?_⟩
      have : (x == 0) = false := by simpa using e
      rw [this]; rfl
  have hmo3 : mo ≤ 1 := by rw [← hmo]; exact txL_le _
  have HMO := Lib.hid hmo
  clear ht hk hq hA hA2 hl hl2 h0 h02 hxa hxb hxab hma hmb hmc hlb hbb hxc hmo
  go_enter Tryz.func7, Tryz.ntmps7
  go_wp2_with fail
  ((with_reducible refine (awm_any _ HTR.out HTK.out HTQ.out).mono ?_))
  rintro e w1 ⟨rfl, hb1⟩
  have HB1 := Lib.hid hb1
  clear hb1
  by_cases h3 : 300 < n
  · have q3 : (300 : Int) < (n : Int) := by omega
    clear h3
    go_wp2_with fail
    go_ret
    exact ⟨rfl, HB1.out⟩
  have q3 : ¬ (300 : Int) < (n : Int) := by omega
  by_cases h4 : 300 < n2
  · have q4 : (300 : Int) < (n2 : Int) := by omega
    clear h4
    go_wp2_with fail
    go_ret
    exact ⟨rfl, HB1.out⟩
  have q4 : ¬ (300 : Int) < (n2 : Int) := by omega
  have r1 := fun w B d h => mtxt_any (w := w) (A := B) (n := n + n2) (c := d) HXC.out HMC.out h HLB.out (by omega)
  have r2 := fun w h => mtxt_any (w := w) (A := A) (c := c) HXA.out HMA.out h HL.out (by omega)
  have r3 := fun w h => mtxt_any (w := w) (A := A2) (c := c2) HXB.out HMB.out h HL2.out (by omega)
  have r4 := fun w B d B' d' h h' => xtexts_eq (w := w) (A := B) (c := d) (A' := B') (d := d') (l := xc) (n := ma + mb) h h' HMC.out (by omega)
  have r5 := fun w B d h => mtxt_any (w := w) (A := B) (n := 1) (c := d) (bs := [⟨x, ⟨#[120]⟩⟩]) rfl HMO.out h rfl (by decide)
  have hlu : us.length + n2 ≤ 1000000 := by rw [HL.out]; omega
  have hlx : xa.length + mb ≤ 1000000 := by rw [HMA.out]; omega
  clear h3 h4
  go_wp2_with (at_builtin; refine app_bns rfl _ _ rfl (.slice none 0 0) [] rfl (Bn.start w1) rfl (HA.out.below HB1.out) HL.out H0.out (by simp; omega) ?_)
  intro v5 w5 hn5
  have HN5 := Lib.hid hn5
  clear hn5
  go_wp2_with (at_builtin; refine app_bns rfl _ _ rfl v5 us rfl HN5.out rfl (HA2.out.below (bel_trans HB1.out HN5.out.bel)) HL2.out H02.out hlu ?_)
  intro v6 w6 hn6
  rw [HBB.out] at hn6
  obtain ⟨E, cE, rfl, hE, -, -⟩ := hn6.row
  have HE := Lib.hid hE
  have HB6 := Lib.hid (bel_trans HB1.out hn6.bel)
  rw [HLB.out]
  clear hn6 hE HN5 hlu
  go_wp2_with fail
  ((with_reducible refine (r1 _ _ _ HE.out).mono ?_))
  rintro e w7 ⟨Z, cz, rfl, hb7, hz7, -⟩
  have HB7 := Lib.hid (bel_trans HB6.out hb7)
  have HZ7 := Lib.hid hz7
  clear hb7 hz7 HE
  go_wp2_with fail
  ((with_reducible refine (r2 _ (HA.out.below HB7.out)).mono ?_))
  rintro e w8 ⟨P, cp, rfl, hb8, hp8, hp0⟩
  have HB8 := Lib.hid (bel_trans HB7.out hb8)
  have HZ8 := Lib.hid (HZ7.out.below hb8)
  have HP8 := Lib.hid hp8
  have HP0 := Lib.hid hp0
  clear hb8 hp8 hp0 HZ7
  go_wp2_with (at_builtin; refine app_xns rfl _ _ rfl (.slice none 0 0) [] rfl (Xn.start w8) rfl HP8.out HMA.out HP0.out (by simp; omega) ?_)
  intro v9 w9 hn9
  have HN9 := Lib.hid hn9
  have HB9 := Lib.hid (bel_trans HB8.out hn9.bel)
  clear hn9 HP8
  go_wp2_with fail
  ((with_reducible refine (r3 _ (HA2.out.below HB9.out)).mono ?_))
  rintro e w10 ⟨Q, cq, rfl, hb10, hq10, hq0⟩
  have HN10 := Lib.hid (HN9.out.below hb10)
  have HB10 := Lib.hid (bel_trans HB9.out hb10)
  have HQ10 := Lib.hid hq10
  have HQ0 := Lib.hid hq0
  clear hb10 hq10 hq0 HN9
  go_wp2_with (at_builtin; refine app_xns rfl _ _ rfl v9 xa rfl HN10.out rfl HQ10.out HMB.out HQ0.out hlx ?_)
  intro v11 w11 hn11
  rw [HCC.out] at hn11
  obtain ⟨G, cG, rfl, hG⟩ := hn11.row
  have HG := Lib.hid hG
  have HB11 := Lib.hid (bel_trans HB8.out hn11.bel)
  have HZ11 := Lib.hid (HZ8.out.below hn11.bel)
  rw [HMC.out]
  clear hn11 hG HZ8 HN10 hlx
  go_wp2_with fail
  ((with_reducible refine (r4 _ _ _ _ _ HZ11.out HG.out).mono ?_))
  rintro e w12 ⟨rfl, hb12⟩
  have HB12 := Lib.hid (bel_trans HB11.out hb12)
  have HB13 := Lib.hid (bel_alloc HB12.out (.cells #[.int .i64 x, .string ⟨#[120]⟩] 47))
  have HO := Lib.hid (show Br (w12.alloc (.cells #[.int .i64 x, .string ⟨#[120]⟩] 47)) (some ⟨w12.heap.size, 0, none⟩) [⟨x, ⟨#[120]⟩⟩] from br_one (heap_alloc_new w12 _))
  clear hb12
  go_wp2_with fail
  ((with_reducible refine (r5 _ _ _ HO.out).mono ?_))
  rintro e w14 ⟨Y, cy, rfl, hb14, -, -⟩
  have HB14 := Lib.hid (bel_trans HB13.out hb14)
  clear hb14
  go_wp2_with fail
  go_ret
  exact ⟨by simp, HB14.out⟩
end Go.Proofs.YtpcijjdlppoblaaGreatDoor
