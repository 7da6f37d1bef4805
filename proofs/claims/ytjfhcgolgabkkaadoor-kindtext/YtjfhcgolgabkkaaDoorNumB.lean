/- The contract of Number: ways that meet again are cut. -/
import Derived.Test.YtjfhcgolgabkkaaDoorNumA
import Derived.Test.YtjfhcgolgabkkaaDoorNumE
import Derived.Deep.DeepCutAuto
namespace Go.Proofs.YtjfhcgolgabkkaaDoor.Sc
open Go.RowKit
set_option linter.unusedVariables false

theorem take_b {w0 : World} {s : ByteArray} {b1 b2 : Nat} {j j' : Int} {w : World} {set : ByteArray} {v : Bool} (h : Nv w0 s b1 b2 j w) (hs : s.size ≤ 9223372036854775807) (hj : j ≤ 9223372036854775807) (hj0 : -9223372036854775808 ≤ j)
    (hv : sd (inS set.data.toList) s.data.toList j = v) (hj' : adv v j = j') :
    Calls Tryd.prog 55 #[.string set, .pointer (some ⟨b1, 0, none⟩), .pointer (some ⟨b2, 0, none⟩)] w fun e w' =>
      e = .returned (.bool v) ∧ Nv w0 s b1 b2 j' w' := by
  subst hv hj'; exact take_any w0 s set b1 b2 j w h hs hj hj0
theorem digs_b {w0 : World} {s : ByteArray} {b1 b2 : Nat} {j j' : Int} {w : World} {v : Bool} (h : Nv w0 s b1 b2 j w) (hs : s.size ≤ 9223372036854775807)
    (hv : sd dgI s.data.toList j = v) (hj' : dgE s.data.toList j = j') :
    Calls Tryd.prog 57 #[.pointer (some ⟨b2, 0, none⟩), .pointer (some ⟨b1, 0, none⟩)] w fun e w' =>
      e = .returned (.bool v) ∧ Nv w0 s b1 b2 j' w' := by
  subst hv hj'; exact digs_any w0 s b1 b2 j w h hs
theorem nv_start (s : ByteArray) (i : Int) (w : World) : Nv w s w.heap.size (w.heap.size + 1) i ((w.alloc (.cells #[.string s] 9)).alloc (.cells #[.int .i64 i] 3)) := by
  refine ⟨?_, ?_, ?_, by omega, ?_, ?_, by omega, bel_alloc (bel_alloc (Below.refl _ _) _) _⟩ <;> simp [go_sem]
theorem minus_bd {l : List UInt8} {i : Int} (h : (l.length : Int) ≤ 9223372036854775807) (hi : i ≤ 9223372036854775807) : i ≤ minusA l i ∧ minusA l i ≤ 9223372036854775807 := by
  unfold minusA
  cases e : sd (inS minusB) l i
  · exact ⟨Int.le_refl _, hi⟩
  · have := (sd_true.1 e).2.1; rw [adv_t]; omega

/-- What is known where ways meet: a place, a kind, and the closures' variables. -/
def Met (l : List UInt8) (i : Int) (F : Int → Int → Nm) (w : World) (s : ByteArray) (s7 : Value) (wx : World) : Prop :=
  ∃ j k : Int, s7 = .int .i64 k ∧ 0 ≤ j ∧ j ≤ l.length ∧ numA l i = F k j ∧ Nv w s w.heap.size (w.heap.size + 1) j wx
theorem met_mk {l : List UInt8} {i : Int} {F : Int → Int → Nm} {w : World} {s : ByteArray} {j k : Int} {wx : World} (h0 : 0 ≤ j) (h1 : j ≤ l.length) (hn : numA l i = F k j) (hb : Nv w s w.heap.size (w.heap.size + 1) j wx) :
    Met l i F w s (.int .i64 k) wx := ⟨j, k, rfl, h0, h1, hn, hb⟩
/-- Behind the whole part: wrong, or going on. -/
def Went (l : List UInt8) (i : Int) (w : World) (s : ByteArray) (s23 : Value) (wx : World) : Prop :=
  (∃ j : Int, s23 = .bool true ∧ numA l i = ⟨0, j, false⟩ ∧ Nv w s w.heap.size (w.heap.size + 1) j wx) ∨
  (∃ j : Int, s23 = .bool false ∧ 0 ≤ j ∧ j ≤ l.length ∧ numA l i = fracA l j ∧ Nv w s w.heap.size (w.heap.size + 1) j wx)

set_option maxHeartbeats 1000000 in
set_option maxRecDepth 100000 in
theorem number_any (s : ByteArray) (i : Int) (w : World) (hs : s.size ≤ 9223372036854775807) (hi : i ≤ 9223372036854775807) (hi0 : -9223372036854775808 ≤ i) :
    Calls Tryd.prog 49 #[.string s, .int .i64 i] w fun e w' => e = (numA s.data.toList i).end ∧ Below w.heap.size w w' := by
  have hsz0 : s.data.toList.length = s.size := (Lib.size_eq s).symm
  have hsz1 : (s.data.toList.length : Int) ≤ 9223372036854775807 := by omega
  clear hsz0
  have hmf : ∀ (fn : Fn) (first cap : Array Value) (w : World), (Instr.makeFunc fn first cap).run Tryd.prog w = .ok (.func fn first cap) w := fun _ _ _ _ => rfl
  obtain ⟨j1, e1⟩ : ∃ j, minusA s.data.toList i = j := ⟨_, rfl⟩
  have hb1 := minus_bd hsz1 hi
  have hn : numA s.data.toList i = bodyA s.data.toList j1 := by unfold numA; rw [e1]
  rw [e1] at hb1
  have HE1 := Lib.hid e1
  have HN := Lib.hid hn
  clear e1 hn
  have H := Lib.hid (nv_start s i w)
  have tk := fun (j j' : Int) (v : Bool) (set : ByteArray) (w' : World) => take_b (w0 := w) (s := s) (b1 := w.heap.size) (b2 := w.heap.size + 1) (j := j) (j' := j') (v := v) (w := w') (set := set)
  have dk := fun (j j' : Int) (v : Bool) (w' : World) => digs_b (w0 := w) (s := s) (b1 := w.heap.size) (b2 := w.heap.size + 1) (j := j) (j' := j') (v := v) (w := w')
  have c0 := fun w' h => tk i j1 _ ⟨#[45]⟩ w' h hs hi hi0 rfl HE1.out
  go_enter Tryd.func49, Tryd.ntmps49
  go_wp2_with fail
  refine wp_scope_forward 0 rfl ?_
  intro J hJ
  have HJ := Lib.hid hJ
  clear hJ
  go_upto_region 5 with ((with_reducible refine (c0 _ H.out).mono ?_); rintro e w1 ⟨rfl, h1⟩)
  clear H c0 hmf
  have H := Lib.hid h1
  clear h1
  go_cut [23] (fun s23 wx => Went s.data.toList i w s s23 wx)
  case first =>
    cases hz : sd (inS zeroB) s.data.toList j1
    · have c1 := fun w' h => tk j1 j1 false ⟨#[48]⟩ w' h hs (by omega) (by omega) hz (adv_f j1)
      cases hd : sd dgI s.data.toList j1
      · have c2 := fun w' h => dk j1 j1 false w' h hs hd (dgE_no hd)
        have HN2 := Lib.hid (HN.out.trans (bodyA_w hz hd))
        clear hz hd tk dk
        go_wp2_with fail
        (with_reducible refine (c1 _ H.out).mono ?_)
        rintro e w2 ⟨rfl, h2⟩
        go_wp2_with fail
        (with_reducible refine (c2 _ h2).mono ?_)
        rintro e w3 ⟨rfl, h3⟩
        go_wp2_with fail
        go_meet
        exact .inl ⟨j1, rfl, HN2.out, h3⟩
      · have g0 := (sd_true.1 hd).1
        have g3 := (sd_true.1 hd).2.1
        have g1 := dgE_lt.2 hd
        have g2 := dgE_le (l := s.data.toList) (j := j1) (by omega)
        have c2 := fun w' h => dk j1 _ true w' h hs hd rfl
        have HN2 := Lib.hid (HN.out.trans (bodyA_y hz hd))
        clear hz hd tk dk
        generalize dgE s.data.toList j1 = j2 at c2 g1 g2 HN2
        go_wp2_with fail
        (with_reducible refine (c1 _ H.out).mono ?_)
        rintro e w2 ⟨rfl, h2⟩
        go_wp2_with fail
        (with_reducible refine (c2 _ h2).mono ?_)
        rintro e w3 ⟨rfl, h3⟩
        go_wp2_with fail
        go_meet
        exact .inr ⟨j2, rfl, by omega, g2, HN2.out, h3⟩
    · have g0 := (sd_true.1 hz).1
      have g3 := (sd_true.1 hz).2.1
      have c1 := fun w' h => tk j1 (j1 + 1) true ⟨#[48]⟩ w' h hs (by omega) (by omega) hz (adv_t j1)
      have HN2 := Lib.hid (HN.out.trans (bodyA_z hz))
      clear hz tk dk
      go_wp2_with fail
      (with_reducible refine (c1 _ H.out).mono ?_)
      rintro e w2 ⟨rfl, h2⟩
      go_wp2_with fail
      go_meet
      exact .inr ⟨j1 + 1, rfl, by omega, by omega, HN2.out, h2⟩
  case rest =>
    clear H HN HE1 hb1
    rcases hcut with ⟨j2, rfl, hn2, h2⟩ | ⟨j2, rfl, p1, p2, hn2, h2⟩
    · have HN := Lib.hid hn2
      have H := Lib.hid h2
      have k2 := h2.c2
      clear hn2 h2 tk dk
      go_wp2_with fail
      go_step3
      refine ⟨rfl, HJ.out _ _ ?_⟩
      go_wp2_with fail
      go_quiet (fail)
      go_wp2_with fail
      rw [Exit.noGoto_ret]
      go_ret3
      exact ⟨by rw [HN.out]; rfl, below_drewN H.out.bel _⟩
    obtain ⟨v2, hv2⟩ : ∃ v, sd (inS dotB) s.data.toList j2 = v := ⟨_, rfl⟩
    have ct := fun w' h => tk j2 _ v2 ⟨#[46]⟩ w' h hs (by omega) (by omega) hv2 rfl
    have HN := Lib.hid hn2
    have HV := Lib.hid hv2
    have H := Lib.hid h2
    clear hn2 hv2 h2
    go_upto_if 25 with ((with_reducible refine (ct _ H.out).mono ?_); rintro e w3 ⟨rfl, h3⟩)
    clear H ct
    have H := Lib.hid h3
    clear h3
    go_cut [7] (fun s7 wx => Met s.data.toList i (fun k j => expA k s.data.toList j) w s s7 wx)
    case first =>
      cases v2
      · clear tk dk
        go_wp2_with fail
        go_meet
        exact met_mk p1 p2 (by rw [HN.out, fracA_n HV.out]) H.out
      · have h9 := H.out
        rw [adv_t] at h9
        clear H
        have H := Lib.hid h9
        clear h9
        have hx := (sd_true.1 HV.out).2.1
        cases hd : sd dgI s.data.toList (j2 + 1)
        · have c2 := fun w' h => dk (j2 + 1) (j2 + 1) false w' h hs hd (dgE_no hd)
          have HN2 := Lib.hid (HN.out.trans (fracA_w HV.out hd))
          clear hd tk dk
          go_wp2_with fail
          (with_reducible refine (c2 _ H.out).mono ?_)
          rintro e w4 ⟨rfl, h4⟩
          have H4 := Lib.hid h4
          have k2 := h4.c2
          clear h4
          go_wp2_with fail
          go_step3
          refine ⟨rfl, HJ.out _ _ ?_⟩
          go_wp2_with fail
          go_quiet (fail)
          go_wp2_with fail
          rw [Exit.noGoto_ret]
          go_ret3
          exact ⟨by rw [HN2.out]; rfl, below_drewN H4.out.bel _⟩
        · have g1 := dgE_lt.2 hd
          have g2 := dgE_le (l := s.data.toList) (j := j2 + 1) (by omega)
          have c2 := fun w' h => dk (j2 + 1) _ true w' h hs hd rfl
          have HN2 := Lib.hid (HN.out.trans (fracA_y HV.out hd))
          clear hd tk dk
          generalize dgE s.data.toList (j2 + 1) = j3 at c2 g1 g2 HN2
          go_wp2_with fail
          (with_reducible refine (c2 _ H.out).mono ?_)
          rintro e w4 ⟨rfl, h4⟩
          go_wp2_with fail
          go_meet
          exact met_mk (by omega) g2 HN2.out h4
    case rest =>
      obtain ⟨j3, k3, rfl, p3, p4, hn3, h3⟩ := hcut
      clear H HN HV p1 p2
      obtain ⟨v3, hv3⟩ : ∃ v, sd (inS eB) s.data.toList j3 = v := ⟨_, rfl⟩
      have ct := fun w' h => tk j3 _ v3 ⟨#[101, 69]⟩ w' h hs (by omega) (by omega) hv3 rfl
      have HN := Lib.hid hn3
      have HV := Lib.hid hv3
      have H := Lib.hid h3
      clear hn3 hv3 h3
      go_upto_if 30 with ((with_reducible refine (ct _ H.out).mono ?_); rintro e w4 ⟨rfl, h4⟩)
      clear H ct
      have H := Lib.hid h4
      clear h4
      go_cut [7] (fun s7 wx => Met s.data.toList i (fun k j => finA k s.data.toList j) w s s7 wx)
      case first =>
        cases v3
        · clear tk dk
          go_wp2_with fail
          go_meet
          exact met_mk p3 p4 (by rw [HN.out, expA_n HV.out]) H.out
        · have h9 := H.out
          rw [adv_t] at h9
          clear H
          have H := Lib.hid h9
          clear h9
          have hx := (sd_true.1 HV.out).2.1
          have hsl := sign_le (l := s.data.toList) (j := j3 + 1) (by omega)
          have hsg := sign_ge s.data.toList (j3 + 1)
          obtain ⟨j4, ej4⟩ : ∃ j, signA s.data.toList (j3 + 1) = j := ⟨_, rfl⟩
          have ct := fun w' h => tk (j3 + 1) j4 _ ⟨#[43, 45]⟩ w' h hs (by omega) (by omega) rfl ej4
          rw [ej4] at hsl hsg
          cases hd : sd dgI s.data.toList j4
          · have c2 := fun w' h => dk j4 j4 false w' h hs hd (dgE_no hd)
            have HN2 := Lib.hid (HN.out.trans ((expA_w HV.out (by rw [ej4]; exact hd)).trans (by rw [ej4])))
            clear hd ej4 tk dk
            go_wp2_with fail
            (with_reducible refine (ct _ H.out).mono ?_)
            rintro e w5 ⟨rfl, h5⟩
            go_wp2_with fail
            (with_reducible refine (c2 _ h5).mono ?_)
            rintro e w6 ⟨rfl, h6⟩
            have H6 := Lib.hid h6
            have k2 := h6.c2
            clear h6 h5
            go_wp2_with fail
            go_step3
            refine ⟨rfl, HJ.out _ _ ?_⟩
            go_wp2_with fail
            go_quiet (fail)
            go_wp2_with fail
            rw [Exit.noGoto_ret]
            go_ret3
            exact ⟨by rw [HN2.out]; rfl, below_drewN H6.out.bel _⟩
          · have g1 := dgE_lt.2 hd
            have g2 := dgE_le hsl
            have c2 := fun w' h => dk j4 _ true w' h hs hd rfl
            have HN2 := Lib.hid (HN.out.trans ((expA_y HV.out (by rw [ej4]; exact hd)).trans (by rw [ej4])))
            clear hd ej4 tk dk
            generalize dgE s.data.toList j4 = j5 at c2 g1 g2 HN2
            go_wp2_with fail
            (with_reducible refine (ct _ H.out).mono ?_)
            rintro e w5 ⟨rfl, h5⟩
            go_wp2_with fail
            (with_reducible refine (c2 _ h5).mono ?_)
            rintro e w6 ⟨rfl, h6⟩
            go_wp2_with fail
            go_meet
            exact met_mk (by omega) g2 HN2.out h6
      case rest =>
        obtain ⟨j6, k6, rfl, p5, p6, hn6, h6⟩ := hcut
        clear H HN HV p3 p4 tk dk
        have cg := fun w => goesOn_any s j6 w p5
        cases hm : sd moreI s.data.toList j6
        · rw [hm] at cg
          have HN := Lib.hid (hn6.trans (finA_f hm))
          have H := Lib.hid h6
          have k1 := h6.c1
          have k2 := h6.c2
          clear hm hn6 h6
          go_wp2_with fail
          (with_reducible refine (cg _).mono ?_)
          rintro e w' ⟨rfl, rfl⟩
          go_wp2_with fail
          go_quiet (fail)
          go_wp2_with fail
          rw [jump_ret]
          go_ret3
          exact ⟨by rw [HN.out]; rfl, below_drewN H.out.bel _⟩
        · rw [hm] at cg
          have HN := Lib.hid (hn6.trans (finA_t hm))
          have H := Lib.hid h6
          have k1 := h6.c1
          have k2 := h6.c2
          clear hm hn6 h6
          go_wp2_with fail
          (with_reducible refine (cg _).mono ?_)
          rintro e w' ⟨rfl, rfl⟩
          go_wp2_with fail
          go_step3
          refine ⟨rfl, HJ.out _ _ ?_⟩
          go_wp2_with fail
          go_quiet (fail)
          go_wp2_with fail
          rw [Exit.noGoto_ret]
          go_ret3
          exact ⟨by rw [HN.out]; rfl, below_drewN H.out.bel _⟩
end Go.Proofs.YtjfhcgolgabkkaaDoor.Sc
