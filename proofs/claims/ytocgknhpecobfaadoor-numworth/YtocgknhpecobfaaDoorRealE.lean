/- The contract of read. -/
import Derived.Test.YtocgknhpecobfaaDoorRealD
namespace Go.Proofs.YtocgknhpecobfaaDoor
open Go.RowKit

theorem isE_t {l : List UInt8} (h : l = []) : (mkb l).toList.isEmpty = true := by rw [mkb_toList, h]; rfl
theorem isE_f {l : List UInt8} (h : ¬ l = []) : (mkb l).toList.isEmpty = false := by rw [mkb_toList]; simpa using h
theorem nil_t {l : List UInt8} (h : l = []) : (mkb l).toList = [] := by rw [mkb_toList, h]
theorem nil_f {l : List UInt8} (h : ¬ l = []) : ¬ (mkb l).toList = [] := by rw [mkb_toList]; exact h

theorem take_minus (l : List UInt8) (w0 : World) (b0 b1 b2 : Nat) (w : World) (hl : l.length ≤ 1000000000) (hR : Rd w0 b0 b1 b2 (mkb l) w) :
    Calls Tryd.prog 37 #[.string ⟨#[45]⟩, .int .i64 1, .pointer (some ⟨b2, 0, none⟩)] w fun e w' =>
      e = .returned (.string (mkb (tk [45] 1 l))) ∧ Rd w0 b0 b1 b2 (mkb (dr [45] 1 l)) w' := take_rd ⟨#[45]⟩ l 1 w0 b0 b1 b2 w hl (by decide) hR
theorem take_figs (l : List UInt8) (most : Nat) (w0 : World) (b0 b1 b2 : Nat) (w : World) (hl : l.length ≤ 1000000000) (hmost : most ≤ 1000000000) (hR : Rd w0 b0 b1 b2 (mkb l) w) :
    Calls Tryd.prog 37 #[.string ⟨#[48, 49, 50, 51, 52, 53, 54, 55, 56, 57]⟩, .int .i64 most, .pointer (some ⟨b2, 0, none⟩)] w fun e w' =>
      e = .returned (.string (mkb (tk figs most l))) ∧ Rd w0 b0 b1 b2 (mkb (dr figs most l)) w' := take_rd ⟨#[48, 49, 50, 51, 52, 53, 54, 55, 56, 57]⟩ l most w0 b0 b1 b2 w hl hmost hR
theorem take_dot (l : List UInt8) (w0 : World) (b0 b1 b2 : Nat) (w : World) (hl : l.length ≤ 1000000000) (hR : Rd w0 b0 b1 b2 (mkb l) w) :
    Calls Tryd.prog 37 #[.string ⟨#[46]⟩, .int .i64 1, .pointer (some ⟨b2, 0, none⟩)] w fun e w' =>
      e = .returned (.string (mkb (tk [46] 1 l))) ∧ Rd w0 b0 b1 b2 (mkb (dr [46] 1 l)) w' := take_rd ⟨#[46]⟩ l 1 w0 b0 b1 b2 w hl (by decide) hR
theorem take_e (l : List UInt8) (w0 : World) (b0 b1 b2 : Nat) (w : World) (hl : l.length ≤ 1000000000) (hR : Rd w0 b0 b1 b2 (mkb l) w) :
    Calls Tryd.prog 37 #[.string ⟨#[101, 69]⟩, .int .i64 1, .pointer (some ⟨b2, 0, none⟩)] w fun e w' =>
      e = .returned (.string (mkb (tk [101, 69] 1 l))) ∧ Rd w0 b0 b1 b2 (mkb (dr [101, 69] 1 l)) w' := take_rd ⟨#[101, 69]⟩ l 1 w0 b0 b1 b2 w hl (by decide) hR
theorem take_sign (l : List UInt8) (w0 : World) (b0 b1 b2 : Nat) (w : World) (hl : l.length ≤ 1000000000) (hR : Rd w0 b0 b1 b2 (mkb l) w) :
    Calls Tryd.prog 37 #[.string ⟨#[43, 45]⟩, .int .i64 1, .pointer (some ⟨b2, 0, none⟩)] w fun e w' =>
      e = .returned (.string (mkb (tk [43, 45] 1 l))) ∧ Rd w0 b0 b1 b2 (mkb (dr [43, 45] 1 l)) w' := take_rd ⟨#[43, 45]⟩ l 1 w0 b0 b1 b2 w hl (by decide) hR


set_option maxHeartbeats 4000000 in
set_option maxRecDepth 100000 in
theorem read_any (s : List UInt8) (w : World) (hs : s.length ≤ 100000) :
    Calls Tryd.prog 18 #[.string (mkb s)] w fun e w' => e = .returned (rdv (num s)) ∧ Below w.heap.size w w' := by
  have hsz := mkb_size s
  go_enter Tryd.func18, Tryd.ntmps18
  go_wp2_with fail
  refine (taking_any _ _).mono ?_
  rintro e w1 ⟨rfl, hw1⟩
  have hR1 : Rd w w.heap.size (w.heap.size + 1) (w.heap.size + 1 + 1) (mkb s) w1 := by rw [hw1]; exact rd_start w (mkb s)
  clear hw1
  go_wp2_with fail
  refine (take_minus s w _ _ _ _ (by omega) hR1).mono ?_
  rintro e w2 ⟨rfl, hR2⟩
  clear hR1
  have hl2 := dr_len [45] 1 s
  go_wp2_with fail
  refine (take_figs (dr [45] 1 s) s.length w _ _ _ _ (by omega) (by omega) hR2).mono ?_
  rintro e w3 ⟨rfl, hR3⟩
  clear hR2
  have hl3 := dr_len figs s.length (dr [45] 1 s)
  have hl3' := tk_len figs s.length (dr [45] 1 s)
  by_cases h1 : tk figs s.length (dr [45] 1 s) = []
  · skip
    have n1 := nil_t h1
    have e1 := isE_t h1
    have H1 := Lib.hid h1
    clear h1
    have hn : num s = none := by simp [num, plainN, H1.out]
    have HN := Lib.hid hn
    clear hn
    obtain ⟨c2, c1, f1, z0, z1, z2, g0, g1, g2, o0, o1, n01, n12, bel⟩ := hR3
    go_wp2_with fail
    rw [HN.out]
    refine bodyPost_ret (v := rdv none) (by simp [results, Tryd.results18, go_sem, rdv, *]) rfl ⟨rfl, ?_⟩
    first | exact ((bel.setCell o0 _).setCell o0 _).setCell o0 _ | exact bel
  have n1 := nil_f h1
  have e1 := isE_f h1
  have H1 := Lib.hid h1
  clear h1
  go_wp2_with fail
  refine (take_dot (dr figs s.length (dr [45] 1 s)) w _ _ _ _ (by omega) hR3).mono ?_
  rintro e w4 ⟨rfl, hR4⟩
  clear hR3
  have hl4 := dr_len [46] 1 (dr figs s.length (dr [45] 1 s))
  by_cases h2 : tk [46] 1 (dr figs s.length (dr [45] 1 s)) = []
  · skip
    have n2 := nil_t h2
    have e2 := isE_t h2
    have H2 := Lib.hid h2
    clear h2
    go_wp2_with fail
    refine (take_e (dr [46] 1 (dr figs s.length (dr [45] 1 s))) w _ _ _ _ (by omega) hR4).mono ?_
    rintro e w6 ⟨rfl, hR6⟩
    clear hR4
    have hl6 := dr_len [101, 69] 1 (dr [46] 1 (dr figs s.length (dr [45] 1 s)))
    by_cases h4 : tk [101, 69] 1 (dr [46] 1 (dr figs s.length (dr [45] 1 s))) = []
    · skip
      have n4 := nil_t h4
      have e4 := isE_t h4
      have H4 := Lib.hid h4
      clear h4
      by_cases h6 : (dr [101, 69] 1 (dr [46] 1 (dr figs s.length (dr [45] 1 s)))) = []
      · skip
        have n6 := nil_t h6
        have e6 := isE_t h6
        have H6 := Lib.hid h6
        clear h6
        have hn : num s = some (!(mkb (tk [45] 1 s)).toList.isEmpty, tk figs s.length (dr [45] 1 s), 0) := by rw [mkb_toList]; simp [num, plainN, expo, H1.out, H2.out, H4.out, H6.out]
        have HN := Lib.hid hn
        clear hn
        have hadd : ∀ w, (Op.stringOp .add (mkb (tk figs s.length (dr [45] 1 s))) ⟨#[]⟩).run Tryd.prog w = .ok (.string (mkb (tk figs s.length (dr [45] 1 s)))) w := fun w => by
          have h := run_string_add_sum (P := Tryd.prog) w (mkb (tk figs s.length (dr [45] 1 s))) (mkb []) (by rw [mkb_size, mkb_size]; simp only [List.length_nil]; omega)
          rw [mkb_add, List.append_nil] at h
          exact h
        obtain ⟨c2, c1, f1, z0, z1, z2, g0, g1, g2, o0, o1, n01, n12, bel⟩ := hR6
        go_wp2_with fail
        refine (trim_l (tk figs s.length (dr [45] 1 s)) _).mono ?_
        rintro e wz ⟨rfl, rfl⟩
        go_wp2_with fail
        rw [HN.out]
        refine bodyPost_ret (v := rdv (some _)) (by simp [results, Tryd.results18, go_sem, rdv, *]; try rfl) rfl ⟨rfl, ?_⟩
        exact ((bel.setCell o0 _).setCell o0 _).setCell o0 _
      · skip
        have n6 := nil_f h6
        have e6 := isE_f h6
        have H6 := Lib.hid h6
        clear h6
        have hn : num s = none := by simp [num, plainN, expo, H1.out, H2.out, H4.out, H6.out]
        have HN := Lib.hid hn
        clear hn
        obtain ⟨c2, c1, f1, z0, z1, z2, g0, g1, g2, o0, o1, n01, n12, bel⟩ := hR6
        go_wp2_with fail
        rw [HN.out]
        refine bodyPost_ret (v := rdv none) (by simp [results, Tryd.results18, go_sem, rdv, *]) rfl ⟨rfl, ?_⟩
        first | exact ((bel.setCell o0 _).setCell o0 _).setCell o0 _ | exact bel
    · skip
      have n4 := nil_f h4
      have e4 := isE_f h4
      have H4 := Lib.hid h4
      clear h4
      go_wp2_with fail
      refine (take_sign (dr [101, 69] 1 (dr [46] 1 (dr figs s.length (dr [45] 1 s)))) w _ _ _ _ (by omega) hR6).mono ?_
      rintro e w7 ⟨rfl, hR7⟩
      clear hR6
      have hl7 := dr_len [43, 45] 1 (dr [101, 69] 1 (dr [46] 1 (dr figs s.length (dr [45] 1 s))))
      go_wp2_with fail
      refine (take_figs (dr [43, 45] 1 (dr [101, 69] 1 (dr [46] 1 (dr figs s.length (dr [45] 1 s))))) s.length w _ _ _ _ (by omega) (by omega) hR7).mono ?_
      rintro e w8 ⟨rfl, hR8⟩
      clear hR7
      have hl8 := tk_len figs s.length (dr [43, 45] 1 (dr [101, 69] 1 (dr [46] 1 (dr figs s.length (dr [45] 1 s)))))
      by_cases h5 : tk figs s.length (dr [43, 45] 1 (dr [101, 69] 1 (dr [46] 1 (dr figs s.length (dr [45] 1 s))))) = []
      · skip
        have n5 := nil_t h5
        have e5 := isE_t h5
        have H5 := Lib.hid h5
        clear h5
        have hn : num s = none := by simp [num, plainN, expo, H1.out, H2.out, H4.out, H5.out]
        have HN := Lib.hid hn
        clear hn
        obtain ⟨c2, c1, f1, z0, z1, z2, g0, g1, g2, o0, o1, n01, n12, bel⟩ := hR8
        go_wp2_with fail
        rw [HN.out]
        refine bodyPost_ret (v := rdv none) (by simp [results, Tryd.results18, go_sem, rdv, *]) rfl ⟨rfl, ?_⟩
        first | exact ((bel.setCell o0 _).setCell o0 _).setCell o0 _ | exact bel
      have n5 := nil_f h5
      have e5 := isE_f h5
      have H5 := Lib.hid h5
      clear h5
      go_wp2_with fail
      refine (powerOf_any (mkb (tk [43, 45] 1 (dr [101, 69] 1 (dr [46] 1 (dr figs s.length (dr [45] 1 s)))))) (mkb (tk figs s.length (dr [43, 45] 1 (dr [101, 69] 1 (dr [46] 1 (dr figs s.length (dr [45] 1 s))))))) _ (digs_all _ _) (by rw [mkb_size]; omega)).mono ?_
      rintro e w9 ⟨rfl, rfl⟩
      rw [mkb_data, mkb_data]
      have hpw := sgnd_bd (tk [43, 45] 1 (dr [101, 69] 1 (dr [46] 1 (dr figs s.length (dr [45] 1 s))))) (pw_le (tk figs s.length (dr [43, 45] 1 (dr [101, 69] 1 (dr [46] 1 (dr figs s.length (dr [45] 1 s)))))))
      by_cases h6 : (dr figs s.length (dr [43, 45] 1 (dr [101, 69] 1 (dr [46] 1 (dr figs s.length (dr [45] 1 s)))))) = []
      · skip
        have n6 := nil_t h6
        have e6 := isE_t h6
        have H6 := Lib.hid h6
        clear h6
        have hn : num s = some (!(mkb (tk [45] 1 s)).toList.isEmpty, tk figs s.length (dr [45] 1 s), sgnd (tk [43, 45] 1 (dr [101, 69] 1 (dr [46] 1 (dr figs s.length (dr [45] 1 s))))) (pw (tk figs s.length (dr [43, 45] 1 (dr [101, 69] 1 (dr [46] 1 (dr figs s.length (dr [45] 1 s)))))))) := by rw [mkb_toList]; simp [num, plainN, expo, H1.out, H2.out, H4.out, H5.out, H6.out]
        have HN := Lib.hid hn
        clear hn
        have hadd : ∀ w, (Op.stringOp .add (mkb (tk figs s.length (dr [45] 1 s))) ⟨#[]⟩).run Tryd.prog w = .ok (.string (mkb (tk figs s.length (dr [45] 1 s)))) w := fun w => by
          have h := run_string_add_sum (P := Tryd.prog) w (mkb (tk figs s.length (dr [45] 1 s))) (mkb []) (by rw [mkb_size, mkb_size]; simp only [List.length_nil]; omega)
          rw [mkb_add, List.append_nil] at h
          exact h
        obtain ⟨c2, c1, f1, z0, z1, z2, g0, g1, g2, o0, o1, n01, n12, bel⟩ := hR8
        go_wp2_with fail
        refine (trim_l (tk figs s.length (dr [45] 1 s)) _).mono ?_
        rintro e wz ⟨rfl, rfl⟩
        go_wp2_with fail
        rw [HN.out]
        refine bodyPost_ret (v := rdv (some _)) (by simp [results, Tryd.results18, go_sem, rdv, *]; try rfl) rfl ⟨rfl, ?_⟩
        exact ((bel.setCell o0 _).setCell o0 _).setCell o0 _
      · skip
        have n6 := nil_f h6
        have e6 := isE_f h6
        have H6 := Lib.hid h6
        clear h6
        have hn : num s = none := by simp [num, plainN, expo, H1.out, H2.out, H4.out, H5.out, H6.out]
        have HN := Lib.hid hn
        clear hn
        obtain ⟨c2, c1, f1, z0, z1, z2, g0, g1, g2, o0, o1, n01, n12, bel⟩ := hR8
        go_wp2_with fail
        rw [HN.out]
        refine bodyPost_ret (v := rdv none) (by simp [results, Tryd.results18, go_sem, rdv, *]) rfl ⟨rfl, ?_⟩
        first | exact ((bel.setCell o0 _).setCell o0 _).setCell o0 _ | exact bel
  · skip
    have n2 := nil_f h2
    have e2 := isE_f h2
    have H2 := Lib.hid h2
    clear h2
    go_wp2_with fail
    refine (take_figs (dr [46] 1 (dr figs s.length (dr [45] 1 s))) s.length w _ _ _ _ (by omega) (by omega) hR4).mono ?_
    rintro e w5 ⟨rfl, hR5⟩
    clear hR4
    have hl5 := dr_len figs s.length (dr [46] 1 (dr figs s.length (dr [45] 1 s)))
    have hl5' := tk_len figs s.length (dr [46] 1 (dr figs s.length (dr [45] 1 s)))
    by_cases h3 : tk figs s.length (dr [46] 1 (dr figs s.length (dr [45] 1 s))) = []
    · skip
      have n3 := nil_t h3
      have e3 := isE_t h3
      have H3 := Lib.hid h3
      clear h3
      have hn : num s = none := by simp [num, plainN, H1.out, H2.out, H3.out]
      have HN := Lib.hid hn
      clear hn
      obtain ⟨c2, c1, f1, z0, z1, z2, g0, g1, g2, o0, o1, n01, n12, bel⟩ := hR5
      go_wp2_with fail
      rw [HN.out]
      refine bodyPost_ret (v := rdv none) (by simp [results, Tryd.results18, go_sem, rdv, *]) rfl ⟨rfl, ?_⟩
      first | exact ((bel.setCell o0 _).setCell o0 _).setCell o0 _ | exact bel
    have n3 := nil_f h3
    have e3 := isE_f h3
    have H3 := Lib.hid h3
    clear h3
    go_wp2_with fail
    refine (take_e (dr figs s.length (dr [46] 1 (dr figs s.length (dr [45] 1 s)))) w _ _ _ _ (by omega) hR5).mono ?_
    rintro e w6 ⟨rfl, hR6⟩
    clear hR5
    have hl6 := dr_len [101, 69] 1 (dr figs s.length (dr [46] 1 (dr figs s.length (dr [45] 1 s))))
    by_cases h4 : tk [101, 69] 1 (dr figs s.length (dr [46] 1 (dr figs s.length (dr [45] 1 s)))) = []
    · skip
      have n4 := nil_t h4
      have e4 := isE_t h4
      have H4 := Lib.hid h4
      clear h4
      by_cases h6 : (dr [101, 69] 1 (dr figs s.length (dr [46] 1 (dr figs s.length (dr [45] 1 s))))) = []
      · skip
        have n6 := nil_t h6
        have e6 := isE_t h6
        have H6 := Lib.hid h6
        clear h6
        have hn : num s = some (!(mkb (tk [45] 1 s)).toList.isEmpty, tk figs s.length (dr [45] 1 s) ++ tk figs s.length (dr [46] 1 (dr figs s.length (dr [45] 1 s))), 0 - ((tk figs s.length (dr [46] 1 (dr figs s.length (dr [45] 1 s)))).length : Int)) := by rw [mkb_toList]; simp [num, plainN, expo, H1.out, H2.out, H3.out, H4.out, H6.out]
        have HN := Lib.hid hn
        clear hn
        have hadd : ∀ w, (Op.stringOp .add (mkb (tk figs s.length (dr [45] 1 s))) (mkb (tk figs s.length (dr [46] 1 (dr figs s.length (dr [45] 1 s)))))).run Tryd.prog w = .ok (.string (mkb (tk figs s.length (dr [45] 1 s) ++ tk figs s.length (dr [46] 1 (dr figs s.length (dr [45] 1 s)))))) w := fun w => by rw [← mkb_add]; exact run_string_add_sum w _ _ (by rw [mkb_size, mkb_size]; omega)
        have hps := mkb_size (tk figs s.length (dr [46] 1 (dr figs s.length (dr [45] 1 s))))
        obtain ⟨c2, c1, f1, z0, z1, z2, g0, g1, g2, o0, o1, n01, n12, bel⟩ := hR6
        go_wp2_with fail
        refine (trim_l (tk figs s.length (dr [45] 1 s) ++ tk figs s.length (dr [46] 1 (dr figs s.length (dr [45] 1 s)))) _).mono ?_
        rintro e wz ⟨rfl, rfl⟩
        go_wp2_with fail
        rw [HN.out]
        refine bodyPost_ret (v := rdv (some _)) (by simp [results, Tryd.results18, go_sem, rdv, *]; try rfl) rfl ⟨rfl, ?_⟩
        exact ((bel.setCell o0 _).setCell o0 _).setCell o0 _
      · skip
        have n6 := nil_f h6
        have e6 := isE_f h6
        have H6 := Lib.hid h6
        clear h6
        have hn : num s = none := by simp [num, plainN, expo, H1.out, H2.out, H3.out, H4.out, H6.out]
        have HN := Lib.hid hn
        clear hn
        obtain ⟨c2, c1, f1, z0, z1, z2, g0, g1, g2, o0, o1, n01, n12, bel⟩ := hR6
        go_wp2_with fail
        rw [HN.out]
        refine bodyPost_ret (v := rdv none) (by simp [results, Tryd.results18, go_sem, rdv, *]) rfl ⟨rfl, ?_⟩
        first | exact ((bel.setCell o0 _).setCell o0 _).setCell o0 _ | exact bel
    · skip
      have n4 := nil_f h4
      have e4 := isE_f h4
      have H4 := Lib.hid h4
      clear h4
      go_wp2_with fail
      refine (take_sign (dr [101, 69] 1 (dr figs s.length (dr [46] 1 (dr figs s.length (dr [45] 1 s))))) w _ _ _ _ (by omega) hR6).mono ?_
      rintro e w7 ⟨rfl, hR7⟩
      clear hR6
      have hl7 := dr_len [43, 45] 1 (dr [101, 69] 1 (dr figs s.length (dr [46] 1 (dr figs s.length (dr [45] 1 s)))))
      go_wp2_with fail
      refine (take_figs (dr [43, 45] 1 (dr [101, 69] 1 (dr figs s.length (dr [46] 1 (dr figs s.length (dr [45] 1 s)))))) s.length w _ _ _ _ (by omega) (by omega) hR7).mono ?_
      rintro e w8 ⟨rfl, hR8⟩
      clear hR7
      have hl8 := tk_len figs s.length (dr [43, 45] 1 (dr [101, 69] 1 (dr figs s.length (dr [46] 1 (dr figs s.length (dr [45] 1 s))))))
      by_cases h5 : tk figs s.length (dr [43, 45] 1 (dr [101, 69] 1 (dr figs s.length (dr [46] 1 (dr figs s.length (dr [45] 1 s)))))) = []
      · skip
        have n5 := nil_t h5
        have e5 := isE_t h5
        have H5 := Lib.hid h5
        clear h5
        have hn : num s = none := by simp [num, plainN, expo, H1.out, H2.out, H3.out, H4.out, H5.out]
        have HN := Lib.hid hn
        clear hn
        obtain ⟨c2, c1, f1, z0, z1, z2, g0, g1, g2, o0, o1, n01, n12, bel⟩ := hR8
        go_wp2_with fail
        rw [HN.out]
        refine bodyPost_ret (v := rdv none) (by simp [results, Tryd.results18, go_sem, rdv, *]) rfl ⟨rfl, ?_⟩
        first | exact ((bel.setCell o0 _).setCell o0 _).setCell o0 _ | exact bel
      have n5 := nil_f h5
      have e5 := isE_f h5
      have H5 := Lib.hid h5
      clear h5
      go_wp2_with fail
      refine (powerOf_any (mkb (tk [43, 45] 1 (dr [101, 69] 1 (dr figs s.length (dr [46] 1 (dr figs s.length (dr [45] 1 s))))))) (mkb (tk figs s.length (dr [43, 45] 1 (dr [101, 69] 1 (dr figs s.length (dr [46] 1 (dr figs s.length (dr [45] 1 s)))))))) _ (digs_all _ _) (by rw [mkb_size]; omega)).mono ?_
      rintro e w9 ⟨rfl, rfl⟩
      rw [mkb_data, mkb_data]
      have hpw := sgnd_bd (tk [43, 45] 1 (dr [101, 69] 1 (dr figs s.length (dr [46] 1 (dr figs s.length (dr [45] 1 s)))))) (pw_le (tk figs s.length (dr [43, 45] 1 (dr [101, 69] 1 (dr figs s.length (dr [46] 1 (dr figs s.length (dr [45] 1 s))))))))
      by_cases h6 : (dr figs s.length (dr [43, 45] 1 (dr [101, 69] 1 (dr figs s.length (dr [46] 1 (dr figs s.length (dr [45] 1 s))))))) = []
      · skip
        have n6 := nil_t h6
        have e6 := isE_t h6
        have H6 := Lib.hid h6
        clear h6
        have hn : num s = some (!(mkb (tk [45] 1 s)).toList.isEmpty, tk figs s.length (dr [45] 1 s) ++ tk figs s.length (dr [46] 1 (dr figs s.length (dr [45] 1 s))), sgnd (tk [43, 45] 1 (dr [101, 69] 1 (dr figs s.length (dr [46] 1 (dr figs s.length (dr [45] 1 s)))))) (pw (tk figs s.length (dr [43, 45] 1 (dr [101, 69] 1 (dr figs s.length (dr [46] 1 (dr figs s.length (dr [45] 1 s)))))))) - ((tk figs s.length (dr [46] 1 (dr figs s.length (dr [45] 1 s)))).length : Int)) := by rw [mkb_toList]; simp [num, plainN, expo, H1.out, H2.out, H3.out, H4.out, H5.out, H6.out]
        have HN := Lib.hid hn
        clear hn
        have hadd : ∀ w, (Op.stringOp .add (mkb (tk figs s.length (dr [45] 1 s))) (mkb (tk figs s.length (dr [46] 1 (dr figs s.length (dr [45] 1 s)))))).run Tryd.prog w = .ok (.string (mkb (tk figs s.length (dr [45] 1 s) ++ tk figs s.length (dr [46] 1 (dr figs s.length (dr [45] 1 s)))))) w := fun w => by rw [← mkb_add]; exact run_string_add_sum w _ _ (by rw [mkb_size, mkb_size]; omega)
        have hps := mkb_size (tk figs s.length (dr [46] 1 (dr figs s.length (dr [45] 1 s))))
        obtain ⟨c2, c1, f1, z0, z1, z2, g0, g1, g2, o0, o1, n01, n12, bel⟩ := hR8
        go_wp2_with fail
        refine (trim_l (tk figs s.length (dr [45] 1 s) ++ tk figs s.length (dr [46] 1 (dr figs s.length (dr [45] 1 s)))) _).mono ?_
        rintro e wz ⟨rfl, rfl⟩
        go_wp2_with fail
        rw [HN.out]
        refine bodyPost_ret (v := rdv (some _)) (by simp [results, Tryd.results18, go_sem, rdv, *]; try rfl) rfl ⟨rfl, ?_⟩
        exact ((bel.setCell o0 _).setCell o0 _).setCell o0 _
      · skip
        have n6 := nil_f h6
        have e6 := isE_f h6
        have H6 := Lib.hid h6
        clear h6
        have hn : num s = none := by simp [num, plainN, expo, H1.out, H2.out, H3.out, H4.out, H5.out, H6.out]
        have HN := Lib.hid hn
        clear hn
        obtain ⟨c2, c1, f1, z0, z1, z2, g0, g1, g2, o0, o1, n01, n12, bel⟩ := hR8
        go_wp2_with fail
        rw [HN.out]
        refine bodyPost_ret (v := rdv none) (by simp [results, Tryd.results18, go_sem, rdv, *]) rfl ⟨rfl, ?_⟩
        first | exact ((bel.setCell o0 _).setCell o0 _).setCell o0 _ | exact bel
end Go.Proofs.YtocgknhpecobfaaDoor
