/- The reference's Lex (copperplateref09). -/
import Derived.Test.YtcedfonkahffcaaGreatLexT
import Derived.Test.YtcedfonkahffcaaGreatScanT
import Derived.Test.YtcedfonkahffcaaGreatUtfJ
namespace Go.Proofs.YtcedfonkahffcaaGreat
open Go.RowKit Go.Shelf
set_option linter.unusedVariables false
set_option maxRecDepth 100000

theorem row_below {W W' : World} {base : Nat} {e : TypeId} {size n : Nat} {v : Value} {xs : List Value} (h : W.ownsRow base e size v n xs) (hb : Below W.heap.size W W') : W'.ownsRow base e size v n xs := by
  refine ⟨h.1, ?_⟩
  rcases h.2 with h0 | ⟨g, cap, cur, hv, h1, h2, r⟩
  · exact .inl h0
  · exact .inr ⟨g, cap, cur, hv, h1, (hb.block g (Array.getElem?_eq_some_iff.1 h2).1).trans h2, r⟩
/-- How the reference's Lex ends. -/
def RlE (s : ByteArray) (w : World) (e : Ending) (w' : World) : Prop := ∃ v er p, e = .returned (.tuple #[v, .int .i64 er, .int .i64 p]) ∧ Below w.heap.size w w' ∧
  ((allOk (ylds s.data.toList 0) = true ∧ er = 0 ∧ p = s.size ∧ w'.ownsRow w.heap.size 26 4 v (ylds s.data.toList 0).length (cls (ylds s.data.toList 0))) ∨
   (allOk (ylds s.data.toList 0) = false ∧ v = .slice none 0 0 ∧ er = (errOf (ylds s.data.toList 0)).1 ∧ p = (errOf (ylds s.data.toList 0)).2))
/-- Between two rounds. -/
structure Rx (w : World) (s : ByteArray) (v : Value) (a : Nat) (pre : List Yl) (W : World) : Prop where
  row : W.ownsRow w.heap.size 26 4 v pre.length (cls pre)
  gone : Gone s.data.toList pre a
  ok : allOk pre = true
  bel : Below w.heap.size w W

set_option maxHeartbeats 2000000 in
theorem rlex_in (s : ByteArray) (hs : s.size ≤ 1000) (hone : ∀ (k : Nat) (t : Tk), k < s.size → tk (s.data.toList.drop k) = t → ∀ w, Calls Tryz.prog 7 #[.string s, .int .i64 k] w fun r w' => r = oneE t k ∧ Below w.heap.size w w') (w : World) (hbad : badI s.data.toList < 0) :
    Calls Tryz.prog 9 #[.string s] w fun e w' => RlE s w e w' := by
  obtain ⟨i0, hi, hz0, hz1, hz2⟩ := info_parts infoT
  have HI := Lib.hid hi
  have HI0 := Lib.hid hz0
  have HI1 := Lib.hid hz1
  have HI2 := Lib.hid hz2
  clear hi hz0 hz1 hz2
  have HZ := Lib.hid (Lib.size_eq s).symm
  have HH := Lib.hid hone
  clear hone
  have r0 := fun w => rbad_any s (by omega) w
  generalize badI s.data.toList = bd at *
  have rb := fun (a : Nat) (ha : a ≤ s.size) w => Sc.rblank_any s a w (by omega)
  have r1 := rb 0 (Nat.zero_le _)
  rw [Sc.atE_in (Nat.zero_le _), List.drop_zero] at r1
  have r1' : ∀ w, Calls Tryz.prog 28 #[.string s, .int .i64 0] w fun e w' => e = .returned (.int .i64 (((0 : Nat) : Int) + (Sc.blT s.data.toList : Int))) ∧ w = w' := r1
  clear r1
  go_enter Tryz.func9, Tryz.ntmps9
  go_wp2_with fail
  (with_reducible refine (r0 _).mono ?_)
  rintro e w1 ⟨rfl, hb1⟩
  go_wp2_with fail
  (with_reducible refine (r1' _).mono ?_)
  rintro e w' ⟨rfl, rfl⟩
  clear r0 r1'
  go_wp2_with fail
  go_loopw [6, 7] (fun v f wr => ∃ (a : Nat) (pre : List Yl), f = .int .i64 ((a : Int) + (Sc.blT (s.data.toList.drop a) : Int)) ∧ Rx w s v a pre wr) (fun _ f _ => s.size - (intOf f).toNat)
  case atStart => exact ⟨0, [], by simp, World.ownsRow_nil _ _ _ _, Gone.start _, rfl, hb1⟩
  case round =>
    rename_i v f
    obtain ⟨a, pre, rfl, hrx⟩ := hrel
    have has : a ≤ s.size := by have := hrx.gone.2; rw [HZ.out] at this; exact this
    have hbl := Sc.blT_le (s.data.toList.drop a)
    rw [List.length_drop, HZ.out] at hbl
    have hpl : pre.length ≤ s.size := by
      have h1 := ylds_bd s.data.toList 0
      rw [HZ.out, ← hrx.gone.1, List.length_append] at h1
      omega
    have hsz := hrx.bel.size
    have HX := Lib.hid hrx
    clear hrx
    generalize hb : Sc.blT (s.data.toList.drop a) = b at *
    by_cases hlt : a + b < s.size
    · obtain ⟨t, ht⟩ : ∃ t, tk (s.data.toList.drop (a + b)) = t := ⟨_, rfl⟩
      have hk := tk_ok (s.data.toList.drop (a + b))
      rw [ht] at hk
      have hkl := hk.le
      rw [List.length_drop, HZ.out] at hkl
      have r1 := HH.out (a + b) t hlt ht
      rw [oneE_yl hk.err] at r1
      have hcast : ((a + b : Nat) : Int) = (a : Int) + (b : Int) := by omega
      rw [hcast] at r1
      have HB := Lib.hid hb
      have HT := Lib.hid ht
      have HK := Lib.hid hk
      clear hb ht hk
      by_cases he : t.e = 0
      · have hnx := Gone.next HX.out.gone.1 HB.out (by rw [HZ.out]; exact hlt) HT.out he
        have hpos := HK.out.ok he
        have r2 := rb (a + b + t.n) (by omega)
        rw [Sc.atE_in (by rw [HZ.out]; omega), show ((a + b + t.n : Nat) : Int) = (a : Int) + (b : Int) + (t.n : Int) by omega] at r2
        have HN := Lib.hid hnx
        have HE := Lib.hid he
        rw [he] at r1
        clear hnx rb he
        have hEc : cl4 ⟨t, a + b⟩ = [.int .i64 t.k, .string (mkb t.v), .int .i64 (Yl.a ⟨t, a + b⟩), .int .i64 (Yl.z ⟨t, a + b⟩)] := rfl
        go_wp2_with fail
        (with_reducible refine (r1 _).mono ?_)
        rintro e w2 ⟨rfl, hb2⟩
        have hown2 := (row_below HX.out.row hb2).alloc (.cells #[.int .i64 t.k, .string (mkb t.v), .int .i64 (Yl.a ⟨t, a + b⟩), .int .i64 (Yl.z ⟨t, a + b⟩)] 26)
        have hB2 := HX.out.bel.trans ((bel_alloc hb2 (.cells #[.int .i64 t.k, .string (mkb t.v), .int .i64 (Yl.a ⟨t, a + b⟩), .int .i64 (Yl.z ⟨t, a + b⟩)] 26)).mono hsz)
        have hs2 := hb2.size
        have HO := Lib.hid hown2
        clear hb2 hown2
        have hnews : ∀ j u, (cl4 ⟨t, a + b⟩)[j]? = some u → (((w2.alloc (.cells #[.int .i64 t.k, .string (mkb t.v), .int .i64 (Yl.a ⟨t, a + b⟩), .int .i64 (Yl.z ⟨t, a + b⟩)] 26)).alloc (.cells #[.int .i64 t.k, .string (mkb t.v), .int .i64 (Yl.a ⟨t, a + b⟩), .int .i64 (Yl.z ⟨t, a + b⟩)] 26)).cell? ((⟨w2.heap.size + 1, 0, none⟩ : Addr).add j) = some u) := by
          have := cells_new (w2.alloc (.cells #[.int .i64 t.k, .string (mkb t.v), .int .i64 (Yl.a ⟨t, a + b⟩), .int .i64 (Yl.z ⟨t, a + b⟩)] 26)) (cl4 ⟨t, a + b⟩) 26
          rwa [World.size_alloc] at this
        have HW := Lib.hid hnews
        clear hnews
        go_wp2_with (at_builtin; refine wpList_append_own _ rfl _ _ 22 rfl w.heap.size 26 i0 (.agg #[.int .i64 0, .string ⟨#[]⟩, .int .i64 0, .int .i64 0]) 4 40 Tryz.underlying22 HI.out HI0.out HI1.out HI2.out rfl (by decide) _ _ _ rfl (HO.out.alloc _) ⟨w2.heap.size + 1, 0, none⟩ 1 1 (cl4 ⟨t, a + b⟩) rfl rfl HW.out (by intro u hu; rw [hEc] at hu; simp at hu; rcases hu with rfl | rfl | rfl | rfl <;> rfl) (by unfold maxLen; omega) (by omega) (by simp; omega) ?_)
        intro v' w5 hown' hgrow _
        have hB5 : Below w.heap.size w w5 := (hB2.alloc (by simp; omega) _).grown hgrow (by simp; omega) (fun k e => (HO.out.lt k e).1)
        have HO5 := Lib.hid hown'
        clear hown' hgrow hB2 HW HO
        go_wp2_with fail
        (with_reducible refine (r2 _).mono ?_)
        rintro e w' ⟨rfl, rfl⟩
        go_wp2
        go_roundw
        case rel => exact ⟨a + b + t.n, _, by go_num, by rw [cls_snoc, List.length_append]; exact HO5.out, HN.out, allOk_snoc HX.out.ok HE.out, hB5⟩
        case measure => simp [intOf]; omega
      · have hnx := Gone.err HX.out.gone.1 HB.out (by rw [HZ.out]; exact hlt) HT.out he
        have hE : errOf (ylds s.data.toList 0) = (t.e, ((a + b + t.n : Nat) : Int)) := by rw [← hnx]; exact errOf_last (y := ⟨t, a + b⟩) HX.out.ok he
        have hno : allOk (ylds s.data.toList 0) = false := by rw [← hnx]; exact allOk_bad he
        have HN := Lib.hid (And.intro hE hno)
        clear hnx rb hE hno
        go_wp2_with fail
        (with_reducible refine (r1 _).mono ?_)
        rintro e w2 ⟨rfl, hb2⟩
        have hB2 := HX.out.bel.trans ((bel_alloc hb2 (.cells #[.int .i64 t.k, .string (mkb t.v), .int .i64 (Yl.a ⟨t, a + b⟩), .int .i64 (Yl.z ⟨t, a + b⟩)] 26)).mono hsz)
        clear hb2 r1
        go_wp2
        go_ret3
        exact ⟨_, _, _, rfl, hB2, .inr ⟨HN.out.2, rfl, by rw [HN.out.1], by rw [HN.out.1]; show _ = ((a + b + t.n : Nat) : Int); omega⟩⟩
    · have hst := Gone.stop HX.out.gone.1 (by rw [hb, HZ.out]; exact hlt) (by rw [HZ.out]; exact has)
      have HN := Lib.hid hst
      clear hst rb
      go_wp2
      go_ret3
      refine ⟨_, _, _, rfl, HX.out.bel, .inl ⟨by rw [← HN.out]; exact HX.out.ok, rfl, rfl, by rw [← HN.out]; exact HX.out.row⟩⟩
theorem rlex_yes {s : ByteArray} {Y : List Yl} (hs : s.size ≤ 1000) (hone : ∀ (k : Nat) (t : Tk), k < s.size → tk (s.data.toList.drop k) = t → ∀ w, Calls Tryz.prog 7 #[.string s, .int .i64 k] w fun r w' => r = oneE t k ∧ Below w.heap.size w w')
    (hm : thru s.data.toList = s.data.toList.length) (hY : ylds s.data.toList 0 = Y) (ho : allOk Y = true) (w : World) :
    Calls Tryz.prog 9 #[.string s] w fun e w' => ∃ A c, e = .returned (.tuple #[.slice A Y.length c, .int .i64 0, .int .i64 s.size]) ∧ Below w.heap.size w w' ∧ Tr w' A (Y.map Yl.q) := by
  refine (rlex_in s hs hone w (badI_all' hm)).mono ?_
  rintro e w' ⟨v, er, p, rfl, hb, ⟨h1, rfl, rfl, h4⟩ | ⟨h1, _⟩⟩
  · rw [hY] at h4
    obtain ⟨A, c, rfl⟩ := row_slice h4
    exact ⟨A, c, rfl, hb, (tr_row h4).2⟩
  · rw [hY, ho] at h1; cases h1
theorem rlex_no {s : ByteArray} {Y : List Yl} {er p : Int} (hs : s.size ≤ 1000) (hone : ∀ (k : Nat) (t : Tk), k < s.size → tk (s.data.toList.drop k) = t → ∀ w, Calls Tryz.prog 7 #[.string s, .int .i64 k] w fun r w' => r = oneE t k ∧ Below w.heap.size w w')
    (hm : thru s.data.toList = s.data.toList.length) (hY : ylds s.data.toList 0 = Y) (ho : allOk Y = false) (he : errOf Y = (er, p)) (w : World) :
    Calls Tryz.prog 9 #[.string s] w fun e w' => e = .returned (.tuple #[.slice none 0 0, .int .i64 er, .int .i64 p]) ∧ Below w.heap.size w w' := by
  refine (rlex_in s hs hone w (badI_all' hm)).mono ?_
  rintro e w' ⟨v, er', p', rfl, hb, ⟨h1, _⟩ | ⟨h1, rfl, h3, h4⟩⟩
  · rw [hY, ho] at h1; cases h1
  · rw [hY, he] at h3 h4
    dsimp at h3 h4
    subst h3 h4
    exact ⟨rfl, hb⟩
set_option maxHeartbeats 400000 in
theorem rlex_bad {s : ByteArray} {b : Int} (hs : s.size ≤ 1000) (hb : badI s.data.toList = b) (h0 : 0 ≤ b) (w : World) :
    Calls Tryz.prog 9 #[.string s] w fun e w' => e = .returned (.tuple #[.slice none 0 0, .int .i64 2, .int .i64 b]) ∧ Below w.heap.size w w' := by
  have r0 := fun w => rbad_any s (by omega) w
  rw [hb] at r0
  clear hb
  go_enter Tryz.func9, Tryz.ntmps9
  go_wp2_with fail
  (with_reducible refine (r0 _).mono ?_)
  rintro e w1 ⟨rfl, hb1⟩
  go_wp2
  go_ret3
  exact ⟨rfl, hb1⟩
end Go.Proofs.YtcedfonkahffcaaGreat
