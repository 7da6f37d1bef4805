/- The law FoldMoves: its mathematics and its walk. -/
import Derived.Test.YtpmdkjbkcncnnaaFoldT
namespace Go.Proofs.Ytpmdkjbkcncnnaa
open Go.RowKit
set_option linter.unusedVariables false

/-- Each line but the first one with q blanks ahead. -/
def mv (q : Nat) : List (List UInt8) → List (List UInt8)
  | [] => []
  | h :: t => h :: t.map (List.replicate q 32 ++ ·)
theorem mv_len (q : Nat) (ls : List (List UInt8)) : (mv q ls).length = ls.length := by cases ls <;> simp [mv]
theorem mv_zero {q : Nat} {ls : List (List UInt8)} {x : List UInt8} (h : ls[0]? = some x) : (mv q ls)[0]? = some x := by
  cases ls with
  | nil => simp at h
  | cons a t => simpa [mv] using h
theorem mv_succ {q : Nat} {ls : List (List UInt8)} {k : Nat} {x : List UInt8} (h : ls[k + 1]? = some x) : (mv q ls)[k + 1]? = some (List.replicate q 32 ++ x) := by
  cases ls with
  | nil => simp at h
  | cons a t => simp at h; simp [mv, h]
theorem mv_noE {q : Nat} {ls : List (List UInt8)} (h : ∀ x ∈ ls, noE x) : ∀ x ∈ mv q ls, noE x := by
  cases ls with
  | nil => exact h
  | cons a t =>
    intro x hx
    rcases List.mem_cons.1 hx with rfl | hx
    · exact h x (by simp)
    · obtain ⟨y, hy, rfl⟩ := List.mem_map.1 hx
      intro b hb
      rcases List.mem_append.1 hb with hb | hb
      · exact noE_rep q b hb
      · exact h y (by simp [hy]) b hb
theorem blk_app (q : Nat) (x : List UInt8) : blk (List.replicate q 32 ++ x) = blk x := by
  unfold blk; rw [List.all_append]
  have := blk_rep q
  unfold blk at this
  rw [this, Bool.true_and]
theorem mg_app (q : Nat) (x : List UInt8) : mg (List.replicate q 32 ++ x) = q + mg x := by
  induction q with
  | zero => simp
  | succ q ih => rw [List.replicate_succ, List.cons_append, mg_y rfl, ih]; omega
theorem indF_mv (q : Nat) (t : List (List UInt8)) (a a' : Int) (h : (a = -1 ∧ a' = -1) ∨ (0 ≤ a ∧ a' = a + q)) :
    (t.foldl indS a = -1 ∧ (t.map (List.replicate q 32 ++ ·)).foldl indS a' = -1) ∨ (0 ≤ t.foldl indS a ∧ (t.map (List.replicate q 32 ++ ·)).foldl indS a' = t.foldl indS a + q) := by
  induction t generalizing a a' with
  | nil => exact h
  | cons x t ih =>
    rw [List.map_cons, List.foldl_cons, List.foldl_cons]
    apply ih
    cases hb : blk x
    · have hb2 : blk (List.replicate q 32 ++ x) = false := by rw [blk_app]; exact hb
      have hm := mg_app q x
      by_cases hk : a < 0 ∨ (mg x : Int) < a
      · rw [indS_y hb hk, indS_y hb2 (by rw [hm]; omega), hm]
        right; omega
      · rw [indS_n hk, indS_n (by rw [hm]; omega)]
        exact h
    · rw [indS_b hb, indS_b (by rw [blk_app]; exact hb)]
      exact h
theorem ind_mv {q : Nat} {ls : List (List UInt8)} (h : 0 ≤ ind ls) : ind (mv q ls) = ind ls + q := by
  cases ls with
  | nil => exact absurd h (by decide)
  | cons a t =>
    rcases indF_mv q t (-1) (-1) (.inl ⟨rfl, rfl⟩) with ⟨h1, _⟩ | ⟨_, h2⟩
    · have : ind (a :: t) = -1 := h1
      omega
    · exact h2
theorem cut_mv {q : Nat} {ls : List (List UInt8)} (h : 0 ≤ ind ls) : cutL (ind (mv q ls)) (mv q ls) = cutL (ind ls) ls := by
  rw [ind_mv h]
  cases ls with
  | nil => rfl
  | cons a t =>
    simp only [mv, cutL, List.map_map]
    congr 1
    apply List.map_congr_left
    intro x _
    have e : (ind (a :: t) + (q : Int)).toNat = q + (ind (a :: t)).toNat := by omega
    show (List.replicate q 32 ++ x).drop _ = _
    rw [e, ← List.drop_drop]
    congr 1
    have : (List.replicate q (32 : UInt8) ++ x).drop q = x := by
      have := List.drop_left (l₁ := List.replicate q (32 : UInt8)) (l₂ := x)
      rwa [List.length_replicate] at this
    exact this
theorem fld_mv {q : Nat} {ls : List (List UInt8)} (hE : ∀ x ∈ ls, noE x) (h : 0 ≤ ind ls) : fld (Lib.join (mv q ls) [10]) = fld (Lib.join ls [10]) := by
  have h0 : ls ≠ [] := by rintro rfl; exact absurd h (by decide)
  have h1 : mv q ls ≠ [] := by intro e; apply h0; have := congrArg List.length e; rw [mv_len] at this; exact List.eq_nil_of_length_eq_zero this
  have e1 := lns_join hE h0
  have e2 := lns_join (mv_noE (q := q) hE) h1
  unfold fld fls
  rw [e1, e2, cut_mv h]

theorem sadd2 {A B : ByteArray} {a b : List UInt8} (hA : A = mkb a) (hB : B = mkb b) (h : a.length + b.length ≤ 1000000000) : ∃ R, R = mkb (a ++ b) ∧ ∀ w, (Op.stringOp .add A B).run Try.prog w = .ok (.string R) w :=
  ⟨mkb (a ++ b), rfl, fun w => by rw [hA, hB, ← mkb_add]; exact run_string_add_sum w _ _ (by rw [mkb_size, mkb_size]; omega)⟩
theorem ext20 (n : Nat) (h : n ≤ 20) : (⟨#[32, 32, 32, 32, 32, 32, 32, 32, 32, 32, 32, 32, 32, 32, 32, 32, 32, 32, 32, 32]⟩ : ByteArray).extract 0 n = mkb (List.replicate n 32) := by
  rw [ext_mkb']
  congr 1
  show ([32, 32, 32, 32, 32, 32, 32, 32, 32, 32, 32, 32, 32, 32, 32, 32, 32, 32, 32, 32] : List UInt8).take n = _
  rw [show ([32, 32, 32, 32, 32, 32, 32, 32, 32, 32, 32, 32, 32, 32, 32, 32, 32, 32, 32, 32] : List UInt8) = List.replicate 20 32 from rfl, List.take_replicate, Nat.min_eq_left h]

/-- What stands behind k lines. -/
def Mo (q : Nat) (ls : List (List UInt8)) (k : Nat) (y z : List UInt8) : Prop :=
  y = Lib.join (ls.take k) [10] ∧ z = Lib.join ((mv q ls).take k) [10] ∧ (∀ j x, j < k → ls[j]? = some x → noE x) ∧ y.length ≤ 1050000 ∧ z.length ≤ y.length + 20 * k
theorem Mo.start (q : Nat) (ls : List (List UInt8)) : Mo q ls 0 [] [] := ⟨rfl, rfl, fun j x hj => by omega, by simp, by simp⟩
theorem Mo.one {q : Nat} {ls : List (List UInt8)} {y z x : List UInt8} (h : Mo q ls 0 y z) (hx : ls[0]? = some x) (he : noE x) (hl : x.length ≤ 1048576) : Mo q ls (0 + 1) (y ++ x) (z ++ x) := by
  obtain ⟨rfl, rfl, h3, h4, h5⟩ := h
  have e : Lib.join (ls.take 0) [10] = [] := rfl
  have e' : Lib.join ((mv q ls).take 0) [10] = [] := rfl
  refine ⟨by rw [join_first hx, e]; rfl, by rw [join_first (mv_zero hx), e']; rfl, fun j u hj hu => ?_, by rw [e]; simp; omega, by rw [e, e']; simp⟩
  obtain rfl : j = 0 := by omega
  rw [hx] at hu; cases hu; exact he
theorem Mo.next {q : Nat} {ls : List (List UInt8)} {k : Nat} {y z x : List UInt8} (hq : q ≤ 20) (h : Mo q ls (k + 1) y z) (hx : ls[k + 1]? = some x) (he : noE x) (hl : x.length ≤ 1048576) (hy : y.length ≤ 600) :
    Mo q ls (k + 1 + 1) (y ++ [10] ++ x) (z ++ [10] ++ List.replicate q 32 ++ x) := by
  obtain ⟨h1, h2, h3, h4, h5⟩ := h
  refine ⟨by rw [join_next hx, h1], by rw [join_next (mv_succ hx), h2]; simp, fun j u hj hu => ?_, by simp; omega, by simp; omega⟩
  by_cases e : j = k + 1
  · subst e; rw [hx] at hu; cases hu; exact he
  · exact h3 j u (by omega) hu
theorem Mo.fld {q : Nat} {ls : List (List UInt8)} {k : Nat} {y z : List UInt8} (h : Mo q ls k y z) (hk : ls.length ≤ k) (hp : 0 ≤ ind ls) : fld z = fld y := by
  obtain ⟨rfl, rfl, h3, _, _⟩ := h
  rw [List.take_of_length_le hk, List.take_of_length_le (by rw [mv_len]; exact hk)]
  exact fld_mv (fun x hx => by
    obtain ⟨j, hj⟩ := List.getElem?_of_mem hx
    exact h3 j x (by have := (List.getElem?_eq_some_iff.1 hj).1; omega) hj) hp

set_option maxHeartbeats 4000000 in
set_option maxRecDepth 100000 in
theorem moves_law (A : Option Addr) (n c : Nat) (i : Int) (ls : List (List UInt8)) (w : World) (hi0 : -9223372036854775808 ≤ i) (hi : i ≤ 9223372036854775807)
    (hr : Rs w w.heap.size A ls) (hn : ls.length = n) (hn2 : n ≤ 9223372036854775807) (hl : ∀ x ∈ ls, x.length ≤ 1048576) :
    Calls Try.prog 7 #[.slice A n c, .int .i64 i] w fun e w' => e = .returned (.bool true) ∧ Below w.heap.size w w' := by
  have HR := Lib.hid hr
  have HN := Lib.hid hn
  have HLL := Lib.hid hl
  clear hr hn hl
  by_cases hn6 : 60 < n
  · have gn : (60 : Int) < (n : Int) := by omega
    clear hn6
    go_enter Try.func7, Try.ntmps7
    (try simp only [List.append_eq, List.cons_append, List.nil_append])
    go_wp2_with fail
    (with_reducible refine (awake_any _).mono ?_)
    rintro e w1 ⟨rfl, hb1⟩
    go_wp2_with fail
    go_ret
    exact ⟨by first | rfl | (simp; done) | (simp; omega), hb1⟩
  have gn : ¬ (60 : Int) < (n : Int) := by omega
  by_cases h0 : i < 0
  · clear hn6
    go_enter Try.func7, Try.ntmps7
    (try simp only [List.append_eq, List.cons_append, List.nil_append])
    go_wp2_with fail
    (with_reducible refine (awake_any _).mono ?_)
    rintro e w1 ⟨rfl, hb1⟩
    go_wp2_with fail
    go_ret
    exact ⟨by first | rfl | (simp; done) | (simp; omega), hb1⟩
  by_cases h2 : 20 < i
  · clear hn6
    go_enter Try.func7, Try.ntmps7
    (try simp only [List.append_eq, List.cons_append, List.nil_append])
    go_wp2_with fail
    (with_reducible refine (awake_any _).mono ?_)
    rintro e w1 ⟨rfl, hb1⟩
    go_wp2_with fail
    go_ret
    exact ⟨by first | rfl | (simp; done) | (simp; omega), hb1⟩
  obtain ⟨q, rfl⟩ := Int.eq_ofNat_of_zero_le (show 0 ≤ i by omega)
  have hq : q ≤ 20 := by omega
  have ex := ext20 q hq
  obtain ⟨B, hB⟩ : ∃ B, B = mkb (List.replicate q 32) := ⟨_, rfl⟩
  rw [← hB] at ex
  have HBQ := Lib.hid hB
  clear hB
  go_enter Try.func7, Try.ntmps7
  (try simp only [List.append_eq, List.cons_append, List.nil_append])
  go_wp2_with fail
  (with_reducible refine (awake_any _).mono ?_)
  rintro e w1 ⟨rfl, hb1⟩
  go_wp2_with fail
  go_loopw [6, 7, 8] (fun a b i wr => ∃ (k : Nat) (y z : List UInt8), k ≤ n ∧ i = .int .i64 k ∧ a = .string (mkb y) ∧ b = .string (mkb z) ∧ Mo q ls k y z ∧ Below w.heap.size w wr) (fun _ _ i _ => n - (intOf i).toNat)
  case atStart => exact ⟨0, [], [], by omega, rfl, rfl, rfl, Mo.start _ _, hb1⟩
  case round =>
    obtain ⟨k, y, z, hk, rfl, rfl, rfl, hmo, hB⟩ := hrel
    clear hb1
    have hy5 := hmo.2.2.2.1
    have hz5 := hmo.2.2.2.2
    have HMO := Lib.hid hmo
    clear hmo
    have hyz := mkb_size y
    by_cases hlt : k < n
    · obtain ⟨x, hx, hxm⟩ := get_of (ls := ls) (k := k) (by rw [HN.out]; exact hlt)
      have hxl := HLL.out x hxm
      obtain ⟨ad, hA, _, hc⟩ := (HR.out.below hB) k x hx
      by_cases h6 : 600 < y.length
      · have g6 : (600 : Int) < ((mkb y).size : Int) := by omega
        clear h6 hyz hx
        generalize mkb y = Y at *
        generalize mkb z = Z at *
        go_wp2
        go_ret
        exact ⟨rfl, hB⟩
      have g6 : ¬ (600 : Int) < ((mkb y).size : Int) := by omega
      have hy6 : y.length ≤ 600 := by omega
      obtain ⟨r, hr⟩ : ∃ r, (lns x).length = r + 1 := ⟨(lns x).length - 1, by have := lns_pos x; omega⟩
      have hrc := lns_count x
      have r1 := lines_n (mkb x) (by rw [mkb_size]; omega) r hr
      have hr3 : r ≤ 1048576 := by omega
      subst hA
      have HC := Lib.hid (show ∀ w', Below w.heap.size w w' → w'.cell? (ad.add k) = some (.string (mkb x)) from fun w' hb => by
        obtain ⟨ad2, e, _, h⟩ := (HR.out.below hb) k x hx
        injection e with e; subst e; exact h)
      by_cases hr0 : r = 0
      · subst hr0
        have he := lns_len1 hr
        have t1 : (((0 : Nat) : Int) + 1 != 1) = false := rfl
        cases k with
        | zero =>
          have HM2 := Lib.hid (HMO.out.one hx he hxl)
          obtain ⟨Y2, p1, s1⟩ := sadd2 (A := mkb y) (B := mkb x) rfl rfl (by omega)
          obtain ⟨Z2, p2, s2⟩ := sadd2 (A := mkb z) (B := mkb x) rfl rfl (by omega)
          have P1 := Lib.hid p1
          have P2 := Lib.hid p2
          have hc' : wr.cell? ad = some (.string (mkb x)) := hc
          have HC' := Lib.hid (show ∀ w', Below w.heap.size w w' → w'.cell? ad = some (.string (mkb x)) from HC.out)
          clear hx hr hrc he hyz p1 p2 h6 hc HC
          generalize mkb y = Y at *
          generalize mkb z = Z at *
          generalize mkb x = X at *
          go_wp2_with fail
          (with_reducible refine (r1 _).mono ?_)
          rintro e w2 ⟨g2, c2, rfl, hc2, row2, hb2⟩
          have hB2 := bel_trans hB hb2
          have c3 := HC'.out w2 hB2
          clear hb2 row2 r1 hc'
          go_wp2
          go_roundw
          case rel => exact ⟨0 + 1, y ++ x, z ++ x, by omega, by go_num, by rw [P1.out], by rw [P2.out], HM2.out, hB2⟩
          case measure => first | (simp [intOf]; done) | (simp [intOf]; omega)
        | succ k =>
          have HM2 := Lib.hid (HMO.out.next hq hx he hxl hy6)
          obtain ⟨Y1, p1, s1⟩ := sadd2 (A := mkb y) (B := ⟨#[10]⟩) (b := [10]) rfl rfl (by simp; omega)
          obtain ⟨Y2, p2, s2⟩ := sadd2 (A := Y1) (B := mkb x) p1 rfl (by simp; omega)
          obtain ⟨Z1, p3, s3⟩ := sadd2 (A := mkb z) (B := ⟨#[10]⟩) (b := [10]) rfl rfl (by simp; omega)
          obtain ⟨Z2, p4, s4⟩ := sadd2 (A := Z1) (B := B) p3 HBQ.out (by simp; omega)
          obtain ⟨Z3, p5, s5⟩ := sadd2 (A := Z2) (B := mkb x) p4 rfl (by simp; omega)
          have P1 := Lib.hid p2
          have P2 := Lib.hid p5
          have hc' : wr.cell? ⟨ad.block, ad.off + (k + 1), none⟩ = some (.string (mkb x)) := hc
          have HC' := Lib.hid (show ∀ w', Below w.heap.size w w' → w'.cell? ⟨ad.block, ad.off + (k + 1), none⟩ = some (.string (mkb x)) from HC.out)
          clear hx hr hrc he hyz p1 p2 p3 p4 p5 h6
          generalize mkb y = Y at *
          generalize mkb z = Z at *
          generalize mkb x = X at *
          go_wp2_with fail
          (with_reducible refine (r1 _).mono ?_)
          rintro e w2 ⟨g2, c2, rfl, hc2, row2, hb2⟩
          have hB2 := bel_trans hB hb2
          have c3 := HC'.out w2 hB2
          have c4 := HC.out w2 hB2
          clear hb2 row2 r1 hc' hc
          go_wp2
          go_roundw
          case rel => exact ⟨k + 1 + 1, y ++ [10] ++ x, z ++ [10] ++ List.replicate q 32 ++ x, by omega, by go_num, by rw [P1.out], by rw [P2.out], HM2.out, hB2⟩
          case measure => first | (simp [intOf]; done) | (simp [intOf]; omega)
      · have t1 : (((r : Nat) : Int) + 1 != 1) = true := by simp only [bne_iff_ne, ne_eq]; omega
        have t2 : (1 : Int) < (r : Int) + 1 := by omega
        clear hx hr hrc hyz h6
        generalize mkb y = Y at *
        generalize mkb z = Z at *
        generalize mkb x = X at *
        go_wp2_with fail
        (with_reducible refine (r1 _).mono ?_)
        rintro e w2 ⟨g2, c2, rfl, hc2, row2, hb2⟩
        have hB2 := bel_trans hB hb2
        have c3 := HC.out w2 hB2
        clear hb2 row2 hc
        go_wp2_with fail
        (with_reducible refine (r1 _).mono ?_)
        rintro e w3 ⟨g3, c3', rfl, hc3, row3, hb3⟩
        have hB3 := bel_trans hB2 hb3
        clear hb3 row3 r1
        go_wp2
        go_ret
        exact ⟨by first | rfl | (simp; done) | (simp; omega), hB3⟩
    · obtain ⟨p, hp⟩ : ∃ p, ind ls = p := ⟨_, rfl⟩
      have HRW := Lib.hid ((HR.out.below hB).wide hB.size)
      have r7 : Calls Try.prog 16 #[.slice A n c] wr fun e w' => e = .returned (.int .i64 p) ∧ Below wr.heap.size wr w' := by
        rw [← hp]; exact findent_any HRW.out HN.out (fun x hx => by have := HLL.out x hx; omega) (by omega)
      obtain ⟨f, hf⟩ : ∃ f, fld y = f := ⟨_, rfl⟩
      have r8 := fold_b (s := mkb y) rfl hf (by omega)
      by_cases hp0 : p < 0
      · have t1 : decide (p < 0) = true := decide_eq_true hp0
        clear hp hf hyz
        generalize mkb y = Y at *
        generalize mkb z = Z at *
        go_wp2_with fail
        (with_reducible refine r7.mono ?_)
        rintro e w2 ⟨rfl, hb2⟩
        clear r7
        go_wp2
        go_ret
        exact ⟨by first | rfl | (simp; done) | (simp; omega), bel_trans hB hb2⟩
      · have t1 : decide (p < 0) = false := decide_eq_false hp0
        have r9 := fold_b (s := mkb z) rfl ((HMO.out.fld (by rw [HN.out]; omega) (by omega)).trans hf) (by omega)
        obtain ⟨F, hF⟩ : ∃ F, mkb f = F := ⟨_, rfl⟩
        rw [hF] at r8 r9
        have t2 : (F.toList == F.toList) = true := by simp
        clear hp hf hyz hF
        generalize mkb y = Y at *
        generalize mkb z = Z at *
        go_wp2_with fail
        (with_reducible refine r7.mono ?_)
        rintro e w2 ⟨rfl, hb2⟩
        clear r7
        go_wp2_with fail
        (with_reducible refine (r8 _).mono ?_)
        rintro e w3 ⟨rfl, hb3⟩
        go_wp2_with fail
        (with_reducible refine (r9 _).mono ?_)
        rintro e w4 ⟨rfl, hb4⟩
        go_wp2
        go_ret
        exact ⟨by first | rfl | (simp; done) | (simp; omega), bel_trans (bel_trans (bel_trans hB hb2) hb3) hb4⟩
end Go.Proofs.Ytpmdkjbkcncnnaa
