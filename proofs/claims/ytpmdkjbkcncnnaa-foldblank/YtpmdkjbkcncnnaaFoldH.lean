/- The laws FoldBlank and FoldFirst: their mathematics; FoldBlank's walk. -/
import Derived.Test.YtpmdkjbkcncnnaaFoldG
namespace Go.Proofs.Ytpmdkjbkcncnnaa
open Go.RowKit
set_option linter.unusedVariables false

/-! ### Lines behind a blank one -/
/-- What is left of the lines behind the first one. -/
def beh (t : List (List UInt8)) : List (List UInt8) := trm (t.map (·.drop (indT t).toNat))
theorem fls_beh {l x : List UInt8} {t : List (List UInt8)} (h : lns l = x :: t) (hb : blk x = true) : fls l = beh t := by
  unfold fls; rw [h]
  show trm (x :: t.map _) = _
  rw [trm_y hb]; rfl
theorem indT_b {x : List UInt8} (h : blk x = true) (t : List (List UInt8)) : indT (x :: t) = indT t := by
  unfold indT; rw [List.foldl_cons, indS_b h]
theorem indT_e {x : List UInt8} (h : blk x = true) (t : List (List UInt8)) : indT (t ++ [x]) = indT t := by
  unfold indT; rw [List.foldl_append, List.foldl_cons, List.foldl_nil, indS_b h]
theorem beh_b {x : List UInt8} (h : blk x = true) (t : List (List UInt8)) : beh (x :: t) = beh t := by
  unfold beh; rw [indT_b h, List.map_cons, trm_y (blk_drop h _)]
theorem trm_e {ls : List (List UInt8)} {x : List UInt8} (h : blk x = true) : trm (ls ++ [x]) = trm ls := by
  induction ls with
  | nil => rw [List.nil_append, trm_y h]
  | cons y r ih =>
    rw [List.cons_append]
    cases hy : blk y
    · have e : ∀ z : List (List UInt8), trm (y :: z) = rtr (y :: z) := by intro z; unfold trm; rw [List.dropWhile_cons, if_neg (by simp [hy])]
      rw [e, e, ← List.cons_append, rtr_y h]
    · rw [trm_y hy, trm_y hy, ih]
theorem beh_e {x : List UInt8} (h : blk x = true) (t : List (List UInt8)) : beh (t ++ [x]) = beh t := by
  unfold beh; rw [indT_e h, List.map_append, List.map_cons, List.map_nil, trm_e (blk_drop h _)]
theorem blk_rep (n : Nat) : blk (List.replicate n 32) = true := by
  unfold blk; rw [List.all_eq_true]; intro x hx; rw [List.eq_of_mem_replicate hx]; rfl
theorem noE_rep (n : Nat) : noE (List.replicate n 32) := by
  intro x hx; rw [List.eq_of_mem_replicate hx]; decide
theorem lns_nl (s : List UInt8) : lns (10 :: s) = [] :: lns s := rfl
theorem fls_nl (s : List UInt8) : fls (10 :: s) = beh (lns s) := fls_beh (lns_nl s) rfl
theorem blank1 (n : Nat) (s : List UInt8) : fld (List.replicate n 32 ++ [10, 10] ++ s) = fld (10 :: s) := by
  unfold fld
  rw [fls_nl, List.append_assoc, show ([10, 10] ++ s : List UInt8) = 10 :: 10 :: s from rfl]
  rw [fls_beh (lns_10 (noE_rep n) (10 :: s)) (blk_rep n), lns_nl, beh_b rfl]
theorem blank2 (n : Nat) {s : List UInt8} (h : s.getLast? ≠ some 13) : fld (10 :: s ++ [10] ++ List.replicate n 32) = fld (10 :: s) := by
  unfold fld
  have e : (10 :: s ++ [10] ++ List.replicate n 32 : List UInt8) = 10 :: (s ++ 10 :: List.replicate n 32) := by simp
  rw [fls_nl, e, fls_nl, lns_app10 h, lns_one (noE_rep n), beh_e (blk_rep n)]
theorem blank3 (s : List UInt8) : fld ([9, 13, 10] ++ s) = fld (10 :: s) := by
  unfold fld
  have e : lns ([9, 13, 10] ++ s) = [9] :: lns s := by
    have := lns_13 (s := [9]) (by intro b hb; simp at hb; subst hb; decide) (10 :: s)
    exact this
  rw [fls_nl, fls_beh e rfl]

/-! ### FoldFirst -/
theorem fls_mem {t : List (List UInt8)} (h : beh t ≠ []) : ∃ y ∈ beh t, blk y = false ∧ mg y = 0 := by
  rcases indT_is t with ⟨e, hb⟩ | ⟨x, hx, h1, h2, h3⟩
  · exfalso
    apply h
    rcases trm_ends (t.map (·.drop (indT t).toNat)) with h0 | ⟨⟨x, hx, hb2⟩, _⟩
    · exact h0
    · have hm : x ∈ trm (t.map (·.drop (indT t).toNat)) := List.mem_of_mem_head? hx
      obtain ⟨y, hy, rfl⟩ := List.mem_map.1 ((trm_sub _).mem hm)
      rw [blk_drop (hb y hy)] at hb2; cases hb2
  · have e : (indT t).toNat = mg x := by rw [h2]; rfl
    have hd := mg_drop (l := x) (n := mg x) (Nat.le_refl _)
    refine ⟨x.drop (mg x), ?_, by rw [hd.2]; exact h1, by rw [hd.1, Nat.sub_self]⟩
    unfold beh
    refine trm_mem (List.mem_map.2 ⟨x, hx, by rw [e]⟩) (by rw [hd.2]; exact h1)
theorem beh_again {t : List (List UInt8)} (h : beh t ≠ []) : beh (beh t) = beh t := by
  obtain ⟨y, hy, hb, hm⟩ := fls_mem h
  have h0 : indT (beh t) = 0 := by
    rcases indT_is (beh t) with ⟨e, hb2⟩ | ⟨x, hx, h1, h2, h3⟩
    · rw [hb2 y hy] at hb; cases hb
    · have := h3 y hy hb; rw [h2]; omega
  have e : beh (beh t) = trm (beh t) := by
    show trm ((beh t).map (·.drop (indT (beh t)).toNat)) = _
    rw [h0]
    congr 1
    conv => rhs; rw [← List.map_id (beh t)]
    apply List.map_congr_left; intro x _; rfl
  rw [e]
  rcases trm_ends (t.map (·.drop (indT t).toNat)) with h2 | ⟨⟨x, hx, hb2⟩, ⟨z, hz, hb3⟩⟩
  · exact absurd h2 h
  · exact trm_id hx hb2 hz hb3
theorem first_again {s : List UInt8} (h : fld (10 :: s) ≠ []) : fld (10 :: fld (10 :: s)) = fld (10 :: s) := by
  have h0 : fls (10 :: s) ≠ [] := fun e => h (fld_nil e)
  have hl := fls_join h0
  have h1 : beh (lns s) ≠ [] := by rw [← fls_nl]; exact h0
  have : fls (10 :: fld (10 :: s)) = fls (10 :: s) := by rw [fls_nl (fld (10 :: s)), hl, fls_nl, beh_again h1]
  unfold fld at this ⊢
  rw [this]
theorem first_zero {s : List UInt8} (h : fld (10 :: s) ≠ []) : ∃ y ∈ lns (fld (10 :: s)), mg y = 0 ∧ y ≠ [] := by
  have h0 : fls (10 :: s) ≠ [] := fun e => h (fld_nil e)
  rw [fls_join h0, fls_nl] at *
  obtain ⟨y, hy, hb, hm⟩ := fls_mem h0
  exact ⟨y, hy, hm, blk_ne hb⟩

/-! ### FoldBlank -/
theorem ext9 (n : Nat) (h : n ≤ 9) : (⟨#[32, 32, 32, 32, 32, 32, 32, 32, 32]⟩ : ByteArray).extract 0 n = mkb (List.replicate n 32) := by
  rw [ext_mkb']
  congr 1
  show ([32, 32, 32, 32, 32, 32, 32, 32, 32] : List UInt8).take n = _
  rw [show ([32, 32, 32, 32, 32, 32, 32, 32, 32] : List UInt8) = List.replicate 9 32 from rfl, List.take_replicate, Nat.min_eq_left h]

set_option maxHeartbeats 1000000 in
set_option maxRecDepth 100000 in
theorem blank_law (s : ByteArray) (i : Int) (w : World) (zs : s.size ≤ 9223372036854775807) (hi0 : -9223372036854775808 ≤ i) (hi : i ≤ 9223372036854775807) :
    Calls Try.prog 8 #[.string s, .int .i64 i] w fun e w' => e = .returned (.bool true) ∧ Below w.heap.size w w' := by
  by_cases hs : 300 < s.size
  · have gs : (300 : Int) < (s.size : Int) := by omega
    clear hs
    go_enter Try.func8, Try.ntmps8
    (try simp only [List.append_eq, List.cons_append, List.nil_append])
    go_wp2_with fail
    (with_reducible refine (awake_any _).mono ?_)
    rintro e w1 ⟨rfl, hb1⟩
    go_wp2_with fail
    go_ret
    exact ⟨by first | (simp; done) | (simp; omega), hb1⟩
  have gs : ¬ (300 : Int) < (s.size : Int) := by omega
  by_cases h0 : i < 0
  · clear hs
    go_enter Try.func8, Try.ntmps8
    (try simp only [List.append_eq, List.cons_append, List.nil_append])
    go_wp2_with fail
    (with_reducible refine (awake_any _).mono ?_)
    rintro e w1 ⟨rfl, hb1⟩
    go_wp2_with fail
    go_ret
    exact ⟨by first | (simp; done) | (simp; omega), hb1⟩
  by_cases h9 : 9 < i
  · clear hs
    go_enter Try.func8, Try.ntmps8
    (try simp only [List.append_eq, List.cons_append, List.nil_append])
    go_wp2_with fail
    (with_reducible refine (awake_any _).mono ?_)
    rintro e w1 ⟨rfl, hb1⟩
    go_wp2_with fail
    go_ret
    exact ⟨by first | (simp; done) | (simp; omega), hb1⟩
  obtain ⟨n, rfl⟩ := Int.eq_ofNat_of_zero_le (show 0 ≤ i by omega)
  have hn : n ≤ 9 := by omega
  have ls : s.data.toList.length = s.size := (Lib.size_eq s).symm
  have ex := ext9 n hn
  obtain ⟨B, hB⟩ : ∃ B, B = mkb (List.replicate n 32) := ⟨_, rfl⟩
  rw [← hB] at ex
  obtain ⟨S0, p0, s0⟩ := sadd' (A := ⟨#[10]⟩) (B := s) (a := [10]) rfl (mkb_of s).symm (by first | (simp; done) | (simp; omega))
  obtain ⟨B1, p1, s1⟩ := sadd' (A := B) (B := ⟨#[10, 10]⟩) (b := [10, 10]) hB rfl (by first | (simp; done) | (simp; omega))
  obtain ⟨S1, p2, s2⟩ := sadd' (A := B1) (B := s) p1 (mkb_of s).symm (by first | (simp; done) | (simp; omega))
  obtain ⟨B2, p3, s3⟩ := sadd' (A := S0) (B := ⟨#[10]⟩) (b := [10]) p0 rfl (by first | (simp; done) | (simp; omega))
  obtain ⟨S2, p4, s4⟩ := sadd' (A := B2) (B := B) p3 hB (by first | (simp; done) | (simp; omega))
  obtain ⟨S3, p5, s5⟩ := sadd' (A := ⟨#[9, 13, 10]⟩) (B := s) (a := [9, 13, 10]) rfl (mkb_of s).symm (by first | (simp; done) | (simp; omega))
  obtain ⟨v, hv⟩ : ∃ v, fld (10 :: s.data.toList) = v := ⟨_, rfl⟩
  have r0 := fold_b p0 hv (by first | (simp; done) | (simp; omega))
  have r1 := fold_b p2 ((blank1 n s.data.toList).trans hv) (by first | (simp; done) | (simp; omega))
  have r3 := fold_b p5 ((blank3 s.data.toList).trans hv) (by first | (simp; done) | (simp; omega))
  obtain ⟨u, hu⟩ : ∃ u, fld ([10] ++ s.data.toList ++ [10] ++ List.replicate n 32) = u := ⟨_, rfl⟩
  have r2 := fold_b p4 hu (by first | (simp; done) | (simp; omega))
  obtain ⟨V, hV⟩ : ∃ V, mkb v = V := ⟨_, rfl⟩
  rw [hV] at r0 r1 r3
  have q1 : (V.toList == V.toList) = true := by simp
  by_cases huv : u = v
  · subst huv
    rw [hV] at r2
    clear hs p0 p1 p2 p3 p4 p5 hB hv hu hV ls
    go_enter Try.func8, Try.ntmps8
    (try simp only [List.append_eq, List.cons_append, List.nil_append])
    go_wp2_with fail
    (with_reducible refine (awake_any _).mono ?_)
    rintro e w1 ⟨rfl, hb1⟩
    go_wp2_with fail
    (with_reducible refine (r0 _).mono ?_)
    rintro e w2 ⟨rfl, hb2⟩
    go_wp2_with fail
    (with_reducible refine (r1 _).mono ?_)
    rintro e w3 ⟨rfl, hb3⟩
    go_wp2_with fail
    (with_reducible refine (r2 _).mono ?_)
    rintro e w4 ⟨rfl, hb4⟩
    go_wp2_with fail
    (with_reducible refine (r3 _).mono ?_)
    rintro e w5 ⟨rfl, hb5⟩
    go_wp2_with fail
    go_ret
    exact ⟨by first | (simp; done) | (simp; omega), (bel_trans (bel_trans (bel_trans (bel_trans hb1 hb2) hb3) hb4) hb5)⟩
  · have hl : s.data.toList.getLast? = some 13 := Classical.byContradiction fun h => huv (hu.symm.trans ((blank2 n h).trans hv))
    have hne : 0 < s.size := by
      rw [← ls]; cases e : s.data.toList with
      | nil => rw [e] at hl; simp at hl
      | cons a t => simp
    have q2 : ((mkb u).toList == V.toList) = false := by rw [← hV, mkb_toList, mkb_toList]; simpa using huv
    obtain ⟨U, hU⟩ : ∃ U, mkb u = U := ⟨_, rfl⟩
    rw [hU] at r2 q2
    have hz : s.size - 1 < s.size := by omega
    have g1 : (0 : Int) < (s.size : Int) := by omega
    have b1 : (((s[s.size - 1]'hz).toNat : Int) == 13) = true := by
      obtain ⟨c, hc1, hc2⟩ := at_byte hz
      rw [List.getLast?_eq_getElem?, ls, hc1] at hl
      injection hl with hl
      rw [hc2, hl]; rfl
    clear hs p0 p1 p2 p3 p4 p5 hB hv hu hV hU ls hl huv
    cases b0 : (((s[0]'hne).toNat : Int) == 10)
    · skip
      go_enter Try.func8, Try.ntmps8
      (try simp only [List.append_eq, List.cons_append, List.nil_append])
      go_wp2_with fail
      (with_reducible refine (awake_any _).mono ?_)
      rintro e w1 ⟨rfl, hb1⟩
      go_wp2_with fail
      (with_reducible refine (r0 _).mono ?_)
      rintro e w2 ⟨rfl, hb2⟩
      go_wp2_with fail
      (with_reducible refine (r1 _).mono ?_)
      rintro e w3 ⟨rfl, hb3⟩
      go_wp2_with fail
      (with_reducible refine (r2 _).mono ?_)
      rintro e w4 ⟨rfl, hb4⟩
      go_wp2_with fail
      go_ret
      exact ⟨by first | (simp; done) | (simp; omega), (bel_trans (bel_trans (bel_trans hb1 hb2) hb3) hb4)⟩
    · skip
      go_enter Try.func8, Try.ntmps8
      (try simp only [List.append_eq, List.cons_append, List.nil_append])
      go_wp2_with fail
      (with_reducible refine (awake_any _).mono ?_)
      rintro e w1 ⟨rfl, hb1⟩
      go_wp2_with fail
      (with_reducible refine (r0 _).mono ?_)
      rintro e w2 ⟨rfl, hb2⟩
      go_wp2_with fail
      (with_reducible refine (r1 _).mono ?_)
      rintro e w3 ⟨rfl, hb3⟩
      go_wp2_with fail
      (with_reducible refine (r2 _).mono ?_)
      rintro e w4 ⟨rfl, hb4⟩
      go_wp2_with fail
      go_ret
      exact ⟨by first | (simp; done) | (simp; omega), (bel_trans (bel_trans (bel_trans hb1 hb2) hb3) hb4)⟩
end Go.Proofs.Ytpmdkjbkcncnnaa
