/- The document's own answers for layer 8 (copperplateref08): contracts of length, May, one, Quote, Long. -/
import Derived.Test.YtpcijjdlppoblaaGreatDoorQuoE
import Derived.Test.YtpcijjdlppoblaaGreatDoorQuoC
import Derived.Test.YtpcijjdlppoblaaGreatDoorUtfJ
import Derived.StillTailTactics
namespace Go.Proofs.YtpcijjdlppoblaaGreatDoor
open Go.RowKit
set_option linter.unusedVariables false

theorem drop_at (s : ByteArray) (k : Nat) (hk : k < s.size) : s.data.toList.drop k = s[k] :: s.data.toList.drop (k + 1) := by
  rw [List.drop_eq_getElem_cons (by rw [← Lib.size_eq]; exact hk)]; rfl

set_option maxHeartbeats 400000 in
theorem rlen_any (s : ByteArray) (hs : s.size ≤ 1000000) (k : Nat) (hk : k < s.size) (w : World) :
    Calls Tryz.prog 49 #[.string s, .int .i64 k] w fun e w' => e = .returned (.int .i64 (((qc (s.data.toList.drop k)).2 : Nat) : Int)) ∧ Below w.heap.size w w' := by
  have hd := drop_at s k hk
  by_cases h32 : (s[k]).toNat < 32
  · have e1 : (qc (s.data.toList.drop k)).2 = 1 := by rw [hd, qc_low h32]
    rw [e1]
    have t32 : ((s[k]).toNat : Int) < 32 := by omega
    clear e1 h32 hd
    go_enter Tryz.func49, Tryz.ntmps49
    (try simp only [List.append_eq, List.cons_append, List.nil_append])
    go_wp2_with fail
    go_ret
    exact ⟨by rfl, Below.refl _ _⟩
  · have e1 : (((qc (s.data.toList.drop k)).2 : Nat) : Int) = nxtN s k := by rw [nxtN_at s k (Nat.le_of_lt hk), hd, qc_high h32]
    rw [e1]
    have t32 : ¬ ((s[k]).toNat : Int) < 32 := by omega
    have r1 := rnext_any s (by omega) k
    generalize nxtN s k = n at *
    generalize nxtC s k = c at *
    clear e1 h32 hd
    go_enter Tryz.func49, Tryz.ntmps49
    (try simp only [List.append_eq, List.cons_append, List.nil_append])
    go_wp2_with fail
    (with_reducible refine (r1 _).mono ?_)
    rintro e w1 ⟨rfl, hb1⟩
    go_wp2_with fail
    go_ret
    exact ⟨by rfl, hb1⟩

set_option maxHeartbeats 1000000 in
theorem rqmay_any (s : ByteArray) (hs : s.size ≤ 1000000) (w : World) :
    Calls Tryz.prog 48 #[.string s] w fun e w' => e = .returned (.bool (qtA s.data.toList).isSome) ∧ Below w.heap.size w w' := by
  go_enter Tryz.func48, Tryz.ntmps48
  go_wp2_with fail
  go_loopw [3] (fun i wr => ∃ k : Nat, k ≤ s.size ∧ i = .int .i64 k ∧ (qtA (s.data.toList.drop k)).isSome = (qtA s.data.toList).isSome ∧ Below w.heap.size w wr) (fun i _ => s.size - (intOf i).toNat)
  case atStart => exact ⟨0, Nat.zero_le _, rfl, by simp, Below.refl _ _⟩
  case round =>
    obtain ⟨k, hk, rfl, hq, hB⟩ := hrel
    have HQ := Lib.hid hq
    clear hq
    by_cases hlt : k < s.size
    · have r1 := rlen_any s hs k hlt
      have hne := drop_ne hlt
      have hlen : (s.data.toList.drop k).length = s.size - k := by rw [List.length_drop, ← Lib.size_eq]
      rcases qc_cases (s.data.toList.drop k) with ⟨c, t, hc, e, hqc⟩ | ⟨hqc, _⟩
      · rw [hqc] at r1
        dsimp only at r1
        have hn := enc_pos c
        have hl2 : (enc c).length ≤ s.size - k := by rw [← hlen, e]; simp
        have ht : s.data.toList.drop (k + (enc c).length) = t := by rw [← List.drop_drop, e, List.drop_left]
        have hq2 : (qtA (s.data.toList.drop (k + (enc c).length))).isSome = (qtA s.data.toList).isSome := by
          rw [← HQ.out, ht, e, qtA_go hc]; simp
        have H2 := Lib.hid hq2
        have z : (((enc c).length : Int) == 0) = false := beq_false_of_ne (by omega)
        clear e hqc hq2 ht hlen hne hc HQ
        generalize (enc c).length = m at *
        go_wp2_with fail
        (with_reducible refine (r1 _).mono ?_)
        rintro e w1 ⟨rfl, hb1⟩
        go_wp2_with fail
        go_roundw
        case rel => exact ⟨k + m, by omega, by go_num, H2.out, bel_trans hB hb1⟩
        case measure => simp [intOf]; omega
      · have hn := qtA_none hne (by rw [hqc])
        rw [hqc] at r1
        dsimp only at r1
        have HN := Lib.hid hn
        clear hqc hne hlen hn
        go_wp2_with fail
        (with_reducible refine (r1 _).mono ?_)
        rintro e w1 ⟨rfl, hb1⟩
        go_wp2_with fail
        go_ret
        exact ⟨by rw [← HQ.out, HN.out]; rfl, bel_trans hB hb1⟩
    · go_wp2_with fail
      go_ret
      refine ⟨?_, hB⟩
      rw [← HQ.out, List.drop_eq_nil_of_le (by rw [← Lib.size_eq]; omega), qtA_nil]; rfl

/-! ### one -/
def lowT : ByteArray := ⟨#[48, 49, 50, 51, 52, 53, 54, 55, 56, 57, 97, 98, 99, 100, 101, 102]⟩
theorem low_dig : ∀ d : Fin 16, lowT.data.toList.getD d.val 0 = hxL d.val := by decide +kernel
theorem low_at {x : Nat} (hx : x < 16) : (((⟨#[48, 49, 50, 51, 52, 53, 54, 55, 56, 57, 97, 98, 99, 100, 101, 102]⟩ : ByteArray)[x]'hx).toNat : Int) = ((hxL x).toNat : Int) := by
  have := low_dig ⟨x, hx⟩
  have e : (lowT.data.toList.getD x 0) = (⟨#[48, 49, 50, 51, 52, 53, 54, 55, 56, 57, 97, 98, 99, 100, 101, 102]⟩ : ByteArray)[x]'hx := by
    rw [List.getD_eq_getElem?_getD, List.getElem?_eq_getElem (show x < lowT.data.toList.length from hx)]; rfl
  rw [← e, this]

set_option maxHeartbeats 400000 in
theorem one_sh {c : Nat} (hc : c = 34 ∨ c = 92 ∨ c = 8 ∨ c = 12 ∨ c = 10 ∨ c = 13 ∨ c = 9) (w : World) :
    Calls Tryz.prog 50 #[.string (mkb (enc c))] w fun e w' => e = .returned (.string (mkb (qp c))) ∧ Below w.heap.size w w' := by
  have e1 : mkb (enc c) = ⟨#[UInt8.ofNat c]⟩ := by rw [enc1 (by omega)]; rfl
  rw [e1]
  clear e1
  rcases hc with rfl | rfl | rfl | rfl | rfl | rfl | rfl
  all_goals
    go_enter Tryz.func50, Tryz.ntmps50
    (try simp only [List.append_eq, List.cons_append, List.nil_append])
    go_wp2_with fail
    go_ret
    exact ⟨by rfl, Below.refl _ _⟩

set_option maxHeartbeats 400000 in
theorem one_self {c : Nat} (hc : srcB c = true) (h32 : 32 ≤ c) (h1 : c ≠ 34) (h2 : c ≠ 92) (w : World) :
    Calls Tryz.prog 50 #[.string (mkb (enc c))] w fun e w' => e = .returned (.string (mkb (qp c))) ∧ Below w.heap.size w w' := by
  rw [qp_self h32 h1 h2]
  obtain ⟨R, hR⟩ : ∃ R, R = mkb (enc c) := ⟨_, rfl⟩
  have h0 : 0 < R.size := by rw [hR, mkb_size]; exact (enc_pos c).1
  obtain ⟨b, t, e, hb⟩ := enc_head h32 (okC_lt (.inr hc))
  have hx : (R[0]'h0) = b := by subst hR; simp only [e]; rfl
  have n12 : b.toNat ≠ 34 ∧ b.toNat ≠ 92 := by
    by_cases h : c < 128
    · rw [enc1 h] at e; injection e with e1; rw [← e1, toNat_ofNat (by omega)]; exact ⟨h1, h2⟩
    · have := enc_all (by omega) (okC_lt (.inr hc)) b (by rw [e]; simp)
      omega
  obtain ⟨n1, n2⟩ := n12
  have t32 : ¬ (((R[0]'h0).toNat : Nat) : Int) < 32 := by rw [hx]; omega
  have t1 : ((((R[0]'h0).toNat : Nat) : Int) == 34) = false := by rw [hx]; simp; omega
  have t2 : ((((R[0]'h0).toNat : Nat) : Int) == 92) = false := by rw [hx]; simp; omega
  have t3 : ((((R[0]'h0).toNat : Nat) : Int) == 8) = false := by rw [hx]; simp; omega
  have t4 : ((((R[0]'h0).toNat : Nat) : Int) == 12) = false := by rw [hx]; simp; omega
  have t5 : ((((R[0]'h0).toNat : Nat) : Int) == 10) = false := by rw [hx]; simp; omega
  have t6 : ((((R[0]'h0).toNat : Nat) : Int) == 13) = false := by rw [hx]; simp; omega
  have t7 : ((((R[0]'h0).toNat : Nat) : Int) == 9) = false := by rw [hx]; simp; omega
  rw [← hR]
  clear hR e hb hx n1 n2 hc h32 h1 h2
  go_enter Tryz.func50, Tryz.ntmps50
  (try simp only [List.append_eq, List.cons_append, List.nil_append])
  go_wp2_with fail
  go_ret
  exact ⟨by rfl, Below.refl _ _⟩

set_option maxHeartbeats 1000000 in
set_option maxRecDepth 100000 in
theorem one_uni {c : Nat} (hc : c < 32) (h8 : c ≠ 8) (h9 : c ≠ 9) (h10 : c ≠ 10) (h12 : c ≠ 12) (h13 : c ≠ 13) (w : World) :
    Calls Tryz.prog 50 #[.string (mkb (enc c))] w fun e w' => e = .returned (.string (mkb (qp c))) ∧ Below w.heap.size w w' := by
  have e0 : qp c = [92, 117, 48, 48] ++ [hxL (c / 16), hxL (c % 16)] := by
    unfold qp; rw [if_neg (stF_low c hc)]
    unfold stF; rw [if_neg h8, if_neg h9, if_neg h10, if_neg h12, if_neg h13, if_pos hc]; rfl
  obtain ⟨R, hR⟩ : ∃ R, R = mkb (enc c) := ⟨_, rfl⟩
  rw [← hR]
  have h0 : 0 < R.size := by rw [hR, mkb_size]; exact (enc_pos c).1
  have hx : (((R[0]'h0).toNat : Nat) : Int) = (c : Int) := by
    have : (R[0]'h0) = UInt8.ofNat c := by subst hR; simp only [enc1 (show c < 128 by omega)]; rfl
    rw [this, toNat_ofNat (by omega)]
  obtain ⟨x, hx1⟩ : ∃ x, x = c / 16 := ⟨_, rfl⟩
  obtain ⟨y, hy1⟩ : ∃ y, y = c % 16 := ⟨_, rfl⟩
  have bx : x < 16 := by omega
  have by1 : y < 16 := by omega
  have ix : (x : Int) < 16 := by omega
  have iy : (y : Int) < 16 := by omega
  have e1 : IntKind.u8.wrap ((c : Int) / 16) = (x : Int) := by unfold IntKind.wrap; simp [IntKind.bits, IntKind.signed]; omega
  have e2 : (c : Int).tmod 16 = (y : Int) := (Int.tmod_eq_emod_of_nonneg (by omega)).trans (by omega)
  have fx := low_at bx
  have fy := low_at by1
  rw [← hx1, ← hy1] at e0
  obtain ⟨X, hX, hcv⟩ : ∃ X : ByteArray, X = mkb [hxL x, hxL y] ∧ ∀ w : World, (convert 82 9 (.slice (some ⟨w.heap.size, 0, none⟩) 2 2)).run Tryz.prog (w.alloc (.cells #[.int .u8 ((hxL x).toNat : Int), .int .u8 ((hxL y).toNat : Int)] 5)) =
      .ok (.string X) (w.alloc (.cells #[.int .u8 ((hxL x).toNat : Int), .int .u8 ((hxL y).toNat : Int)] 5)) := ⟨_, rfl, fun w => by
    rw [conv2 w (hxL x).toNat (hxL y).toNat]; simp [mkb]⟩
  obtain ⟨S1, h1', s1⟩ := sadd' (A := ⟨#[92, 117, 48, 48]⟩) (B := X) (a := [92, 117, 48, 48]) rfl hX (by simp)
  rw [← e0] at h1'
  rw [← h1']
  have t32 : (c : Int) < 32 := by omega
  have t1 : ((c : Int) == 34) = false := by simp; omega
  have t2 : ((c : Int) == 92) = false := by simp; omega
  have t3 : ((c : Int) == 8) = false := by simp; omega
  have t4 : ((c : Int) == 12) = false := by simp; omega
  have t5 : ((c : Int) == 10) = false := by simp; omega
  have t6 : ((c : Int) == 13) = false := by simp; omega
  have t7 : ((c : Int) == 9) = false := by simp; omega
  clear hR e0 hX h1' hx1 hy1 hc h8 h9 h10 h12 h13
  go_enter Tryz.func50, Tryz.ntmps50
  (try simp only [List.append_eq, List.cons_append, List.nil_append])
  go_wp2_with fail
  go_still_tail 10, (by kernel_rfl)
  change wpList _ _ _ _ _ w.drew
  have hb2 : Below w.heap.size w w.drew := (Below.refl _ _).drew
  generalize w.drew = w2 at hb2 ⊢
  go_wp2_with fail
  go_ret
  exact ⟨rfl, bel_alloc hb2 _⟩

theorem one_any {c : Nat} (hc : okC c) {A : ByteArray} (hA : A = mkb (enc c)) (w : World) :
    Calls Tryz.prog 50 #[.string A] w fun e w' => e = .returned (.string (mkb (qp c))) ∧ Below w.heap.size w w' := by
  subst hA
  by_cases h1 : c = 34 ∨ c = 92 ∨ c = 8 ∨ c = 12 ∨ c = 10 ∨ c = 13 ∨ c = 9
  · exact one_sh h1 w
  · by_cases h2 : c < 32
    · exact one_uni h2 (by omega) (by omega) (by omega) (by omega) (by omega) w
    · exact one_self (by rcases hc with hc | hc; omega; exact hc) (by omega) (by omega) (by omega) w

/-! ### Quote, Long -/
theorem rqno_any (s : ByteArray) (hs : s.size ≤ 100000) (w : World) (h : qtA s.data.toList = none) :
    Calls Tryz.prog 31 #[.string s] w fun e w' => e = .returned (.tuple #[.string ⟨#[]⟩, .bool false]) ∧ Below w.heap.size w w' := by
  have r1 := rqmay_any s (by omega)
  rw [h] at r1
  dsimp only [Option.isSome] at r1
  clear h
  go_enter Tryz.func31, Tryz.ntmps31
  go_wp2_with fail
  (with_reducible refine (r1 _).mono ?_)
  rintro e w1 ⟨rfl, hb1⟩
  go_wp2_with fail
  go_ret2
  exact ⟨rfl, hb1⟩

set_option maxHeartbeats 1000000 in
theorem rqyes_any (s : ByteArray) (w : World) (hs : s.size ≤ 100000) (cs : List Nat) (h : qtA s.data.toList = some cs) :
    Calls Tryz.prog 31 #[.string s] w fun e w' => e = .returned (.tuple #[.string (mkb (quo cs)), .bool true]) ∧ Below w.heap.size w w' := by
  have r1 := rqmay_any s (by omega)
  rw [h] at r1
  dsimp only [Option.isSome] at r1
  have hl6 := (qtA_iff.1 h).len
  rw [← Lib.size_eq] at hl6
  have HS := Lib.hid h
  clear h
  go_enter Tryz.func31, Tryz.ntmps31
  go_wp2_with fail
  (with_reducible refine (r1 _).mono ?_)
  rintro e w1 ⟨rfl, hb1⟩
  go_wp2_with fail
  go_loopg [5, 6] s.size (fun g out i wr => ∃ (k : Nat) (A : ByteArray) (ds : List Nat), g = s.size - k ∧ k ≤ s.size ∧ i = .int .i64 k ∧ out = .string A ∧ qtA (s.data.toList.drop k) = some ds ∧ A.data.toList ++ qb ds = 34 :: qb cs ∧ Below w.heap.size w wr)
  case atStart => exact ⟨0, ⟨#[34]⟩, cs, rfl, Nat.zero_le _, rfl, rfl, by rw [List.drop_zero]; exact HS.out, rfl, hb1⟩
  case round =>
    obtain ⟨k, A, ds, hg, hk, rfl, rfl, hds, hac, hB⟩ := hrel
    have HG := Lib.hid hg
    have HB := Lib.hid hB
    have hlen := congrArg List.length hac
    rw [List.length_append, List.length_cons, ← Lib.size_eq] at hlen
    clear hg hB
    by_cases hlt : k < s.size
    · have r2 := rlen_any s (by omega) k hlt
      have hne := drop_ne hlt
      have hll : (s.data.toList.drop k).length = s.size - k := by rw [List.length_drop, ← Lib.size_eq]
      rcases qc_cases (s.data.toList.drop k) with ⟨c, t, hc, e, hqc⟩ | ⟨hqc, _⟩
      · rw [hqc] at r2
        dsimp only at r2
        have hn := enc_pos c
        have hl2 : (enc c).length ≤ s.size - k := by rw [← hll, e]; simp
        have ht : s.data.toList.drop (k + (enc c).length) = t := by rw [← List.drop_drop, e, List.drop_left]
        obtain ⟨ds', rfl, hds'⟩ : ∃ ds', ds = c :: ds' ∧ qtA t = some ds' := by
          rw [e, qtA_go hc, Option.map_eq_some_iff] at hds
          obtain ⟨x, hx, rfl⟩ := hds
          exact ⟨x, rfl, hx⟩
        rw [← ht] at hds'
        obtain ⟨E, hE, e1⟩ : ∃ E, E = mkb (enc c) ∧ s.extract k (k + (enc c).length) = E := ⟨_, rfl, by
          rw [← mkb_of (s.extract k (k + (enc c).length)), Lib.extract_data, e, Nat.add_sub_cancel_left, List.take_left]⟩
        have r3 := one_any hc hE
        have hlp : A.size + (mkb (qp c)).size ≤ 1000000 := by rw [qb_cons, List.length_append] at hlen; rw [mkb_size]; omega
        obtain ⟨S, hS, s1⟩ := sadd' (A := A) (B := mkb (qp c)) (a := A.data.toList) (b := qp c) rfl rfl (by rw [mkb_size] at hlp; rw [← Lib.size_eq]; exact hlp)
        have hac2 : S.data.toList ++ qb ds' = 34 :: qb cs := by rw [hS, mkb_data, List.append_assoc, ← qb_cons]; exact hac
        have HA := Lib.hid hac2
        have HD := Lib.hid hds'
        clear e hqc ht hll hne hc hds hac hac2 hds' hE hS hlen
        generalize mkb (qp c) = Q at *
        generalize (enc c).length = m at *
        have hw1 : IntKind.i64.wrap ((k : Int) + m) = k + m := IntWalk.i64_in _ (by omega)
        have s2 : (0 : Int) ≤ k := by omega
        have s3 : (k : Int) ≤ k + m := by omega
        have s4 : (k : Int) + m ≤ s.size := by omega
        have s5 : ((k : Int) + m).toNat = k + m := by omega
        go_wp2_with fail
        (with_reducible refine (r2 _).mono ?_)
        rintro e w2 ⟨rfl, hb2⟩
        go_wp2_with fail
        (with_reducible refine (r3 _).mono ?_)
        rintro e w3 ⟨rfl, hb3⟩
        go_wp2_with fail
        go_roundg (s.size - (k + m))
        case measure => rw [HG.out]; omega
        case rel => exact ⟨k + m, S, _, rfl, by omega, by go_num, rfl, HD.out, HA.out, bel_trans (bel_trans HB.out hb2) hb3⟩
      · rw [qtA_none hne (by rw [hqc])] at hds; cases hds
    · have hd0 : ds = [] := by
        rw [List.drop_eq_nil_of_le (by rw [← Lib.size_eq]; omega), qtA_nil] at hds
        exact (Option.some.inj hds).symm
      subst hd0
      rw [qb_nil, List.append_nil] at hac
      obtain ⟨S, hS, s1⟩ := sadd' (A := A) (B := ⟨#[34]⟩) (a := A.data.toList) (b := [34]) rfl rfl (by rw [← Lib.size_eq]; simp; omega)
      have e5 : S = mkb (quo cs) := by rw [hS, hac]; rfl
      have E5 := Lib.hid e5
      clear hds hac hlen hS e5
      go_wp2_with fail
      go_ret2
      exact ⟨by rw [E5.out]; rfl, HB.out⟩

end Go.Proofs.YtpcijjdlppoblaaGreatDoor
