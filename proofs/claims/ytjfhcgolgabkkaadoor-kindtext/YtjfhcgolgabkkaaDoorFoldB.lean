/- Contracts of package fold's functions: the lines' iterator, Lines. -/
import Derived.RangeFuncBox
import Derived.RangeFuncFrom
import Derived.RangeFuncNested
import Derived.RangeFuncBound
import Derived.RangeFuncCalls
import Derived.RangeFuncLeaves
import Derived.Shelf.Abstract
import Derived.Shelf.RegionOpen
import Derived.OwnWalkIn
import Derived.TacticsInMore
import Derived.LoopNIn
import Derived.LoopIn
import Derived.Maps.AppendAt
import Derived.Test.YtjfhcgolgabkkaaDoorFoldA
namespace Go.Proofs.YtjfhcgolgabkkaaDoor.Fo
open Go.RowKit Go.Shelf
attribute [local go_sem] Oper.semAt_some
set_option linter.unusedVariables false

/-- Lines from place f on, a having been come to. -/
def At (l : List UInt8) (pre : List (List UInt8)) (f a : Nat) : Prop := pre ++ lns (l.drop f) = lns l ∧ f ≤ a ∧ a ≤ l.length ∧ noE ((l.drop f).take (a - f))
theorem At.start (l : List UInt8) : At l [] 0 0 := ⟨by simp, Nat.le_refl _, Nat.zero_le _, by intro b hb; simp at hb⟩
theorem seg_cut {l : List UInt8} {f a : Nat} {c : UInt8} (h : f ≤ a) (hc : l[a]? = some c) : l.drop f = (l.drop f).take (a - f) ++ c :: l.drop (a + 1) := by
  obtain ⟨h3, h4⟩ := List.getElem?_eq_some_iff.1 hc
  conv => lhs; rw [← List.take_append_drop (a - f) (l.drop f)]
  rw [List.drop_drop, show f + (a - f) = a by omega, List.drop_eq_getElem_cons h3, h4]
theorem At.skip {l : List UInt8} {pre : List (List UInt8)} {f a : Nat} {c : UInt8} (h : At l pre f a) (hc : l[a]? = some c) (h1 : c ≠ 10) (h2 : c ≠ 13) : At l pre f (a + 1) := by
  obtain ⟨e, g1, g2, g3⟩ := h
  obtain ⟨h3, h4⟩ := List.getElem?_eq_some_iff.1 hc
  refine ⟨e, by omega, by omega, ?_⟩
  rw [show a + 1 - f = (a - f) + 1 by omega, List.take_add_one, List.getElem?_drop, show f + (a - f) = a by omega, hc]
  intro b hb
  rcases List.mem_append.1 hb with hb | hb
  · exact g3 b hb
  · simp at hb; subst hb; exact ⟨h1, h2⟩
theorem noE_nil : noE [] := by intro b hb; simp at hb
theorem At.ten {l : List UInt8} {pre : List (List UInt8)} {f a : Nat} (h : At l pre f a) (hc : l[a]? = some 10) : At l (pre ++ [(l.drop f).take (a - f)]) (a + 1) (a + 1) ∧ pre.length < (lns l).length := by
  obtain ⟨e, g1, g2, g3⟩ := h
  obtain ⟨h3, h4⟩ := List.getElem?_eq_some_iff.1 hc
  rw [seg_cut g1 hc, lns_10 g3] at e
  exact ⟨⟨by rw [← e]; simp, Nat.le_refl _, by omega, by rw [Nat.sub_self]; exact noE_nil⟩, by rw [← e]; simp⟩
theorem At.one {l : List UInt8} {pre : List (List UInt8)} {f a : Nat} (h : At l pre f a) (hc : l[a]? = some 13) (hd : l[a + 1]? ≠ some 10) : At l (pre ++ [(l.drop f).take (a - f)]) (a + 1) (a + 1) ∧ pre.length < (lns l).length := by
  obtain ⟨e, g1, g2, g3⟩ := h
  obtain ⟨h3, h4⟩ := List.getElem?_eq_some_iff.1 hc
  rw [seg_cut g1 hc, lns_13 g3, skp_no (by rw [List.head?_drop]; exact hd)] at e
  exact ⟨⟨by rw [← e]; simp, Nat.le_refl _, by omega, by rw [Nat.sub_self]; exact noE_nil⟩, by rw [← e]; simp⟩
theorem At.two {l : List UInt8} {pre : List (List UInt8)} {f a : Nat} (h : At l pre f a) (hc : l[a]? = some 13) (hd : l[a + 1]? = some 10) : At l (pre ++ [(l.drop f).take (a - f)]) (a + 2) (a + 2) ∧ pre.length < (lns l).length := by
  obtain ⟨e, g1, g2, g3⟩ := h
  obtain ⟨h3, h4⟩ := List.getElem?_eq_some_iff.1 hc
  obtain ⟨h5, h6⟩ := List.getElem?_eq_some_iff.1 hd
  have hs : skp (l.drop (a + 1)) = l.drop (a + 2) := by
    rw [List.drop_eq_getElem_cons h5, h6]; simp [skp]
  rw [seg_cut g1 hc, lns_13 g3, hs] at e
  exact ⟨⟨by rw [← e]; simp, Nat.le_refl _, by omega, by rw [Nat.sub_self]; exact noE_nil⟩, by rw [← e]; simp⟩
theorem At.end_ {l : List UInt8} {pre : List (List UInt8)} {f : Nat} (h : At l pre f l.length) : pre ++ [l.drop f] = lns l ∧ pre.length < (lns l).length := by
  obtain ⟨e, g1, g2, g3⟩ := h
  rw [List.take_of_length_le (by simp)] at g3
  rw [lns_one g3] at e
  exact ⟨e, by rw [← e]; simp⟩

theorem cell_new_l (W : World) (v : Value) (t : TypeId) : (W.alloc (.cells #[v] t)).cell? ⟨W.heap.size, 0, none⟩ = some v ∧ (W.alloc (.cells #[v] t)).frozen? ⟨W.heap.size, 0, none⟩ = false := by
  simp [go_sem]
/-- What a round of the caller keeps: all below n₀, and the box Bn. -/
def KpS (n₀ Bn : Nat) (W W' : World) : Prop := Below n₀ W W' ∧ ∀ v, W.cell? ⟨Bn, 0, none⟩ = some v → W'.cell? ⟨Bn, 0, none⟩ = some v
theorem kpS_t {n₀ Bn : Nat} {A B C : World} (h : KpS n₀ Bn A B) (k : KpS n₀ Bn B C) : KpS n₀ Bn A C := ⟨h.1.trans k.1, fun v hv => k.2 v (h.2 v hv)⟩
theorem kpS_b {n₀ Bn : Nat} {w : World} (hn : n₀ ≤ w.heap.size) (W : World) (l : Nat) (o o' : Obj) (hl : w.heap.size ≤ l) (h : W.heap[l]? = some o) (hc : o.isCells = false) (hw : o.isWalk = false) : KpS n₀ Bn W (W.putObj l o') :=
  ⟨belowK_b hn W l o o' hl h hc hw, fun v hv => cell_kept hv (grownBy_putObj' W l o') (fun r e => by cases e; exact ⟨o, h, hc⟩)⟩

theorem at_byte {s : ByteArray} {a : Nat} (h : a < s.size) : ∃ c : UInt8, s.data.toList[a]? = some c ∧ s[a] = c := by
  refine ⟨s[a], ?_, rfl⟩
  rw [List.getElem?_eq_getElem (by rw [← Lib.size_eq]; exact h)]; rfl
theorem crlf {l : List UInt8} {a : Nat} (h : l[a]? = some 13) : stB l a [13, 10] = decide (l[a + 1]? = some 10) := by
  obtain ⟨h3, h4⟩ := List.getElem?_eq_some_iff.1 h
  rw [stB_at (by omega), List.drop_eq_getElem_cons h3, h4]
  cases e : l.drop (a + 1) with
  | nil =>
    have : l[a + 1]? = none := by rw [← List.head?_drop, e]; rfl
    rw [this]; rfl
  | cons d t =>
    have : l[a + 1]? = some d := by rw [← List.head?_drop, e]; rfl
    rw [this, Bool.eq_iff_iff]
    show ((13 : UInt8) == 13 && ((10 : UInt8) == d && true)) = true ↔ _
    simp only [beq_self_eq_true, Bool.true_and, Bool.and_true, beq_iff_eq, decide_eq_true_eq, Option.some.injEq]
    exact eq_comm
theorem crlf_no {l : List UInt8} {a : Nat} (h : l[a]? = some 10) : stB l a [13, 10] = false := by
  obtain ⟨h3, h4⟩ := List.getElem?_eq_some_iff.1 h
  rw [stB_at (by omega), List.drop_eq_getElem_cons h3, h4]
  rfl
theorem stands_r {s : ByteArray} {i : Int} {b : Bool} (h : stB s.data.toList i [13, 10] = b) (w : World) :
    Calls Tryd.prog 71 #[.string s, .int .i64 i, .string ⟨#[13, 10]⟩] w fun e w' => e = .returned (.bool b) ∧ w = w' := stands_b (p := ⟨#[13, 10]⟩) h w

set_option maxRecDepth 100000 in
set_option maxHeartbeats 2000000 in
theorem lines1_in (n : Nat) (hn : 1 ≤ n) (l Bn n₀ : Nat) (s : ByteArray) (hs : s.size ≤ 1000000000) (J Jx : List (List UInt8) → World → Prop) (W : World)
    (hY : ∀ pre x W1, J pre W1 → pre.length < (lns s.data.toList).length → YieldAt Fence.wide (n - 1) Tryd.prog l #[.string (mkb x)] W1 fun e W' =>
      (e = .returned (.bool true) ∧ J (pre ++ [x]) W' ∧ KpS n₀ Bn W1 W') ∨ (e = .returned (.bool false) ∧ Jx (pre ++ [x]) W'))
    (hBn : W.cell? ⟨Bn, 0, none⟩ = some (.string s)) (h0 : J [] W) :
    CallsIn Fence.wide n Tryd.prog 87 #[.func (.yield l) #[] #[], .pointer (some ⟨Bn, 0, none⟩)] W fun e W' => (∃ v, e = .returned v) ∧
      ((∃ ys, ys = lns s.data.toList ∧ J ys W') ∨ (∃ pre, True ∧ Jx pre W')) := by
  have HZ := Lib.hid (Lib.size_eq s).symm
  refine callsIn_of_wp Tryd.func87 rfl trivial ?_ rfl
  simp only [Tryd.ntmps87, List.size_toArray, List.length_cons, List.length_nil, Nat.reduceAdd, Nat.reduceSub, Array.replicate_succ, Array.replicate_zero, List.push_toArray, List.append_toArray, List.nil_append, List.cons_append]
  gi_wp2
  gi_loopw [3, 4] (fun f i wr => ∃ (k a : Nat) (pre : List (List UInt8)), f = .int .i64 k ∧ i = .int .i64 a ∧ At s.data.toList pre k a ∧ J pre wr ∧ wr.cell? ⟨Bn, 0, none⟩ = some (.string s))
    (fun _ i _ => s.size - (intOf i).toNat)
  case atStart => exact ⟨0, 0, [], rfl, rfl, At.start _, h0, hBn⟩
  case round =>
    obtain ⟨k, a, pre, rfl, rfl, hat, hJs, hc⟩ := hrel
    have hka : k ≤ a := hat.2.1
    have has : a ≤ s.size := by have := hat.2.2.1; rw [HZ.out] at this; exact this
    have HA := Lib.hid hat
    clear hat
    by_cases hlt : a < s.size
    · obtain ⟨c, hc1, hc2⟩ := at_byte hlt
      by_cases h10 : c = 10
      · subst h10
        have hst := HA.out.ten hc1
        have hsb : (((s[a]'hlt).toNat : Int) != 10) = false := by rw [hc2]; rfl
        have r1 := stands_r (crlf_no hc1)
        have HS := Lib.hid hst.1
        have HE := Lib.hid (ext_mkb' s k a)
        obtain ⟨fn, tmps, assign, body, hy, hR⟩ := hY pre ((s.data.toList.drop k).take (a - k)) wr hJs hst.2
        rw [← HE.out] at hy
        clear hc1 hc2 hst
        gi_wp2
        refine hR.mono ?_
        rintro e W3 (⟨rfl, hJ3, hk3⟩ | ⟨rfl, hJx3⟩)
        · have hc3 := hk3.2 _ hc
          gi_wp2_with fail
          refine ⟨trivial, ?_⟩
          refine (callsIn_wide.2 (r1 _)).mono ?_
          rintro e w' ⟨rfl, rfl⟩
          gi_wp2
          go_roundw
          case rel => exact ⟨a + 1, a + 1, _, by go_num, by go_num, HS.out, hJ3, hc3⟩
          case measure => simp [intOf]; omega
        · gi_wp2
          refine bodyPost_ret (results_none rfl _ _ _) rfl ?_
          exact ⟨⟨_, rfl⟩, .inr ⟨_, trivial, hJx3⟩⟩
      by_cases h13 : c = 13
      · subst h13
        have hsb : (((s[a]'hlt).toNat : Int) != 10) = true := by rw [hc2]; rfl
        have hsb2 : (((s[a]'hlt).toNat : Int) != 13) = false := by rw [hc2]; rfl
        by_cases hd : s.data.toList[a + 1]? = some 10
        · have hst := HA.out.two hc1 hd
          have r1 := stands_r ((crlf hc1).trans (decide_eq_true hd))
          clear hd
          have HS := Lib.hid hst.1
          have HE := Lib.hid (ext_mkb' s k a)
          obtain ⟨fn, tmps, assign, body, hy, hR⟩ := hY pre ((s.data.toList.drop k).take (a - k)) wr hJs hst.2
          rw [← HE.out] at hy
          clear hc1 hc2 hst
          gi_wp2
          refine hR.mono ?_
          rintro e W3 (⟨rfl, hJ3, hk3⟩ | ⟨rfl, hJx3⟩)
          · have hc3 := hk3.2 _ hc
            gi_wp2_with fail
            refine ⟨trivial, ?_⟩
            refine (callsIn_wide.2 (r1 _)).mono ?_
            rintro e w' ⟨rfl, rfl⟩
            gi_wp2
            go_roundw
            case rel => exact ⟨a + 2, a + 2, _, by go_num, by go_num, HS.out, hJ3, hc3⟩
            case measure => simp [intOf]; omega
          · gi_wp2
            refine bodyPost_ret (results_none rfl _ _ _) rfl ?_
            exact ⟨⟨_, rfl⟩, .inr ⟨_, trivial, hJx3⟩⟩
        · have hst := HA.out.one hc1 hd
          have r1 := stands_r ((crlf hc1).trans (decide_eq_false hd))
          clear hd
          have HS := Lib.hid hst.1
          have HE := Lib.hid (ext_mkb' s k a)
          obtain ⟨fn, tmps, assign, body, hy, hR⟩ := hY pre ((s.data.toList.drop k).take (a - k)) wr hJs hst.2
          rw [← HE.out] at hy
          clear hc1 hc2 hst
          gi_wp2
          refine hR.mono ?_
          rintro e W3 (⟨rfl, hJ3, hk3⟩ | ⟨rfl, hJx3⟩)
          · have hc3 := hk3.2 _ hc
            gi_wp2_with fail
            refine ⟨trivial, ?_⟩
            refine (callsIn_wide.2 (r1 _)).mono ?_
            rintro e w' ⟨rfl, rfl⟩
            gi_wp2
            go_roundw
            case rel => exact ⟨a + 1, a + 1, _, by go_num, by go_num, HS.out, hJ3, hc3⟩
            case measure => simp [intOf]; omega
          · gi_wp2
            refine bodyPost_ret (results_none rfl _ _ _) rfl ?_
            exact ⟨⟨_, rfl⟩, .inr ⟨_, trivial, hJx3⟩⟩
      · have hst := HA.out.skip hc1 h10 h13
        have hsb : (((s[a]'hlt).toNat : Int) != 10) = true := by
          rw [hc2]; simp only [bne_iff_ne, ne_eq]; intro h; exact h10 (UInt8.toNat_inj.1 (by exact_mod_cast h))
        have hsb2 : (((s[a]'hlt).toNat : Int) != 13) = true := by
          rw [hc2]; simp only [bne_iff_ne, ne_eq]; intro h; exact h13 (UInt8.toNat_inj.1 (by exact_mod_cast h))
        have HS := Lib.hid hst
        clear hc1 hc2 hst h10 h13
        gi_wp2
        go_roundw
        case rel => exact ⟨k, a + 1, _, rfl, by go_num, HS.out, hJs, hc⟩
        case measure => simp [intOf]; omega
    · obtain rfl : a = s.size := by omega
      have hst := (show At s.data.toList pre k s.data.toList.length by rw [HZ.out]; exact HA.out).end_
      have HS := Lib.hid hst.1
      have HE := Lib.hid (ext_drop s k)
      obtain ⟨fn, tmps, assign, body, hy, hR⟩ := hY pre (s.data.toList.drop k) wr hJs hst.2
      rw [← HE.out] at hy
      clear hst
      gi_wp2
      refine hR.mono ?_
      rintro e W3 (⟨rfl, hJ3, hk3⟩ | ⟨rfl, hJx3⟩)
      · gi_wp2
        go_end0
        exact ⟨⟨_, rfl⟩, .inl ⟨_, HS.out, hJ3⟩⟩
      · gi_wp2
        go_end0
        exact ⟨⟨_, rfl⟩, .inr ⟨_, trivial, hJx3⟩⟩

theorem lines_stops (n : Nat) (hn : 1 ≤ n) (Bn n₀ : Nat) (s : ByteArray) (hs : s.size ≤ 1000000000) (w : World) (hlt : Bn < w.heap.size) (hBn : w.cell? ⟨Bn, 0, none⟩ = some (.string s)) :
    SeqStopsK Fence.wide n Tryd.prog 87 #[.pointer (some ⟨Bn, 0, none⟩)] (fun x : List UInt8 => #[.string (mkb x)]) (KpS n₀ Bn) (fun ys => ys = lns s.data.toList) (fun _ => True) (lns s.data.toList).length w :=
  fun l J Jx W hb hJ _ hY h0 => lines1_in n hn l Bn n₀ s hs J Jx W hY ((hb.cell (p := ⟨Bn, 0, none⟩) hlt).trans hBn) h0

set_option maxHeartbeats 400000 in
theorem lines0_any (s : ByteArray) (w : World) :
    Calls Tryd.prog 78 #[.string s] w fun e w' => e = .returned (.func (.func 87) #[] #[.pointer (some ⟨w.heap.size, 0, none⟩)]) ∧ w' = w.alloc (.cells #[.string s] 9) := by
  go_enter Tryd.func78, Tryd.ntmps78
  go_wp2
  go_ret
  exact ⟨rfl, rfl⟩
end Go.Proofs.YtjfhcgolgabkkaaDoor.Fo
