/- The iterator over tokens: its contract. -/
import Derived.Test.YtjfhcgolgabkkaaDoorLexC
import Derived.Test.YtjfhcgolgabkkaaDoorFoldB
namespace Go.Proofs.YtjfhcgolgabkkaaDoor
open Go.RowKit
set_option linter.unusedVariables false

/-- A token's At and End, as the program tells them. -/
def Yl.a (y : Yl) : Int := if y.t.e = 0 then (y.o : Int) else 0
def Yl.z (y : Yl) : Int := if y.t.e = 0 then (y.o : Int) + (y.t.n : Int) else 0
/-- The token as a value; what goes wrong, and where. -/
def ylV (y : Yl) : Value := .agg #[.int .i64 y.t.k, .string (mkb y.t.v), .int .i64 y.a, .int .i64 y.z]
def ylF (y : Yl) : Value := .agg #[.int .i64 y.t.e, .int .i64 ((y.o : Int) + (y.t.n : Int))]
theorem oneE_yl {t : Tk} {o : Nat} (h : t.e ≠ 0 → t.k = 0 ∧ t.v = []) : oneE t o = .returned (.tuple #[.agg #[.int .i64 t.k, .string (mkb t.v), .int .i64 (Yl.a ⟨t, o⟩), .int .i64 (Yl.z ⟨t, o⟩)], .int .i64 t.e, .int .i64 ((o : Int) + (t.n : Int))]) := by
  unfold oneE Yl.a Yl.z
  by_cases he : t.e = 0
  · simp only [he, if_true]; rfl
  · obtain ⟨h1, h2⟩ := h he
    simp only [he, if_false, h1, h2]; rfl
theorem grown_of_below {A B : World} (h : Below A.heap.size A B) : A.grownBy B none := ⟨h.os, h.tape, h.output, h.size, fun k hk _ => h.block k hk⟩
theorem abide_below {β : Type} {N : Nat} {J : β → World → Prop} (hJ : AbidesFrom N J) {x : β} {A B : World} (h : J x A) (hb : Below A.heap.size A B) : J x B := hJ x A B none h (grown_of_below hb) (fun r e => by cases e)
theorem own_below {β : Type} {N : Nat} {J : β → World → Prop} (hJ : OwnFrom N J) {x : β} {A B : World} (h : J x A) (hb : Below A.heap.size A B) : J x B := hJ x A B none h (grown_of_below hb) (fun r e => by cases e)

/-- How far the iterator has come: what was handed on, and what is left from place a on. -/
def Gone (l : List UInt8) (pre : List Yl) (a : Nat) : Prop := pre ++ ylds (l.drop a) a = ylds l 0 ∧ a ≤ l.length
theorem Gone.start (l : List UInt8) : Gone l [] 0 := ⟨rfl, Nat.zero_le _⟩

theorem Gone.stop {l : List UInt8} {pre : List Yl} {a : Nat} (h : pre ++ ylds (l.drop a) a = ylds l 0) (hb : ¬ a + Sc.blT (l.drop a) < l.length) (ha : a ≤ l.length) : pre = ylds l 0 := by
  rw [ylds_stop a (by rw [List.length_drop]; omega), List.append_nil] at h; exact h
theorem Gone.next {l : List UInt8} {pre : List Yl} {a b : Nat} {t : Tk} (h : pre ++ ylds (l.drop a) a = ylds l 0) (hb : Sc.blT (l.drop a) = b) (hlt : a + b < l.length) (ht : tk (l.drop (a + b)) = t) (he : t.e = 0) : Gone l (pre ++ [⟨t, a + b⟩]) (a + b + t.n) := by
  have ht' : tk ((l.drop a).drop (Sc.blT (l.drop a))) = t := by rw [List.drop_drop, hb]; exact ht
  rw [ylds_go a (by rw [List.length_drop, hb]; omega) ht' he, hb, List.drop_drop] at h
  refine ⟨?_, ?_⟩
  · rw [List.append_assoc, List.singleton_append, ← h, Nat.add_assoc]
  · have := (tk_ok (l.drop (a + b))).le
    rw [ht, List.length_drop] at this
    omega
theorem Gone.err {l : List UInt8} {pre : List Yl} {a b : Nat} {t : Tk} (h : pre ++ ylds (l.drop a) a = ylds l 0) (hb : Sc.blT (l.drop a) = b) (hlt : a + b < l.length) (ht : tk (l.drop (a + b)) = t) (he : t.e ≠ 0) : pre ++ [⟨t, a + b⟩] = ylds l 0 := by
  have ht' : tk ((l.drop a).drop (Sc.blT (l.drop a))) = t := by rw [List.drop_drop, hb]; exact ht
  rw [ylds_err a (by rw [List.length_drop, hb]; omega) ht' he, hb] at h
  exact h
theorem Gone.more {l : List UInt8} {pre : List Yl} {a b : Nat} {t : Tk} (h : pre ++ ylds (l.drop a) a = ylds l 0) (hb : Sc.blT (l.drop a) = b) (hlt : a + b < l.length) (ht : tk (l.drop (a + b)) = t) : pre ++ [⟨t, a + b⟩] <+: ylds l 0 := by
  by_cases he : t.e = 0
  · exact ⟨_, (Gone.next h hb hlt ht he).1⟩
  · exact ⟨[], by rw [List.append_nil]; exact Gone.err h hb hlt ht he⟩

set_option maxRecDepth 100000 in
set_option maxHeartbeats 2000000 in
theorem tokens1_in (n : Nat) (hn : 1 ≤ n) (l Bn n₀ N : Nat) (s : ByteArray) (hs : s.size ≤ 1000000) (J Jx : List Yl → World → Prop) (W : World) (hJ : AbidesFrom N J)
    (hY : ∀ pre x W1, J pre W1 → pre.length < (ylds s.data.toList 0).length → YieldAt Fence.wide (n - 1) Tryd.prog l #[ylV x, ylF x] W1 fun e W' =>
      (e = .returned (.bool true) ∧ J (pre ++ [x]) W' ∧ Fo.KpS n₀ Bn W1 W') ∨ (e = .returned (.bool false) ∧ Jx (pre ++ [x]) W'))
    (hBn : W.cell? ⟨Bn, 0, none⟩ = some (.string s)) (h0 : J [] W) :
    CallsIn Fence.wide n Tryd.prog 29 #[.func (.yield l) #[] #[], .pointer (some ⟨Bn, 0, none⟩)] W fun e W' => (∃ v, e = .returned v) ∧
      ((∃ ys, ys = ylds s.data.toList 0 ∧ J ys W') ∨ (∃ pre, pre <+: ylds s.data.toList 0 ∧ Jx pre W')) := by
  have HZ := Lib.hid (Lib.size_eq s).symm
  have rb := fun (a : Nat) (ha : a ≤ s.size) w => Sc.blank_any s a w (by omega)
  refine callsIn_of_wp Tryd.func29 rfl trivial ?_ rfl
  simp only [Tryd.ntmps29, List.size_toArray, List.length_cons, List.length_nil, Nat.reduceAdd, Nat.reduceSub, Array.replicate_succ, Array.replicate_zero, List.push_toArray, List.append_toArray, List.nil_append, List.cons_append]
  gi_wp2_with fail
  refine ⟨trivial, ?_⟩
  have r0 := rb 0 (Nat.zero_le _)
  rw [Sc.atE_in (Nat.zero_le _), List.drop_zero] at r0
  refine (callsIn_wide.2 (r0 _)).mono ?_
  rintro e w0 ⟨rfl, hb0⟩
  have hJ0 := abide_below hJ h0 hb0
  have hBn0 : w0.cell? ⟨Bn, 0, none⟩ = some (.string s) := (hb0.cell (p := ⟨Bn, 0, none⟩) (World.block_lt_of_cell? _ _ hBn)).trans hBn
  clear hb0 r0
  gi_wp2_with fail
  gi_loopw [3] (fun f wr => ∃ (a : Nat) (pre : List Yl), f = .int .i64 ((a : Int) + (Sc.blT (s.data.toList.drop a) : Int)) ∧ Gone s.data.toList pre a ∧ J pre wr ∧ wr.cell? ⟨Bn, 0, none⟩ = some (.string s))
    (fun f _ => s.size - (intOf f).toNat)
  case atStart => exact ⟨0, [], by simp, Gone.start _, hJ0, hBn0⟩
  case round =>
    obtain ⟨a, pre, rfl, hat, hJs, hc⟩ := hrel
    have has : a ≤ s.size := by have := hat.2; rw [HZ.out] at this; exact this
    have hbl := Sc.blT_le (s.data.toList.drop a)
    rw [List.length_drop, HZ.out] at hbl
    have HA := Lib.hid hat.1
    clear hat
    generalize hb : Sc.blT (s.data.toList.drop a) = b at *
    by_cases hlt : a + b < s.size
    · obtain ⟨t, ht⟩ : ∃ t, tk (s.data.toList.drop (a + b)) = t := ⟨_, rfl⟩
      have hk := tk_ok (s.data.toList.drop (a + b))
      rw [ht] at hk
      have hkl := hk.le
      rw [List.length_drop, HZ.out] at hkl
      have r1 := fun w => one_at hs hlt ht w
      rw [oneE_yl hk.err] at r1
      have hcast : ((a + b : Nat) : Int) = (a : Int) + (b : Int) := by omega
      rw [hcast] at r1
      have HB := Lib.hid hb
      have HT := Lib.hid ht
      have HK := Lib.hid hk
      clear hb ht hk
      gi_wp2_with fail
      refine ⟨trivial, ?_⟩
      refine (callsIn_wide.2 (r1 _)).mono ?_
      rintro e w1 ⟨rfl, hb1⟩
      have hJ1 := abide_below hJ hJs hb1
      have hc1 : w1.cell? ⟨Bn, 0, none⟩ = some (.string s) := (hb1.cell (p := ⟨Bn, 0, none⟩) (World.block_lt_of_cell? _ _ hc)).trans hc
      clear hb1
      have hJ2 := abide_below hJ hJ1 (bel_alloc (Below.refl _ w1) (.cells #[.int .i64 t.k, .string (mkb t.v), .int .i64 (Yl.a ⟨t, a + b⟩), .int .i64 (Yl.z ⟨t, a + b⟩)] 23))
      have hc2 : (w1.alloc (.cells #[.int .i64 t.k, .string (mkb t.v), .int .i64 (Yl.a ⟨t, a + b⟩), .int .i64 (Yl.z ⟨t, a + b⟩)] 23)).cell? ⟨Bn, 0, none⟩ = some (.string s) := by
        rw [World.cell?_alloc_lt _ _ _ (World.block_lt_of_cell? _ _ hc1)]; exact hc1
      have hmore := Gone.more HA.out HB.out (by rw [HZ.out]; exact hlt) HT.out
      have hlen : pre.length < (ylds s.data.toList 0).length := by
        have := hmore.length_le
        rw [List.length_append, List.length_singleton] at this; omega
      obtain ⟨fn, tmps, assign, body, hy, hR⟩ := hY pre ⟨t, a + b⟩ _ hJ2 hlen
      rw [show ylF ⟨t, a + b⟩ = .agg #[.int .i64 t.e, .int .i64 ((a : Int) + (b : Int) + (t.n : Int))] by unfold ylF; rw [← hcast], show ylV ⟨t, a + b⟩ = .agg #[.int .i64 t.k, .string (mkb t.v), .int .i64 (Yl.a ⟨t, a + b⟩), .int .i64 (Yl.z ⟨t, a + b⟩)] from rfl] at hy
      have HM := Lib.hid hmore
      clear hmore hlen
      gi_wp2
      refine hR.mono ?_
      rintro e W3 (⟨rfl, hJ3, hk3⟩ | ⟨rfl, hJx3⟩)
      · have hc3 := hk3.2 _ hc2
        clear hk3 hy hR hc2 hJ2 hJ1 hc1 r1
        by_cases he : t.e = 0
        · have hnx := Gone.next HA.out HB.out (by rw [HZ.out]; exact hlt) HT.out he
          have hpos := HK.out.ok he
          have r2 := rb (a + b + t.n) (by omega)
          rw [Sc.atE_in (by rw [HZ.out]; omega), show ((a + b + t.n : Nat) : Int) = (a : Int) + (b : Int) + (t.n : Int) by omega] at r2
          have HN := Lib.hid hnx
          clear hnx rb
          gi_wp2_with fail
          refine ⟨trivial, ?_⟩
          refine (callsIn_wide.2 (r2 _)).mono ?_
          rintro e w4 ⟨rfl, hb4⟩
          have hJ4 := abide_below hJ hJ3 hb4
          have hc4 : w4.cell? ⟨Bn, 0, none⟩ = some (.string s) := (hb4.cell (p := ⟨Bn, 0, none⟩) (World.block_lt_of_cell? _ _ hc3)).trans hc3
          clear r2 hb4
          gi_wp2
          go_roundw
          case rel => exact ⟨a + b + t.n, _, by go_num, HN.out, hJ4, hc4⟩
          case measure => simp [intOf]; omega
        · have hnx := Gone.err HA.out HB.out (by rw [HZ.out]; exact hlt) HT.out he
          have HN := Lib.hid hnx
          clear hnx rb
          gi_wp2
          refine bodyPost_ret (results_none rfl _ _ _) rfl ?_
          exact ⟨⟨_, rfl⟩, .inl ⟨_, HN.out, hJ3⟩⟩
      · clear hy hR hc2 hJ2 hJ1 hc1 r1 rb
        gi_wp2
        refine bodyPost_ret (results_none rfl _ _ _) rfl ?_
        exact ⟨⟨_, rfl⟩, .inr ⟨_, HM.out, hJx3⟩⟩
    · have hst := Gone.stop HA.out (by rw [hb, HZ.out]; exact hlt) (by rw [HZ.out]; exact has)
      have HN := Lib.hid hst
      clear hst rb
      gi_wp2
      go_end0
      exact ⟨⟨_, rfl⟩, .inl ⟨_, HN.out, hJs⟩⟩

theorem tokens_stops (n : Nat) (hn : 1 ≤ n) (Bn n₀ : Nat) (s : ByteArray) (hs : s.size ≤ 1000000) (w : World) (hlt : Bn < w.heap.size) (hBn : w.cell? ⟨Bn, 0, none⟩ = some (.string s)) :
    SeqStopsK Fence.wide n Tryd.prog 29 #[.pointer (some ⟨Bn, 0, none⟩)] (fun x : Yl => #[ylV x, ylF x]) (Fo.KpS n₀ Bn) (fun ys => ys = ylds s.data.toList 0) (fun pre => pre <+: ylds s.data.toList 0) (ylds s.data.toList 0).length w :=
  fun l J Jx W hb hJ _ hY h0 => tokens1_in n hn l Bn n₀ _ s hs J Jx W hJ hY ((hb.cell (p := ⟨Bn, 0, none⟩) hlt).trans hBn) h0

set_option maxHeartbeats 400000 in
theorem tokens0_any (s : ByteArray) (w : World) :
    Calls Tryd.prog 26 #[.string s] w fun e w' => e = .returned (.func (.func 29) #[] #[.pointer (some ⟨w.heap.size, 0, none⟩)]) ∧ w' = w.alloc (.cells #[.string s] 9) := by
  go_enter Tryd.func26, Tryd.ntmps26
  go_wp2
  go_ret
  exact ⟨rfl, rfl⟩
end Go.Proofs.YtjfhcgolgabkkaaDoor
