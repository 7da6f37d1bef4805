/- The contract of lex.One. -/
import Derived.Test.YtpcijjdlppoblaaGreatDoorLexB
import Derived.Test.YtpcijjdlppoblaaGreatDoorFoldD
import Derived.BigRegionIn
import Derived.Test.YtpcijjdlppoblaaGreatDoorTokR
namespace Go.Proofs.YtpcijjdlppoblaaGreatDoor
open Go.RowKit
set_option linter.unusedVariables false

theorem sh_at (l : List UInt8) (k : Nat) (h : k ≤ l.length) : Sc.numA l k = ⟨(Sc.numA (l.drop k) 0).k, (k : Int) + (((Sc.numA (l.drop k) 0).e.toNat : Nat) : Int), (Sc.numA (l.drop k) 0).b⟩ := by
  have h1 := Sc.num_sh (Sc.sh_drop l k h) (j := 0) (Int.le_refl _)
  rw [Int.zero_add] at h1
  rw [h1]
  have h2 := (num0 (l.drop k)).1
  unfold Sc.shift
  congr 1
  omega
theorem str_at (l : List UInt8) (k : Nat) : strA l k = strA (l.drop k) 0 := by
  unfold strA
  simp [List.drop_drop]
theorem raw_at (l : List UInt8) (k : Nat) (h : k ≤ l.length) : Fo.rawA l k = Fo.rawA (l.drop k) 0 := by
  cases e : Fo.stB l k Fo.q3 with
  | false =>
    have e2 : Fo.stB (l.drop k) 0 Fo.q3 = false := by
      rw [Fo.stB_at h] at e
      rw [show (0 : Int) = ((0 : Nat) : Int) from rfl, Fo.stB_at (Nat.zero_le _), List.drop_zero]; exact e
    rw [Fo.rawA_no e, Fo.rawA_no e2]
  | true =>
    have e2 : Fo.stB (l.drop k) ((0 : Nat) : Int) Fo.q3 = true := by
      rw [Fo.stB_at h] at e
      rw [Fo.stB_at (Nat.zero_le _), List.drop_zero]; exact e
    rw [Fo.rawA_at e, show (0 : Int) = ((0 : Nat) : Int) from rfl, Fo.rawA_at e2]
    simp [List.drop_drop]

/-- One, at a place of the text. -/
theorem one_at {s : ByteArray} {k : Nat} {t : Tk} (hs : s.size ≤ 1000000) (hk : k < s.size) (ht : tk (s.data.toList.drop k) = t) (w : World) :
    Calls Tryz.prog 60 #[.string s, .int .i64 k] w fun r w' => r = oneE t k ∧ Below w.heap.size w w' := by
  have hl : k < s.data.toList.length := by rw [← Lib.size_eq]; exact hk
  have hd : s.data.toList.drop k = s[k] :: s.data.toList.drop (k + 1) := List.drop_eq_getElem_cons hl
  have hw := way (s[k]) (s.data.toList.drop k)
  have htk : tkC (s[k]) (s.data.toList.drop k) = t := by rw [← ht, hd]; rfl
  rw [htk] at hw
  clear htk ht
  have k0 : (k : Int) + ((0 : Nat) : Int) = (k : Int) := by omega
  cases hw with
  | dots h1 h2 =>
    have := one_dots hs hk rfl h1 h2 w
    rw [show (s.data.toList.drop k).take 3 = d3 from Fo.pre_take.1 h2] at this
    exact this
  | dot h1 h2 => rw [oneE_no (by decide)]; show Calls _ _ _ _ fun r w' => r = tokE 0 ⟨#[]⟩ 0 0 2 ((k : Int) + ((0 : Nat) : Int)) ∧ _; rw [k0]; exact one_dot hs hk rfl h1 h2 w
  | sign h1 h2 =>
    have := one_sign hs hk rfl h1 h2 w
    rw [show (s.data.toList.drop k).take 1 = [s[k]] by rw [hd]; rfl] at this
    exact this
  | name h1 h2 h3 => exact one_name hs hk rfl h1 h2 h3 rfl w
  | num h1 h2 h3 h4 =>
    have hn := sh_at s.data.toList k (by omega)
    have h0 := num0 (s.data.toList.drop k)
    rw [List.length_drop, ← Lib.size_eq] at h0
    cases hb : (Sc.numA (s.data.toList.drop k) 0).b
    · rw [hb] at hn
      rw [show tkNum (s.data.toList.drop k) = ⟨0, [], (Sc.numA (s.data.toList.drop k) 0).e.toNat, 3⟩ by unfold tkNum; rw [if_neg (by rw [hb]; decide)], oneE_no (by simp)]
      exact one_num_no hs hk rfl h1 h2 h3 h4 hn w
    · rw [hb] at hn
      rw [show tkNum (s.data.toList.drop k) = ⟨(Sc.numA (s.data.toList.drop k) 0).k, (s.data.toList.drop k).take (Sc.numA (s.data.toList.drop k) 0).e.toNat, (Sc.numA (s.data.toList.drop k) 0).e.toNat, 0⟩ by unfold tkNum; rw [if_pos hb]]
      exact one_num_ok hs hk rfl h1 h2 h3 h4 hn (by omega) w
  | raw h1 h2 =>
    have hn := raw_at s.data.toList k (by omega)
    unfold tkRaw
    generalize Fo.rawA (s.data.toList.drop k) 0 = R at *
    obtain ⟨v, n, b⟩ := R
    cases b
    · rw [if_neg (by simp), oneE_no (by simp)]
      exact one_raw_no hs hk rfl h1 h2 hn w
    · rw [if_pos rfl]
      exact one_raw_ok hs hk rfl h1 h2 hn w
  | str h1 h2 =>
    have hn := str_at s.data.toList k
    unfold tkStr
    generalize strA (s.data.toList.drop k) 0 = R at *
    obtain ⟨v, n, b⟩ := R
    cases b
    · rw [if_neg (by simp), oneE_no (by simp)]
      exact one_str_no hs hk rfl h1 h2 hn w
    · rw [if_pos rfl]
      exact one_str_ok hs hk rfl h1 h2 hn w
  | bad h1 h2 h3 h4 h5 => rw [oneE_no (by decide)]; show Calls _ _ _ _ fun r w' => r = tokE 0 ⟨#[]⟩ 0 0 2 ((k : Int) + ((0 : Nat) : Int)) ∧ _; rw [k0]; exact one_bad hs hk rfl h1 h2 h3 h4 h5 w
end Go.Proofs.YtpcijjdlppoblaaGreatDoor

/- The iterator over tokens: its contract. -/
namespace Go.Proofs.YtpcijjdlppoblaaGreatDoor
open Go.RowKit
set_option linter.unusedVariables false

/-- A token's At and End, as the program tells them. -/
def Yl.a (y : Yl) : Int := if y.t.e = 0 then (y.o : Int) else 0
def Yl.z (y : Yl) : Int := if y.t.e = 0 then (y.o : Int) + (y.t.n : Int) else 0
/-- The token as a value; what goes wrong, and where. -/
def ylV (y : Yl) : Value := .agg #[.int .i64 y.t.k, .string (mkb y.t.v), .int .i64 y.a, .int .i64 y.z]
def ylF (y : Yl) : Value := .agg #[.int .i64 y.t.e, .int .i64 ((y.o : Int) + (y.t.n : Int))]
theorem oneE_yl {t : Tk} {o : Nat} (h : t.e ≠ 0 → t.k = 0 ∧ t.v = []) : oneE t o = .returned (.tuple #[.agg #[.int .i64 t.k, .string (mkb t.v), .int .i64 (Yl.a ⟨t, o⟩), .int .i64 (Yl.z ⟨t, o⟩)], .int .i64 t.e, .int .i64 ((o : Int) + (t.n : Int))]) := by
  unfold oneE Yl.a Yl.z
  by_cases he : t.e = 0
  · simp only [he, if_true]; rfl
  · obtain ⟨h1, h2⟩ := h he
    simp only [he, if_false, h1, h2]; rfl
theorem grown_of_below {A B : World} (h : Below A.heap.size A B) : A.grownBy B none := ⟨h.os, h.tape, h.output, h.size, fun k hk _ => h.block k hk⟩
theorem abide_below {β : Type} {N : Nat} {J : β → World → Prop} (hJ : AbidesFrom N J) {x : β} {A B : World} (h : J x A) (hb : Below A.heap.size A B) : J x B := hJ x A B none h (grown_of_below hb) (fun r e => by cases e)
theorem own_below {β : Type} {N : Nat} {J : β → World → Prop} (hJ : OwnFrom N J) {x : β} {A B : World} (h : J x A) (hb : Below A.heap.size A B) : J x B := hJ x A B none h (grown_of_below hb) (fun r e => by cases e)

/-- How far the iterator has come: what was handed on, and what is left from place a on. -/
def Gone (l : List UInt8) (pre : List Yl) (a : Nat) : Prop := pre ++ ylds (l.drop a) a = ylds l 0 ∧ a ≤ l.length
theorem Gone.start (l : List UInt8) : Gone l [] 0 := ⟨rfl, Nat.zero_le _⟩

theorem Gone.stop {l : List UInt8} {pre : List Yl} {a : Nat} (h : pre ++ ylds (l.drop a) a = ylds l 0) (hb : ¬ a + Sc.blT (l.drop a) < l.length) (ha : a ≤ l.length) : pre = ylds l 0 := by
  rw [ylds_stop a (by rw [List.length_drop]; omega), List.append_nil] at h; exact h
theorem Gone.next {l : List UInt8} {pre : List Yl} {a b : Nat} {t : Tk} (h : pre ++ ylds (l.drop a) a = ylds l 0) (hb : Sc.blT (l.drop a) = b) (hlt : a + b < l.length) (ht : tk (l.drop (a + b)) = t) (he : t.e = 0) : Gone l (pre ++ [⟨t, a + b⟩]) (a + b + t.n) := by
  have ht' : tk ((l.drop a).drop (Sc.blT (l.drop a))) = t := by rw [List.drop_drop, hb]; exact ht
  rw [ylds_go a (by rw [List.length_drop, hb]; omega) ht' he, hb, List.drop_drop] at h
  refine ⟨?_, ?_⟩
  · rw [List.append_assoc, List.singleton_append, ← h, Nat.add_assoc]
  · have := (tk_ok (l.drop (a + b))).le
    rw [ht, List.length_drop] at this
    omega
theorem Gone.err {l : List UInt8} {pre : List Yl} {a b : Nat} {t : Tk} (h : pre ++ ylds (l.drop a) a = ylds l 0) (hb : Sc.blT (l.drop a) = b) (hlt : a + b < l.length) (ht : tk (l.drop (a + b)) = t) (he : t.e ≠ 0) : pre ++ [⟨t, a + b⟩] = ylds l 0 := by
  have ht' : tk ((l.drop a).drop (Sc.blT (l.drop a))) = t := by rw [List.drop_drop, hb]; exact ht
  rw [ylds_err a (by rw [List.length_drop, hb]; omega) ht' he, hb] at h
  exact h
theorem Gone.more {l : List UInt8} {pre : List Yl} {a b : Nat} {t : Tk} (h : pre ++ ylds (l.drop a) a = ylds l 0) (hb : Sc.blT (l.drop a) = b) (hlt : a + b < l.length) (ht : tk (l.drop (a + b)) = t) : pre ++ [⟨t, a + b⟩] <+: ylds l 0 := by
  by_cases he : t.e = 0
  · exact ⟨_, (Gone.next h hb hlt ht he).1⟩
  · exact ⟨[], by rw [List.append_nil]; exact Gone.err h hb hlt ht he⟩

set_option maxRecDepth 100000 in
set_option maxHeartbeats 2000000 in
theorem tokens1_in (n : Nat) (hn : 1 ≤ n) (l Bn n₀ N : Nat) (s : ByteArray) (hs : s.size ≤ 1000000) (J Jx : List Yl → World → Prop) (W : World) (hJ : AbidesFrom N J)
    (hY : ∀ pre x W1, J pre W1 → pre.length < (ylds s.data.toList 0).length → YieldAt Fence.wide (n - 1) Tryz.prog l #[ylV x, ylF x] W1 fun e W' =>
      (e = .returned (.bool true) ∧ J (pre ++ [x]) W' ∧ Fo.KpS n₀ Bn W1 W') ∨ (e = .returned (.bool false) ∧ Jx (pre ++ [x]) W'))
    (hBn : W.cell? ⟨Bn, 0, none⟩ = some (.string s)) (h0 : J [] W) :
    CallsIn Fence.wide n Tryz.prog 58 #[.func (.yield l) #[] #[], .pointer (some ⟨Bn, 0, none⟩)] W fun e W' => (∃ v, e = .returned v) ∧
      ((∃ ys, ys = ylds s.data.toList 0 ∧ J ys W') ∨ (∃ pre, pre <+: ylds s.data.toList 0 ∧ Jx pre W')) := by
  have HZ := Lib.hid (Lib.size_eq s).symm
  have rb := fun (a : Nat) (ha : a ≤ s.size) w => Sc.blank_any s a w (by omega)
  refine callsIn_of_wp Tryz.func58 rfl trivial ?_ rfl
  simp only [Tryz.ntmps58, List.size_toArray, List.length_cons, List.length_nil, Nat.reduceAdd, Nat.reduceSub, Array.replicate_succ, Array.replicate_zero, List.push_toArray, List.append_toArray, List.nil_append, List.cons_append]
  gi_wp2_with fail
  refine ⟨trivial, ?_⟩
  have r0 := rb 0 (Nat.zero_le _)
  rw [Sc.atE_in (Nat.zero_le _), List.drop_zero] at r0
  refine (callsIn_wide.2 (r0 _)).mono ?_
  rintro e w0 ⟨rfl, hb0⟩
  have hJ0 := abide_below hJ h0 hb0
  have hBn0 : w0.cell? ⟨Bn, 0, none⟩ = some (.string s) := (hb0.cell (p := ⟨Bn, 0, none⟩) (World.block_lt_of_cell? _ _ hBn)).trans hBn
  clear hb0 r0
  gi_wp2_with fail
  gi_loopw [3] (fun f wr => ∃ (a : Nat) (pre : List Yl), f = .int .i64 ((a : Int) + (Sc.blT (s.data.toList.drop a) : Int)) ∧ Gone s.data.toList pre a ∧ J pre wr ∧ wr.cell? ⟨Bn, 0, none⟩ = some (.string s))
    (fun f _ => s.size - (intOf f).toNat)
  case atStart => exact ⟨0, [], by simp, Gone.start _, hJ0, hBn0⟩
  case round =>
    obtain ⟨a, pre, rfl, hat, hJs, hc⟩ := hrel
    have has : a ≤ s.size := by have := hat.2; rw [HZ.out] at this; exact this
    have hbl := Sc.blT_le (s.data.toList.drop a)
    rw [List.length_drop, HZ.out] at hbl
    have HA := Lib.hid hat.1
    clear hat
    generalize hb : Sc.blT (s.data.toList.drop a) = b at *
    by_cases hlt : a + b < s.size
    · obtain ⟨t, ht⟩ : ∃ t, tk (s.data.toList.drop (a + b)) = t := ⟨_, rfl⟩
      have hk := tk_ok (s.data.toList.drop (a + b))
      rw [ht] at hk
      have hkl := hk.le
      rw [List.length_drop, HZ.out] at hkl
      have r1 := fun w => one_at hs hlt ht w
      rw [oneE_yl hk.err] at r1
      have hcast : ((a + b : Nat) : Int) = (a : Int) + (b : Int) := by omega
      rw [hcast] at r1
      have HB := Lib.hid hb
      have HT := Lib.hid ht
      have HK := Lib.hid hk
      clear hb ht hk
      gi_wp2_with fail
      refine ⟨trivial, ?_⟩
      refine (callsIn_wide.2 (r1 _)).mono ?_
      rintro e w1 ⟨rfl, hb1⟩
      have hJ1 := abide_below hJ hJs hb1
      have hc1 : w1.cell? ⟨Bn, 0, none⟩ = some (.string s) := (hb1.cell (p := ⟨Bn, 0, none⟩) (World.block_lt_of_cell? _ _ hc)).trans hc
      clear hb1
      have hJ2 := abide_below hJ hJ1 (bel_alloc (Below.refl _ w1) (.cells #[.int .i64 t.k, .string (mkb t.v), .int .i64 (Yl.a ⟨t, a + b⟩), .int .i64 (Yl.z ⟨t, a + b⟩)] 25))
      have hc2 : (w1.alloc (.cells #[.int .i64 t.k, .string (mkb t.v), .int .i64 (Yl.a ⟨t, a + b⟩), .int .i64 (Yl.z ⟨t, a + b⟩)] 25)).cell? ⟨Bn, 0, none⟩ = some (.string s) := by
        rw [World.cell?_alloc_lt _ _ _ (World.block_lt_of_cell? _ _ hc1)]; exact hc1
      have hmore := Gone.more HA.out HB.out (by rw [HZ.out]; exact hlt) HT.out
      have hlen : pre.length < (ylds s.data.toList 0).length := by
        have := hmore.length_le
        rw [List.length_append, List.length_singleton] at this; omega
      obtain ⟨fn, tmps, assign, body, hy, hR⟩ := hY pre ⟨t, a + b⟩ _ hJ2 hlen
      rw [show ylF ⟨t, a + b⟩ = .agg #[.int .i64 t.e, .int .i64 ((a : Int) + (b : Int) + (t.n : Int))] by unfold ylF; rw [← hcast], show ylV ⟨t, a + b⟩ = .agg #[.int .i64 t.k, .string (mkb t.v), .int .i64 (Yl.a ⟨t, a + b⟩), .int .i64 (Yl.z ⟨t, a + b⟩)] from rfl] at hy
      have HM := Lib.hid hmore
      clear hmore hlen
      gi_wp2
      refine hR.mono ?_
      rintro e W3 (⟨rfl, hJ3, hk3⟩ | ⟨rfl, hJx3⟩)
      · have hc3 := hk3.2 _ hc2
        clear hk3 hy hR hc2 hJ2 hJ1 hc1 r1
        by_cases he : t.e = 0
        · have hnx := Gone.next HA.out HB.out (by rw [HZ.out]; exact hlt) HT.out he
          have hpos := HK.out.ok he
          have r2 := rb (a + b + t.n) (by omega)
          rw [Sc.atE_in (by rw [HZ.out]; omega), show ((a + b + t.n : Nat) : Int) = (a : Int) + (b : Int) + (t.n : Int) by omega] at r2
          have HN := Lib.hid hnx
          clear hnx rb
          gi_wp2_with fail
          refine ⟨trivial, ?_⟩
          refine (callsIn_wide.2 (r2 _)).mono ?_
          rintro e w4 ⟨rfl, hb4⟩
          have hJ4 := abide_below hJ hJ3 hb4
          have hc4 : w4.cell? ⟨Bn, 0, none⟩ = some (.string s) := (hb4.cell (p := ⟨Bn, 0, none⟩) (World.block_lt_of_cell? _ _ hc3)).trans hc3
          clear r2 hb4
          gi_wp2
          go_roundw
          case rel => exact ⟨a + b + t.n, _, by go_num, HN.out, hJ4, hc4⟩
          case measure => simp [intOf]; omega
        · have hnx := Gone.err HA.out HB.out (by rw [HZ.out]; exact hlt) HT.out he
          have HN := Lib.hid hnx
          clear hnx rb
          gi_wp2
          refine bodyPost_ret (results_none rfl _ _ _) rfl ?_
          exact ⟨⟨_, rfl⟩, .inl ⟨_, HN.out, hJ3⟩⟩
      · clear hy hR hc2 hJ2 hJ1 hc1 r1 rb
        gi_wp2
        refine bodyPost_ret (results_none rfl _ _ _) rfl ?_
        exact ⟨⟨_, rfl⟩, .inr ⟨_, HM.out, hJx3⟩⟩
    · have hst := Gone.stop HA.out (by rw [hb, HZ.out]; exact hlt) (by rw [HZ.out]; exact has)
      have HN := Lib.hid hst
      clear hst rb
      gi_wp2
      go_end0
      exact ⟨⟨_, rfl⟩, .inl ⟨_, HN.out, hJs⟩⟩

theorem tokens_stops (n : Nat) (hn : 1 ≤ n) (Bn n₀ : Nat) (s : ByteArray) (hs : s.size ≤ 1000000) (w : World) (hlt : Bn < w.heap.size) (hBn : w.cell? ⟨Bn, 0, none⟩ = some (.string s)) :
    SeqStopsK Fence.wide n Tryz.prog 58 #[.pointer (some ⟨Bn, 0, none⟩)] (fun x : Yl => #[ylV x, ylF x]) (Fo.KpS n₀ Bn) (fun ys => ys = ylds s.data.toList 0) (fun pre => pre <+: ylds s.data.toList 0) (ylds s.data.toList 0).length w :=
  fun l J Jx W hb hJ _ hY h0 => tokens1_in n hn l Bn n₀ _ s hs J Jx W hJ hY ((hb.cell (p := ⟨Bn, 0, none⟩) hlt).trans hBn) h0

set_option maxHeartbeats 400000 in
theorem tokens0_any (s : ByteArray) (w : World) :
    Calls Tryz.prog 38 #[.string s] w fun e w' => e = .returned (.func (.func 58) #[] #[.pointer (some ⟨w.heap.size, 0, none⟩)]) ∧ w' = w.alloc (.cells #[.string s] 9) := by
  go_enter Tryz.func38, Tryz.ntmps38
  go_wp2
  go_ret
  exact ⟨rfl, rfl⟩
end Go.Proofs.YtpcijjdlppoblaaGreatDoor

/- The contract of lex.Lex. -/
namespace Go.Proofs.YtpcijjdlppoblaaGreatDoor
open Go.RowKit Go.Shelf
set_option linter.unusedVariables false

theorem infoT : (Tryz.prog.info? 25).map (fun i => (i.zero, i.size, i.bytes)) = some (some (.agg #[.int .i64 0, .string ⟨#[]⟩, .int .i64 0, .int .i64 0]), 4, 40) := by kernel_rfl
/-- A token's four cells. -/
def cl4 (y : Yl) : List Value := [.int .i64 y.t.k, .string (mkb y.t.v), .int .i64 y.a, .int .i64 y.z]
def cls (ys : List Yl) : List Value := ys.flatMap cl4
theorem cls_len (ys : List Yl) : (cls ys).length = ys.length * 4 := by
  induction ys with
  | nil => rfl
  | cons y ys ih => rw [cls, List.flatMap_cons, List.length_append]; change 4 + (cls ys).length = _; rw [ih, List.length_cons]; omega
theorem cls_snoc (ys : List Yl) (y : Yl) : cls (ys ++ [y]) = cls ys ++ cl4 y := by simp [cls]

/-- The two boxes of a round: the token's, and what goes wrong. -/
structure Rd (W : World) (b7 b8 : Nat) (x : Yl) : Prop where
  c0 : W.cell? ⟨b7, 0, none⟩ = some (.int .i64 x.t.k)
  c1 : W.cell? ⟨b7, 1, none⟩ = some (.string (mkb x.t.v))
  c2 : W.cell? ⟨b7, 2, none⟩ = some (.int .i64 x.a)
  c3 : W.cell? ⟨b7, 3, none⟩ = some (.int .i64 x.z)
  d0 : W.cell? ⟨b8, 0, none⟩ = some (.int .i64 x.t.e)
  d1 : W.cell? ⟨b8, 1, none⟩ = some (.int .i64 ((x.o : Int) + (x.t.n : Int)))
theorem Rd.kept {W W' : World} {row : Option Nat} {b7 b8 : Nat} {x : Yl} (h : Rd W b7 b8 x) (hg : W.grownBy W' row) (hrow : ∀ r, row = some r → ∃ o : Obj, W.heap[r]? = some o ∧ o.isCells = false) : Rd W' b7 b8 x :=
  ⟨cell_kept h.c0 hg hrow, cell_kept h.c1 hg hrow, cell_kept h.c2 hg hrow, cell_kept h.c3 hg hrow, cell_kept h.d0 hg hrow, cell_kept h.d1 hg hrow⟩
theorem Rd.new (W : World) (x : Yl) (t u : TypeId) : Rd ((W.alloc (.cells #[.int .i64 x.t.k, .string (mkb x.t.v), .int .i64 x.a, .int .i64 x.z] t)).alloc (.cells #[.int .i64 x.t.e, .int .i64 ((x.o : Int) + (x.t.n : Int))] u)) W.heap.size (W.heap.size + 1) x := by
  constructor <;> simp [go_sem]

/-- The three boxes of Lex's results. -/
structure Rb (W : World) (b : Nat) (v : Value) (er p : Int) : Prop where
  r2 : Boxed W b 23 v
  r3 : Boxed W (b + 1) 49 (.int .i64 er)
  r4 : Boxed W (b + 1 + 1) 3 (.int .i64 p)
theorem Rb.kept {W W' : World} {row : Option Nat} {b : Nat} {v : Value} {er p : Int} (h : Rb W b v er p) (hg : W.grownBy W' row) (h0 : some b ≠ row) (h1 : some (b + 1) ≠ row) (h2 : some (b + 1 + 1) ≠ row) : Rb W' b v er p :=
  ⟨h.r2.kept hg h0, h.r3.kept hg h1, h.r4.kept hg h2⟩
theorem Boxed.notRow {W : World} {row : Option Nat} {b : Nat} {t : TypeId} {v : Value} (h : Boxed W b t v) (hrow : ∀ r, row = some r → ∃ o : Obj, W.heap[r]? = some o ∧ o.isCells = false) : some b ≠ row := fun e => by
  obtain ⟨o, ho, hc⟩ := hrow b e.symm
  rw [show W.heap[b]? = _ from h] at ho
  cases ho; cases hc
theorem Rb.own {W W' : World} {row : Option Nat} {b : Nat} {v : Value} {er p : Int} (h : Rb W b v er p) (hg : W.grownBy W' row) (hrow : ∀ r, row = some r → ∃ o : Obj, W.heap[r]? = some o ∧ o.isCells = false) : Rb W' b v er p :=
  h.kept hg (Boxed.notRow h.r2 hrow) (Boxed.notRow h.r3 hrow) (Boxed.notRow h.r4 hrow)
theorem Rb.new (w : World) (v : Value) (er p : Int) : Rb (((w.alloc (.cells #[v] 23)).alloc (.cells #[.int .i64 er] 49)).alloc (.cells #[.int .i64 p] 3)) w.heap.size v er p := by
  have h1 := Boxed.new w 23 v
  have h2 := Boxed.new (w.alloc (.cells #[v] 23)) 49 (.int .i64 er)
  have h3 := Boxed.new ((w.alloc (.cells #[v] 23)).alloc (.cells #[.int .i64 er] 49)) 3 (.int .i64 p)
  rw [World.size_alloc] at h2
  rw [World.size_alloc, World.size_alloc] at h3
  exact ⟨(h1.alloc _).alloc _, h2.alloc _, h3⟩
theorem Rb.below {W W' : World} {b : Nat} {v : Value} {er p : Int} (h : Rb W b v er p) (hb : Below W.heap.size W W') : Rb W' b v er p := h.kept (grown_of_below hb) (by simp) (by simp) (by simp)

/-- Between two rounds. -/
structure Ii (w w1 : World) (pre : List Yl) (W : World) : Prop where
  row : ∃ v, Boxed W w1.heap.size 23 v ∧ W.ownsRow (w1.heap.size + 2) 25 4 v pre.length (cls pre) ∧ True
  res : Rb W w.heap.size (.slice none 0 0) 0 0
  bel : Below w.heap.size w W
  siz : w1.heap.size + 2 ≤ W.heap.size
  ok : allOk pre = true
/-- Behind a round that has left. -/
structure Ij (w w1 : World) (c : Code) (pre : List Yl) (W : World) : Prop where
  ret : c = .ret
  res : Rb W w.heap.size (.slice none 0 0) (errOf pre).1 (errOf pre).2
  bel : Below w.heap.size w W
  siz : w1.heap.size + 2 ≤ W.heap.size
  no : allOk pre = false
theorem Ii.own (w w1 : World) (hw : w.heap.size ≤ w1.heap.size) (N : Nat) (hN : w.heap.size ≤ N) : OwnFrom N (Ii w w1) := fun s A B row hs hg hr => by
  have hr' : ∀ r, row = some r → ∃ o : Obj, A.heap[r]? = some o ∧ o.isCells = false := fun r e => (hr r e).2
  refine ⟨?_, hs.res.own hg hr', hs.bel.grown hg hs.bel.size (fun k e => Nat.le_trans hN (hr k e).1), Nat.le_trans hs.siz hg.size, hs.ok⟩
  exact holdsRow_own (w1.heap.size + 2) w1.heap.size 23 25 4 (fun pre : List Yl => pre.length) cls (fun _ _ => True) s A B row hs.row hg hr'
theorem Ij.own (w w1 : World) (hw : w.heap.size ≤ w1.heap.size) (N : Nat) (hN : w.heap.size ≤ N) (c : Code) : OwnFrom N (Ij w w1 c) := fun s A B row hs hg hr => by
  have hr' : ∀ r, row = some r → ∃ o : Obj, A.heap[r]? = some o ∧ o.isCells = false := fun r e => (hr r e).2
  exact ⟨hs.ret, hs.res.own hg hr', hs.bel.grown hg hs.bel.size (fun k e => Nat.le_trans hN (hr k e).1), Nat.le_trans hs.siz hg.size, hs.no⟩

theorem cells_new (W : World) (vs : List Value) (t : TypeId) : ∀ j u, vs[j]? = some u → (W.alloc (.cells vs.toArray t)).cell? ((⟨W.heap.size, 0, none⟩ : Addr).add j) = some u := fun j u hj => by
  have := World.cell?_alloc_mark W vs.toArray t (0, 0) j
  have ea : (⟨W.heap.size, 0, none⟩ : Addr).add j = ⟨W.heap.size, j, none⟩ := by unfold Addr.add; split <;> simp_all
  rw [ea, this]; simpa using hj
theorem res3 {fn : Func} (hr : fn.results = #[.cell 2 23, .cell 3 49, .cell 4 3]) {tmps : Array Value} {W : World} {b : Nat} {v : Value} {er p : Int}
    (h2 : tmps.getD 2 undef = .pointer (some ⟨b, 0, none⟩)) (h3 : tmps.getD 3 undef = .pointer (some ⟨b + 1, 0, none⟩)) (h4 : tmps.getD 4 undef = .pointer (some ⟨b + 1 + 1, 0, none⟩))
    (h : Rb W b v er p) : (results fn tmps).run Tryz.prog W = .ok (.tuple #[v, .int .i64 er, .int .i64 p]) W := by
  have c2 := h.r2.cell
  have c3 := h.r3.cell
  have c4 := h.r4.cell
  unfold results
  rw [hr]
  simp only [List.mapM_toArray, List.mapM_cons, List.mapM_nil, h2, h3, h4]
  simp [go_sem, c2, c3, c4]
theorem Rb.set {W : World} {b : Nat} {v : Value} {er p : Int} (h : Rb W b v er p) (v' : Value) (er' p' : Int) : Rb (((W.setCell ⟨b, 0, none⟩ v').setCell ⟨b + 1, 0, none⟩ (.int .i64 er')).setCell ⟨b + 1 + 1, 0, none⟩ (.int .i64 p')) b v' er' p' :=
  ⟨((h.r2.set v').other (by omega) _).other (by omega) _, ((h.r3.other (by omega) _).set _).other (by omega) _, ((h.r4.other (by omega) _).other (by omega) _).set _⟩
theorem bel_three {w W : World} {b : Nat} (h : Below w.heap.size w W) (hb : w.heap.size ≤ b) (v1 v2 v3 : Value) : Below w.heap.size w (((W.setCell ⟨b, 0, none⟩ v1).setCell ⟨b + 1, 0, none⟩ v2).setCell ⟨b + 1 + 1, 0, none⟩ v3) :=
  ((h.setCell (p := ⟨b, 0, none⟩) hb v1).setCell (p := ⟨b + 1, 0, none⟩) (by show w.heap.size ≤ b + 1; omega) v2).setCell (p := ⟨b + 1 + 1, 0, none⟩) (by show w.heap.size ≤ b + 1 + 1; omega) v3
theorem keep_three (W : World) (b : Nat) (v1 v2 v3 : Value) : KeepsOthers W (((W.setCell ⟨b, 0, none⟩ v1).setCell ⟨b + 1, 0, none⟩ v2).setCell ⟨b + 1 + 1, 0, none⟩ v3) :=
  ((KeepsOthers.setCell _ _ _).trans (KeepsOthers.setCell _ _ _)).trans (KeepsOthers.setCell _ _ _)

theorem row_slice {W : World} {b : Nat} {t : TypeId} {k n : Nat} {v : Value} {xs : List Value} (h : W.ownsRow b t k v n xs) : ∃ A c, v = .slice A n c := by
  rcases h.2 with ⟨h1, h2⟩ | ⟨g, cap, cur, h1, _⟩
  · exact ⟨none, 0, by rw [h1, h2]⟩
  · exact ⟨_, cap, h1⟩
theorem allOk_snoc {pre : List Yl} {x : Yl} (h : allOk pre = true) (he : x.t.e = 0) : allOk (pre ++ [x]) = true := by rw [allOk_append, h]; simp [allOk, he]
theorem allOk_bad {pre : List Yl} {x : Yl} (he : x.t.e ≠ 0) : allOk (pre ++ [x]) = false := by rw [allOk_append]; simp [allOk, he]

theorem left_end {w w1 W : World} {pre : List Yl} {x : Yl} {N : Nat} (hI : Ii w w1 pre W) (he : ¬ x.t.e = 0) :
    KeepsFrom N W (World.drew (((W.setCell ⟨w.heap.size, 0, none⟩ (.slice none 0 0)).setCell ⟨w.heap.size + 1, 0, none⟩ (.int .i64 x.t.e)).setCell ⟨w.heap.size + 1 + 1, 0, none⟩ (.int .i64 ((x.o : Int) + (x.t.n : Int))))) ∧
    Ij w w1 .ret (pre ++ [x]) (World.drew (((W.setCell ⟨w.heap.size, 0, none⟩ (.slice none 0 0)).setCell ⟨w.heap.size + 1, 0, none⟩ (.int .i64 x.t.e)).setCell ⟨w.heap.size + 1 + 1, 0, none⟩ (.int .i64 ((x.o : Int) + (x.t.n : Int))))) := by
  have hk := keep_three W w.heap.size (.slice none 0 0) (.int .i64 x.t.e) (.int .i64 ((x.o : Int) + (x.t.n : Int)))
  have hs := hI.res.set (.slice none 0 0) x.t.e ((x.o : Int) + (x.t.n : Int))
  have hb := bel_three hI.bel (Nat.le_refl _) (.slice none 0 0) (.int .i64 x.t.e) (.int .i64 ((x.o : Int) + (x.t.n : Int)))
  refine ⟨⟨hk.size, fun k o _ h1 h2 => hk.same k o h1 h2⟩, rfl, ?_, hb.drew, Nat.le_trans hI.siz hk.size, allOk_bad he⟩
  rw [errOf_last hI.ok he]
  have e : ((x.o + x.t.n : Nat) : Int) = (x.o : Int) + (x.t.n : Int) := by omega
  rw [e]
  exact ⟨hs.r2, hs.r3, hs.r4⟩
theorem Rb.put {W : World} {b D : Nat} {v : Value} {er p : Int} (h : Rb W b v er p) (hD : b + 2 < D) (o : Obj) : Rb (W.putObj D o) b v er p :=
  h.kept (grownBy_putObj' W D o) (by simp; omega) (by simp; omega) (by simp; omega)
theorem row_three {W : World} {b : Nat} {v u : Value} {er p : Int} {base n : Nat} {xs : List Value} (h : W.ownsRow base 25 4 v n xs) (hr : Rb W b u er p) (v1 v2 v3 : Value) :
    (((W.setCell ⟨b, 0, none⟩ v1).setCell ⟨b + 1, 0, none⟩ v2).setCell ⟨b + 1 + 1, 0, none⟩ v3).ownsRow base 25 4 v n xs := by
  have n2 := hr.r2.not_row (by decide) h
  have n3 := hr.r3.not_row (by decide) h
  have n4 := hr.r4.not_row (by decide) h
  exact ((h.kept (grownBy_setCell' _ _ _) (.inr n2.symm)).kept (grownBy_setCell' _ _ _) (.inr n3.symm)).kept (grownBy_setCell' _ _ _) (.inr n4.symm)

theorem errOf_cut {a : List Yl} (h : allOk a = false) (b : List Yl) : errOf (a ++ b) = errOf a := by
  induction a with
  | nil => cases h
  | cons y ys ih =>
    rw [allOk_cons] at h
    show (if y.t.e = 0 then errOf (ys ++ b) else _) = (if y.t.e = 0 then errOf ys else _)
    by_cases he : y.t.e = 0
    · rw [if_pos he, if_pos he]
      exact ih (by simpa [he] using h)
    · rw [if_neg he, if_neg he]
theorem errOf_pre {a Y : List Yl} (hp : a <+: Y) (h : allOk a = false) : allOk Y = false ∧ errOf Y = errOf a := by
  obtain ⟨b, rfl⟩ := hp
  exact ⟨by rw [allOk_append, h]; rfl, errOf_cut h b⟩

section
attribute [local go_sem] Oper.semAt_some
set_option maxRecDepth 100000 in
set_option maxHeartbeats 2000000 in
theorem lex_in (s : ByteArray) (hs : s.size ≤ 1000000) (w : World) (hbad : badI s.data.toList < 0) :
    Calls Tryz.prog 24 #[.string s] w fun e w' => ∃ v er p, e = .returned (.tuple #[v, .int .i64 er, .int .i64 p]) ∧ Below w.heap.size w w' ∧
      ((allOk (ylds s.data.toList 0) = true ∧ er = 0 ∧ p = s.size ∧ w'.ownsRow w.heap.size 25 4 v (ylds s.data.toList 0).length (cls (ylds s.data.toList 0))) ∨
       (allOk (ylds s.data.toList 0) = false ∧ v = .slice none 0 0 ∧ er = (errOf (ylds s.data.toList 0)).1 ∧ p = (errOf (ylds s.data.toList 0)).2)) := by
  obtain ⟨i0, hi, hz0, hz1, hz2⟩ := info_parts infoT
  have r0 := fun w => bad_any s (by omega) w
  have HN := Lib.hid hbad
  generalize badI s.data.toList = bd at *
  refine (callsIn_wide (n := 4)).1 ?_
  refine callsIn_of_wp_marks Tryz.func24 rfl trivial ?_ rfl
  simp only [Tryz.ntmps24, List.size_toArray, List.length_cons, List.length_nil, Nat.reduceAdd, Nat.reduceSub, Array.replicate_succ, Array.replicate_zero, List.push_toArray, List.append_toArray, List.nil_append, List.cons_append]
  gi_wp2_with fail
  refine ⟨trivial, ?_⟩
  refine (callsIn_wide.2 (r0 _)).mono ?_
  rintro e w1 ⟨rfl, hb1⟩
  gi_wp2_with fail
  refine ⟨trivial, ?_⟩
  refine (callsIn_wide.2 (tokens0_any _ _)).mono ?_
  rintro e w' ⟨rfl, rfl⟩
  gi_wp2_with fail
  have hsz1 := hb1.size
  simp only [World.size_alloc] at hsz1
  have R1 := (Rb.new w (.slice none 0 0) 0 0).below hb1
  have hB1 : Below w.heap.size w w1 := ((((Below.refl _ w).alloc (Nat.le_refl _) _).alloc (by simp) _).alloc (by simp; omega) _).trans (hb1.mono (by simp; omega))
  clear hb1
  have bO := Boxed.new w1 23 (.slice none 0 0)
  have bN := Boxed.new (w1.alloc (.cells #[.slice none 0 0] 23)) 9 (.string s)
  rw [World.size_alloc] at bN
  have hB2 : Below w.heap.size w ((w1.alloc (.cells #[.slice none 0 0] 23)).alloc (.cells #[.string s] 9)) := (hB1.alloc (by omega) _).alloc (by simp; omega) _
  have hb2 : Below w1.heap.size w1 ((w1.alloc (.cells #[.slice none 0 0] 23)).alloc (.cells #[.string s] 9)) := ((Below.refl _ w1).alloc (Nat.le_refl _) _).alloc (by simp) _
  refine wpIn_rangeFunc_ownH rfl (by omega) (gf := 58) (lb := #[.pointer (some ⟨w1.heap.size + 1, 0, none⟩)]) rfl trivial (enters_of Tryz.func58 (by kernel_rfl) rfl)
    (tokens_stops _ (by omega) (w1.heap.size + 1) w.heap.size s hs _ (by simp) bN.cell) Fo.kpS_t (Fo.kpS_b (by simp; omega)) (Below.refl _ _) (fun _ => rfl)
    (Ii w w1) (Ij w w1) (Ii.own w w1 (by omega) _ (by simp; omega)) (fun c => Ij.own w w1 (by omega) _ (by simp; omega) c)
    ⟨⟨_, bO.alloc _, World.ownsRow_nil _ _ _ _, trivial⟩, R1.below hb2, hB2, by simp, rfl⟩
    (fun x a' W => ∃ b7 b8, w1.heap.size + 2 ≤ b7 ∧ w1.heap.size + 2 ≤ b8 ∧ Rd W b7 b8 x ∧ a' = { tmps := #[.string s, undef, .pointer (some ⟨w.heap.size, 0, none⟩), .pointer (some ⟨w.heap.size + 1, 0, none⟩), .pointer (some ⟨w.heap.size + 1 + 1, 0, none⟩), .int .i64 bd, .pointer (some ⟨w1.heap.size, 0, none⟩), .pointer (some ⟨b7, 0, none⟩), .pointer (some ⟨b8, 0, none⟩), .string s, .int .i64 bd, .int .i64 bd, .bool (decide (0 ≤ bd)), undef, .string s, .func (.func 58) #[] #[.pointer (some ⟨w1.heap.size + 1, 0, none⟩)], ylV x, ylF x, undef, undef, undef, undef, undef, undef, undef, undef, undef, undef, undef, undef, undef, undef], defers := [] })
    (fun x a' s A B row hs hg hr => by
      obtain ⟨b7, b8, h7, h8, hR, ha⟩ := hs
      exact ⟨b7, b8, h7, h8, hR.kept hg (fun r e => (hr r e).2), ha⟩) ?assign ?body ?done ?stop
  case assign =>
    intro l pre x W K hI hK
    have hEv : ylV x = .agg #[.int .i64 x.t.k, .string (mkb x.t.v), .int .i64 x.a, .int .i64 x.z] := rfl
    have hEf : ylF x = .agg #[.int .i64 x.t.e, .int .i64 ((x.o : Int) + (x.t.n : Int))] := rfl
    gi_wp2
    have hbW : Below W.heap.size W ((W.alloc (.cells #[.int .i64 x.t.k, .string (mkb x.t.v), .int .i64 x.a, .int .i64 x.z] 25)).alloc (.cells #[.int .i64 x.t.e, .int .i64 ((x.o : Int) + (x.t.n : Int))] 75)) := ((Below.refl _ W).alloc (Nat.le_refl _) _).alloc (by simp) _
    exact hK _ _ (((KeepsOthers.alloc W _).trans (KeepsOthers.alloc _ _)).from _) ⟨hbW.mono hI.bel.size, fun u hu => (hbW.cell (p := ⟨w1.heap.size + 1, 0, none⟩) (World.block_lt_of_cell? _ _ hu)).trans hu⟩
      (own_below (Ii.own w w1 (by omega) w.heap.size (Nat.le_refl _)) hI hbW) ⟨W.heap.size, W.heap.size + 1, hI.siz, by have := hI.siz; omega, Rd.new W x _ _, rfl⟩
  case body =>
    rintro l pre x a' W hl - hI ⟨b7, b8, h7, h8, ⟨c0, c1, c2, c3, d0, d1⟩, rfl⟩ hlt
    have hyb := ylds_bd s.data.toList 0
    rw [← Lib.size_eq] at hyb
    have hlen : pre.length < 1000000 := by omega
    clear hlt hyb
    obtain ⟨v, hv, hrow, -⟩ := hI.row
    have hsW := hI.bel.size
    have hsz := hI.siz
    have HI := Lib.hid hI
    clear hI
    by_cases he : x.t.e = 0
    · rw [he] at d0
      have hc := hv.cell
      have hEc : cl4 x = [.int .i64 x.t.k, .string (mkb x.t.v), .int .i64 x.a, .int .i64 x.z] := rfl
      have HE := Lib.hid he
      clear he d1
      gi_wp2_with (gi_at_builtin; refine wpListIn_append_own _ rfl _ _ 23 rfl (w1.heap.size + 2) 25 i0 (.agg #[.int .i64 0, .string ⟨#[]⟩, .int .i64 0, .int .i64 0]) 4 40 Tryz.underlying23 hi hz0 hz1 hz2 rfl (by decide) _ _ _ rfl (hrow.alloc _) ⟨W.heap.size, 0, none⟩ 1 1 (cl4 x) rfl rfl (cells_new W (cl4 x) 25) (by intro u hu; rw [hEc] at hu; simp at hu; rcases hu with rfl | rfl | rfl | rfl <;> rfl) (by unfold maxLen; omega) (by omega) (by simp; omega) ?_; intro v' w2 hown' hgrow _; obtain ⟨g', cap', rfl⟩ := ownsRow_succ hown'; obtain ⟨hv1, hv2, hr2, hk2, hb2⟩ := hv.appended (by decide) (Fo.own_base hrow (base' := w.heap.size) (by omega)) hsW (by omega) (Fo.own_base hown' (base' := w.heap.size) (by omega)) hgrow; have hc1 := hv1.cell; have hf1 := hv1.frozen)
      have hgrow' : (W.alloc (.cells #[.int .i64 x.t.k, .string (mkb x.t.v), .int .i64 x.a, .int .i64 x.z] 25)).grownBy w2 v.ownBlock := hgrow
      refine ⟨hk2.from _, ⟨hb2, fun u hu => ?_⟩, ⟨⟨_, hv2, ?_, trivial⟩, ?_, HI.out.bel.trans hb2, Nat.le_trans hsz hk2.size, allOk_snoc HI.out.ok HE.out⟩⟩
      · rw [World.cell?_setCell_far _ _ _ _ (by show w1.heap.size ≠ w1.heap.size + 1; omega)]
        have h1 : (W.alloc (.cells #[.int .i64 x.t.k, .string (mkb x.t.v), .int .i64 x.a, .int .i64 x.z] 25)).cell? ⟨w1.heap.size + 1, 0, none⟩ = some u := by rw [World.cell?_alloc_lt _ _ _ (by show w1.heap.size + 1 < W.heap.size; omega)]; exact hu
        refine (World.cell?_of_block (hgrow'.block (w1.heap.size + 1) (by simp; omega) (fun e => ?_))).trans h1
        have := ((hrow.alloc (.cells #[.int .i64 x.t.k, .string (mkb x.t.v), .int .i64 x.a, .int .i64 x.z] 25)).lt _ e.symm).1
        omega
      · have := hown'.kept (grownBy_setCell' w2 w1.heap.size (.slice (some ⟨g', 0, none⟩) (pre.length + 1) cap')) (.inr (hv1.not_row (by decide) hown').symm)
        rw [cls_snoc, List.length_append]
        exact this
      · have hr := HI.out.res
        have n2 := hr.r2.not_row (by decide) hrow
        have n3 := hr.r3.not_row (by decide) hrow
        have n4 := hr.r4.not_row (by decide) hrow
        have hra := hr.kept (World.grownBy_alloc W (.cells #[.int .i64 x.t.k, .string (mkb x.t.v), .int .i64 x.a, .int .i64 x.z] 25) none) (by simp) (by simp) (by simp)
        exact (hra.kept hgrow' n2 n3 n4).kept (grownBy_setCell' w2 w1.heap.size _) (by simp; omega) (by simp; omega) (by simp; omega)
    · have hr := HI.out.res
      have q2 := hr.r2.cell
      have q3 := hr.r3.cell
      have q4 := hr.r4.cell
      have g2 := hr.r2.frozen
      have g3 := hr.r3.frozen
      have g4 := hr.r4.frozen
      have HE := Lib.hid he
      have HR := Lib.hid hr
      clear c0 c1 c2 c3 hrow hv hr
      have HF := Lib.hid (left_end (N := (World.alloc (w1.alloc (.cells #[.slice none 0 0] 23)) (.cells #[.string s] 9)).heap.size) HI.out he)
      gi_wp2
      gi_region
      all_goals gi_wp2
      all_goals exact HF.out
  case done =>
    rintro D ys W hD rfl hI hK
    obtain ⟨v, hv, hrow, -⟩ := hI.row
    obtain ⟨A, cp, rfl⟩ := row_slice hrow
    have hc := hv.cell
    have q2 := hI.res.r2.cell
    have q3 := hI.res.r3.cell
    have q4 := hI.res.r4.cell
    have g2 := hI.res.r2.frozen
    have g3 := hI.res.r3.frozen
    have g4 := hI.res.r4.frozen
    have HI := Lib.hid hI
    have HV := Lib.hid hv
    have HW := Lib.hid hrow
    clear hI hv hrow
    gi_wp2
    have hset := HI.out.res.set (.slice A (ylds s.data.toList 0).length cp) 0 s.size
    have hK' := (keep_three W w.heap.size (.slice A (ylds s.data.toList 0).length cp) (.int .i64 0) (.int .i64 s.size)).same D _ hK rfl
    have hbl := bel_three HI.out.bel (Nat.le_refl _) (.slice A (ylds s.data.toList 0).length cp) (.int .i64 0) (.int .i64 s.size)
    refine ⟨by simp, .inl ⟨_, _, rfl, run_takeDeferred hK', ?_⟩⟩
    have hD2 : w.heap.size + 2 < D := by simp at hD; omega
    have hrw := row_three HW.out HI.out.res (.slice A (ylds s.data.toList 0).length cp) (.int .i64 0) (.int .i64 s.size)
    exact ⟨_, res3 rfl rfl rfl rfl (hset.put hD2 _), _, _, _, rfl, hbl.trans (belowK_b (w := w) (Nat.le_refl _) _ D _ _ (by omega) hK' rfl rfl), .inl ⟨HI.out.ok, rfl, rfl, Fo.own_base (ownsRow_putObj hrw _ hK' rfl) (by omega)⟩⟩
  case stop =>
    rintro D c pre W hD hpre hJ hK
    obtain rfl := hJ.ret
    gi_wp2
    refine ⟨by simp, .inl ⟨_, _, rfl, run_takeDeferred hK, ?_⟩⟩
    have hD2 : w.heap.size + 2 < D := by simp at hD; omega
    obtain ⟨he, her⟩ := errOf_pre hpre hJ.no
    exact ⟨_, res3 rfl rfl rfl rfl (hJ.res.put hD2 _), _, _, _, rfl, hJ.bel.trans (belowK_b (w := w) (Nat.le_refl _) _ D _ _ (by omega) hK rfl rfl), .inr ⟨he, rfl, by rw [her], by rw [her]⟩⟩
end
end Go.Proofs.YtpcijjdlppoblaaGreatDoor

/- The contract of lex.Lex, in its three ways; rows of tokens. -/
namespace Go.Proofs.YtpcijjdlppoblaaGreatDoor
open Go.RowKit Go.Shelf
set_option linter.unusedVariables false

def Yl.q (y : Yl) : Tq := ⟨y.t.k, mkb y.t.v, y.a, y.z⟩
theorem cls_at {ys : List Yl} {j : Nat} {y : Yl} (h : ys[j]? = some y) : (cls ys)[j * 4]? = some (.int .i64 y.t.k) ∧ (cls ys)[j * 4 + 1]? = some (.string (mkb y.t.v)) ∧ (cls ys)[j * 4 + 2]? = some (.int .i64 y.a) ∧ (cls ys)[j * 4 + 3]? = some (.int .i64 y.z) := by
  induction ys generalizing j with
  | nil => simp at h
  | cons x ys ih =>
    have e : cls (x :: ys) = .int .i64 x.t.k :: .string (mkb x.t.v) :: .int .i64 x.a :: .int .i64 x.z :: cls ys := rfl
    rw [e]
    cases j with
    | zero =>
      obtain rfl : x = y := by simpa using h
      exact ⟨rfl, rfl, rfl, rfl⟩
    | succ j =>
      have := ih (j := j) (by simpa using h)
      rw [show (j + 1) * 4 = j * 4 + 4 by omega]
      exact this
theorem tr_row {w : World} {base n c : Nat} {A : Option Addr} {ys : List Yl} (h : w.ownsRow base 25 4 (.slice A n c) ys.length (cls ys)) : n = ys.length ∧ Tr w A (ys.map Yl.q) := by
  obtain ⟨hl, ⟨h1, h2⟩ | ⟨g, cap, cur, h1, h3, h4, h5, h6, h7, h8⟩⟩ := h
  · injection h1 with h1 h1' h1''
    have hy : ys = [] := List.length_eq_zero_iff.1 h2
    subst hy
    exact ⟨by rw [h1', List.length_nil], Tr.nil _ _⟩
  · injection h1 with h1 h1' h1''
    refine ⟨h1', fun j t ht => ?_⟩
    rw [List.getElem?_map, Option.map_eq_some_iff] at ht
    obtain ⟨y, hy, rfl⟩ := ht
    obtain ⟨e0, e1, e2, e3⟩ := cls_at hy
    have hj : j < ys.length := (List.getElem?_eq_some_iff.1 hy).1
    have key : ∀ (m : Nat) (v : Value), m < ys.length * 4 → (cls ys)[m]? = some v → w.cell? ⟨g, m, none⟩ = some v := by
      intro m v hm hv
      rw [← h8, List.getElem?_take_of_lt hm] at hv
      simp [World.cell?, h4]
      simpa using hv
    refine ⟨g, 0, h1, ?_, ?_, ?_, ?_⟩
    · rw [Nat.zero_add]; exact key _ _ (by omega) e0
    · rw [Nat.zero_add]; exact key _ _ (by omega) e1
    · rw [Nat.zero_add]; exact key _ _ (by omega) e2
    · rw [Nat.zero_add]; exact key _ _ (by omega) e3

theorem badI_all' {l : List UInt8} (h : thru l = l.length) : badI l < 0 := by rw [badI, if_pos h]; decide
theorem lex_yes {s : ByteArray} {Y : List Yl} (hs : s.size ≤ 1000000) (hm : thru s.data.toList = s.data.toList.length) (hY : ylds s.data.toList 0 = Y) (ho : allOk Y = true) (w : World) :
    Calls Tryz.prog 24 #[.string s] w fun e w' => ∃ A c, e = .returned (.tuple #[.slice A Y.length c, .int .i64 0, .int .i64 s.size]) ∧ Below w.heap.size w w' ∧ Tr w' A (Y.map Yl.q) := by
  refine (lex_in s hs w (badI_all' hm)).mono ?_
  rintro e w' ⟨v, er, p, rfl, hb, ⟨h1, rfl, rfl, h4⟩ | ⟨h1, _⟩⟩
  · rw [hY] at h4
    obtain ⟨A, c, rfl⟩ := row_slice h4
    exact ⟨A, c, rfl, hb, (tr_row h4).2⟩
  · rw [hY, ho] at h1; cases h1
theorem lex_no {s : ByteArray} {Y : List Yl} {er p : Int} (hs : s.size ≤ 1000000) (hm : thru s.data.toList = s.data.toList.length) (hY : ylds s.data.toList 0 = Y) (ho : allOk Y = false) (he : errOf Y = (er, p)) (w : World) :
    Calls Tryz.prog 24 #[.string s] w fun e w' => e = .returned (.tuple #[.slice none 0 0, .int .i64 er, .int .i64 p]) ∧ Below w.heap.size w w' := by
  refine (lex_in s hs w (badI_all' hm)).mono ?_
  rintro e w' ⟨v, er', p', rfl, hb, ⟨h1, _⟩ | ⟨h1, rfl, h3, h4⟩⟩
  · rw [hY, ho] at h1; cases h1
  · rw [hY, he] at h3 h4
    dsimp at h3 h4
    subst h3 h4
    exact ⟨rfl, hb⟩
set_option maxHeartbeats 400000 in
theorem lex_bad {s : ByteArray} {b : Int} (hs : s.size ≤ 1000000) (hb : badI s.data.toList = b) (h0 : 0 ≤ b) (w : World) :
    Calls Tryz.prog 24 #[.string s] w fun e w' => e = .returned (.tuple #[.slice none 0 0, .int .i64 2, .int .i64 b]) ∧ Below w.heap.size w w' := by
  have r0 := fun w => bad_any s (by omega) w
  rw [hb] at r0
  clear hb
  go_enter Tryz.func24, Tryz.ntmps24
  go_wp2_with fail
  (with_reducible refine (r0 _).mono ?_)
  rintro e w1 ⟨rfl, hb1⟩
  have R1 := (Rb.new w (.slice none 0 0) 0 0).below hb1
  have q2 := R1.r2.cell
  have q3 := R1.r3.cell
  have q4 := R1.r4.cell
  have g2 := R1.r2.frozen
  have g3 := R1.r3.frozen
  have g4 := R1.r4.frozen
  have hB1 : Below w.heap.size w w1 := ((((Below.refl _ w).alloc (Nat.le_refl _) _).alloc (by simp) _).alloc (by simp; omega) _).trans (hb1.mono (by simp; omega))
  have HR := Lib.hid R1
  clear hb1 R1
  go_wp2
  exact bodyPost_ret (res3 rfl rfl rfl rfl (HR.out.set (.slice none 0 0) 2 b)) rfl ⟨rfl, bel_three hB1 (Nat.le_refl _) _ _ _⟩
end Go.Proofs.YtpcijjdlppoblaaGreatDoor
