/- Contracts of package quote: Quote, Long. -/
import Derived.Test.YtcedfonkahffcaaDoorQuoB
import Derived.Test.YtcedfonkahffcaaDoorTextC
namespace Go.Proofs.YtcedfonkahffcaaDoor
open Go.RowKit
set_option linter.unusedVariables false

theorem own_new (w : World) (base : Nat) (h : base ≤ w.heap.size) (a : Int) : (w.alloc (.cells #[.int .u8 a] 5)).ownsRow base 5 1 (.slice (some ⟨w.heap.size, 0, none⟩) 1 1) 1 [.int .u8 a] :=
  ⟨rfl, .inr ⟨w.heap.size, 1, _, rfl, h, heap_alloc_new w _, Nat.le_refl _, by unfold maxLen; omega, rfl, rfl⟩⟩
theorem own_it {w : World} {g base : Nat} {e : TypeId} {s : ByteArray} {pos size n : Nat} {v : Value} {xs : List Value} (h : w.ownsRow base e size v n xs) (hg : w.heap[g]? = some (.stringIter s pos)) : v.ownBlock ≠ some g := by
  rcases h.2 with ⟨rfl, _⟩ | ⟨g', cap, cur, rfl, _, hh, _⟩
  · simp [Value.ownBlock]
  · intro he
    have : g' = g := by simpa [Value.ownBlock] using he
    subst this
    rw [hg] at hh; cases hh

/-- While the text is quoted: the iterator at pos, acc gathered. -/
structure Qz (w : World) (g : Nat) (s : ByteArray) (pos : Nat) (acc : List UInt8) (v : Value) (W : World) : Prop where
  it : It w g s pos W
  ow : W.ownsRow w.heap.size 5 1 v acc.length (bc acc)
theorem Qz.put {w : World} {g : Nat} {s : ByteArray} {pos : Nat} {acc : List UInt8} {v : Value} {W : World} (h : Qz w g s pos acc v W) (q : Nat) : Qz w g s q acc v (W.putObj g (.stringIter s q)) :=
  ⟨h.it.put q, h.ow.kept (grownBy_putObj' W g _) (.inr (own_it h.ow h.it.at_))⟩
theorem Qz.next {w : World} {g : Nat} {s : ByteArray} {pos : Nat} {acc : List UInt8} {v v' : Value} {W W1 : World} {p : ByteArray} (h : Qz w g s pos acc v W)
    (ho : W1.ownsRow w.heap.size 5 1 v' (acc.length + p.size) (bc acc ++ Lib.strCells p)) (hg : W.grownBy W1 v.ownBlock) : Qz w g s pos (acc ++ p.data.toList) v' W1 := by
  refine ⟨⟨(hg.block g (lt_of_block h.it.at_) (fun e => own_it h.ow h.it.at_ e.symm)).trans h.it.at_, h.it.ge, h.it.bel.grown hg h.it.bel.size (fun k hk => (h.ow.lt k hk).1)⟩, ?_⟩
  rw [bc_app] at ho
  have hl : (acc ++ p.data.toList).length = acc.length + p.size := by rw [List.length_append, ← Lib.size_eq]
  rw [← hl] at ho
  exact ho

theorem Tab.it {w : World} {g : Nat} {s : ByteArray} {pos : Nat} {W : World} (h : Tab w) (i : It w g s pos W) : Tab W := h.below i.bel

theorem qno_any (s : ByteArray) (w : World) (h : qtA s.data.toList = none) :
    Calls Tryd.prog 7 #[.string s] w fun e w' => e = .returned (.tuple #[.string ⟨#[]⟩, .bool false]) ∧ Below w.heap.size w w' := by
  have r1 := qmay_any s
  rw [h] at r1
  dsimp only [Option.isSome] at r1
  clear h
  go_enter Tryd.func7, Tryd.ntmps7
  go_wp2_with fail
  (with_reducible refine (r1 _).mono ?_)
  rintro e w1 ⟨rfl, hb1⟩
  go_wp2_with fail
  go_ret2
  exact ⟨rfl, hb1⟩

set_option maxHeartbeats 1000000 in
theorem qyes_any (s : ByteArray) (w : World) (hs : s.size ≤ 1000000) (cs : List Nat) (h : qtA s.data.toList = some cs) (ht : Tab w) :
    Calls Tryd.prog 7 #[.string s] w fun e w' => e = .returned (.tuple #[.string (mkb (quo cs)), .bool true]) ∧ Below w.heap.size w w' := by
  have r1 := qmay_any s
  rw [h] at r1
  dsimp only [Option.isSome] at r1
  have HT := Lib.hid ht
  have hl6 := (qtA_iff.1 h).len
  rw [← Lib.size_eq] at hl6
  have HS := Lib.hid h
  obtain ⟨i0, hi, hz0, hz1, hz2⟩ := info_parts infoB
  clear h ht
  go_enter Tryd.func7, Tryd.ntmps7
  go_wp2_with fail
  (with_reducible refine (r1 _).mono ?_)
  rintro e w1 ⟨rfl, hb1⟩
  go_wp2_with fail
  have hq0 : Qz w (w1.heap.size + 1) s 0 [34] (.slice (some ⟨w1.heap.size, 0, none⟩) 1 1) ((w1.alloc (.cells #[.int .u8 34] 5)).iter s 0) := by
    have hb2 : Below w.heap.size w (w1.alloc (.cells #[.int .u8 34] 5)) := bel_alloc hb1 _
    have hi0 := it_start (w1.alloc (.cells #[.int .u8 34] 5)) s
    rw [World.size_alloc] at hi0
    exact ⟨⟨hi0.at_, Nat.le_succ_of_le hb1.size, bel_alloc hb2 _⟩, (own_new w1 w.heap.size hb1.size 34).alloc _⟩
  have HQ := Lib.hid hq0
  clear hq0
  go_loopg [4] s.size (fun g v wr => ∃ (pos : Nat) (acc : List UInt8) (ds : List Nat), g = s.size - pos ∧ Qz w (w1.heap.size + 1) s pos acc v wr ∧ pos ≤ s.size ∧ qtA (s.data.toList.drop pos) = some ds ∧ acc ++ qb ds = 34 :: qb cs)
  case atStart => exact ⟨0, [34], cs, rfl, HQ.out, Nat.zero_le _, by rw [List.drop_zero]; exact HS.out, rfl⟩
  case round =>
    rename_i v4
    obtain ⟨pos, acc, ds, hg, hqz, hle, hds, hac⟩ := hrel
    have hlen := congrArg List.length hac
    rw [List.length_append, List.length_cons] at hlen
    by_cases hp : pos < s.size
    · rcases chr_at s pos hp with ⟨c, t, hc, e, ht, hk, hd, hn⟩ | ⟨hn, hnone, -⟩
      · have hnx := fun ty => next_at (P := Tryd.prog) hqz.it.at_ hp hd ty
        have hq1 := hqz.put (pos + (enc c).length)
        have r2 := piece_any hc (HT.out.it hq1.it)
        obtain ⟨ds', rfl, hds'⟩ : ∃ ds', ds = c :: ds' ∧ qtA t = some ds' := by
          rw [e, qtA_go hc, Option.map_eq_some_iff] at hds
          obtain ⟨x, hx, rfl⟩ := hds
          exact ⟨x, rfl, hx⟩
        rw [ht] at hds'
        have hac2 : (acc ++ (mkb (qp c)).data.toList) ++ qb ds' = 34 :: qb cs := by rw [← hac, qb_cons, List.append_assoc]; rfl
        have hlp : acc.length + (mkb (qp c)).size ≤ 100000000 := by rw [qb_cons, List.length_append] at hlen; rw [mkb_size]; omega
        have hown := hq1.ow
        have hsz := hq1.it.bel.size
        have hp1 := enc_pos c
        have HA := Lib.hid hac2
        have HD := Lib.hid hds'
        have HG := Lib.hid hg
        have HZ := Lib.hid hq1
        clear hg hqz hds hac hlen hc e ht hd hn hac2 hds' hq1
        generalize mkb (qp c) = R at *
        go_wp2_with fail
        (with_reducible refine r2.mono ?_)
        rintro e w' ⟨rfl, rfl⟩
        go_wp2_with (at_builtin; refine Lib.wpList_append_own_string _ rfl _ _ 42 9 rfl w.heap.size 5 i0 Tryd.underlying42 Tryd.underlying9 hi hz0 hz1 hz2 _ _ _ rfl hown R rfl (by unfold maxLen; omega) (by omega) hsz ?_)
        intro v' w2 ho hg _
        have HN := Lib.hid (HZ.out.next ho hg)
        clear ho hg hown r2 hnx
        go_wp2_with fail
        go_roundg (s.size - (pos + (enc c).length))
        case measure => rw [HG.out]; omega
        case rel => exact ⟨pos + (enc c).length, _, _, rfl, HN.out, hk, HD.out, HA.out⟩
      · rw [hnone] at hds; cases hds
    · have hnx := fun ty => next_over (P := Tryd.prog) hqz.it.at_ hp ty
      have hd0 : ds = [] := by
        rw [List.drop_eq_nil_of_le (by rw [← Lib.size_eq]; omega), qtA_nil] at hds
        exact (Option.some.inj hds).symm
      subst hd0
      rw [qb_nil, List.append_nil] at hac
      subst hac
      have hown := hqz.ow.alloc (.cells #[.int .u8 34] 5)
      have hsz := hqz.it.bel.size
      have hsz2 : w.heap.size ≤ (wr.alloc (.cells #[.int .u8 34] 5)).heap.size := by rw [World.size_alloc]; omega
      have hnews : ∀ j u, [Value.int .u8 34][j]? = some u → (wr.alloc (.cells #[.int .u8 34] 5)).cell? ((⟨wr.heap.size, 0, none⟩ : Addr).add j) = some u := by
        intro j u hj
        cases j with
        | zero => have := (cell_new_l wr (.int .u8 34) 5).1; simp at hj; subst hj; exact this
        | succ j => simp at hj
      have hone : ∀ u ∈ [Value.int .u8 34], u.oneCell' = true := by simp [Value.oneCell']
      have hbel := bel_alloc hqz.it.bel (.cells #[.int .u8 34] 5)
      have HB := Lib.hid hbel
      have hq6 : (34 :: qb cs).length + 1 ≤ 100000000 := by rw [List.length_cons]; omega
      clear hg hqz hds hlen hbel
      generalize hacc : 34 :: qb cs = acc at *
      have HC := Lib.hid hacc
      clear hacc
      go_wp2_with (at_builtin; refine wpList_append_own _ rfl _ _ 42 rfl w.heap.size 5 i0 _ 1 1 Tryd.underlying42 hi hz0 hz1 hz2 rfl (by decide) _ _ _ rfl hown ⟨wr.heap.size, 0, none⟩ 1 1 [.int .u8 34] rfl rfl hnews hone (by unfold maxLen; omega) (by omega) hsz2 ?_)
      intro v' w2 ho hg _
      obtain ⟨A, m, c, rfl⟩ := own_slice ho
      have hb2 := HB.out.grown hg hsz2 (fun k hk => (hown.lt k hk).1)
      have ho2 : w2.ownsRow w.heap.size 5 1 (.slice A m c) (acc ++ [34]).length (bc (acc ++ [34])) := by
        have e1 : bc (acc ++ [34]) = bc acc ++ [.int .u8 34] := by simp [bc]
        rw [e1, List.length_append]; exact ho
      have hcv : (convert 42 9 (.slice A m c)).run Tryd.prog w2 = .ok (.string (mkb (acc ++ [34]))) w2 := conv_own ho2 0
      have e5 : acc ++ [34] = quo cs := by rw [← HC.out]; rfl
      rw [e5] at hcv
      have HB2 := Lib.hid hb2
      clear ho hg hown ho2 hb2 hnews hone e5
      go_wp2_with fail
      go_ret2
      exact ⟨rfl, HB2.out⟩

theorem quote_any (s : ByteArray) (w : World) (hs : s.size ≤ 1000000) (ht : Tab w) :
    Calls Tryd.prog 7 #[.string s] w fun e w' => e = .returned (.tuple #[.string (mkb ((qtA s.data.toList).elim [] quo)), .bool (qtA s.data.toList).isSome]) ∧ Below w.heap.size w w' := by
  cases h : qtA s.data.toList with
  | none => exact qno_any s w h
  | some cs => exact qyes_any s w hs cs h ht

end Go.Proofs.YtcedfonkahffcaaDoor
