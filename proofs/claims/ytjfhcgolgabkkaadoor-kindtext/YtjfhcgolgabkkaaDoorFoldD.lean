/- Contracts of package fold's functions: what is blank, Indent. -/
import Derived.Test.YtjfhcgolgabkkaaDoorFoldC
namespace Go.Proofs.YtjfhcgolgabkkaaDoor.Fo
open Go.RowKit
set_option linter.unusedVariables false

/-- The slice at A holds the texts ls, below block B. -/
def Rs (w : World) (B : Nat) (A : Option Addr) (ls : List (List UInt8)) : Prop := ∀ j x, ls[j]? = some x → ∃ ad : Addr, A = some ad ∧ ad.block < B ∧ w.cell? (ad.add j) = some (.string (mkb x))
theorem addB (ad : Addr) (j : Nat) : (ad.add j).block = ad.block := by unfold Addr.add; split <;> rfl
theorem Rs.keep {w w' : World} {B : Nat} {A : Option Addr} {ls : List (List UInt8)} (h : Rs w B A ls) (hk : ∀ p : Addr, p.block < B → w'.cell? p = w.cell? p) : Rs w' B A ls := by
  intro j x hx
  obtain ⟨ad, e, hb, hc⟩ := h j x hx
  exact ⟨ad, e, hb, (hk _ (by rw [addB]; exact hb)).trans hc⟩
theorem Rs.below {w w' : World} {B : Nat} {A : Option Addr} {ls : List (List UInt8)} (h : Rs w B A ls) (hb : Below B w w') : Rs w' B A ls := h.keep fun _ hp => hb.cell hp
theorem Rs.wide {w : World} {B B' : Nat} {A : Option Addr} {ls : List (List UInt8)} (h : Rs w B A ls) (hb : B ≤ B') : Rs w B' A ls := by
  intro j x hx
  obtain ⟨ad, e, hb', hc⟩ := h j x hx
  exact ⟨ad, e, by omega, hc⟩
theorem Rs.of_own {w : World} {base n c : Nat} {A : Option Addr} {ls : List (List UInt8)} (h : w.ownsRow base 9 1 (.slice A n c) n (ls.map sv)) : Rs w w.heap.size A ls := by
  intro j x hx
  have hn : 0 < n := by
    have h1 := h.1
    have := (List.getElem?_eq_some_iff.1 hx).1
    simp at h1; omega
  rcases h.2 with ⟨_, h0⟩ | ⟨g, cap, cur, hv, _, hg, _⟩
  · omega
  · have hA : A = some ⟨g, 0, none⟩ := by injection hv
    subst hA
    exact ⟨_, rfl, (Array.getElem?_eq_some_iff.1 hg).1, h.cells (g := g) rfl j (sv x) (by simp [hx])⟩

theorem indent_q (s : ByteArray) (w : World) (hs : s.size ≤ 9223372036854775807) :
    Calls Tryd.prog 79 #[.string s] w fun e w' => e = .returned (.int .i64 (mg s.data.toList : Nat)) ∧ w' = w := (indent_any s w hs).mono fun _ _ h => ⟨h.1, h.2.symm⟩
theorem blk_beq (x : List UInt8) : (((mg x : Nat) : Int) == ((x.length : Nat) : Int)) = blk x := by
  cases h : blk x
  · have := blk_no h; simp; omega
  · rw [(blk_mg x).1 h]; simp

set_option maxHeartbeats 400000 in
theorem blankIn_any (v : Value) (A : Option Addr) (n c : Nat) (hv : v = .slice A n c) (w : World) :
    Calls Tryd.prog 75 #[v] w fun e w' => e = .returned (.func (.func 80) #[] #[.pointer (some ⟨w.heap.size, 0, none⟩)]) ∧ w' = w.alloc (.cells #[v] 43) := by
  subst hv
  go_enter Tryd.func75, Tryd.ntmps75
  go_wp2
  go_ret
  exact ⟨rfl, rfl⟩

set_option maxHeartbeats 400000 in
theorem blank_any {w : World} {bx B n c k : Nat} {A : Option Addr} {ls : List (List UInt8)} {x : List UInt8} (hb : w.cell? ⟨bx, 0, none⟩ = some (.slice A n c)) (hr : Rs w B A ls) (hx : ls[k]? = some x) (hn : ls.length = n) (hl : x.length ≤ 1000000000) (hn2 : n ≤ 1000000000) :
    Calls Tryd.prog 80 #[.int .i64 k, .pointer (some ⟨bx, 0, none⟩)] w fun e w' => e = .returned (.bool (blk x)) ∧ ∃ m, w' = w.drewN m := by
  obtain ⟨ad, rfl, hab, hc⟩ := hr k x hx
  have hk : k < n := by rw [← hn]; exact (List.getElem?_eq_some_iff.1 hx).1
  have HX := Lib.hid (blk_beq x)
  have hz : (mkb x).size = x.length := mkb_size x
  have r1 : ∀ w : World, Calls Tryd.prog 79 #[.string (mkb x)] w fun e w' => e = .returned (.int .i64 (mg x : Nat)) ∧ w' = w := fun w => indent_q (mkb x) w (by rw [hz]; omega)
  clear hr hx hn hab
  go_enter Tryd.func80, Tryd.ntmps80
  go_wp2_with fail
  go_quiet ((go_at_call 79; exact Calls.quiet_of_same (r1 _)))
  go_wp2
  go_ret
  refine ⟨?_, _, rfl⟩
  rw [← HX.out]; rfl

/-- The least indent of the first k lines but the first one. -/
def indP (ls : List (List UInt8)) (k : Nat) : Int := ((ls.take k).drop 1).foldl indS (-1)
theorem indP_one (ls : List (List UInt8)) : indP ls 1 = -1 := by
  cases ls <;> simp [indP]
theorem indP_next {ls : List (List UInt8)} {k : Nat} {x : List UInt8} (hk : 1 ≤ k) (hx : ls[k]? = some x) : indP ls (k + 1) = indS (indP ls k) x := by
  unfold indP
  have hl := (List.getElem?_eq_some_iff.1 hx).1
  rw [List.take_add_one, hx, List.drop_append_of_le_length (by rw [List.length_take]; omega)]
  simp
theorem indP_end {ls : List (List UInt8)} {k : Nat} (h : ls.length ≤ k) : indP ls k = ind ls := by
  unfold indP ind indT
  rw [List.take_of_length_le h]; simp
theorem indP_bd (ls : List (List UInt8)) (k : Nat) : -1 ≤ indP ls k := indF_bd _ _ (by omega)
theorem indP_up {ls : List (List UInt8)} (h : ∀ x ∈ ls, x.length ≤ 1000000000) (k : Nat) : indP ls k ≤ 1000000000 := by
  rcases indF_is ((ls.take k).drop 1) (-1) (by omega) with ⟨e, _⟩ | ⟨x, hx, _, e, _⟩
  · unfold indP; omega
  · have := h x (List.mem_of_mem_take (List.mem_of_mem_drop hx))
    have := mg_le x
    unfold indP; omega
theorem get_of {ls : List (List UInt8)} {k : Nat} (h : k < ls.length) : ∃ x, ls[k]? = some x ∧ x ∈ ls := ⟨ls[k], List.getElem?_eq_getElem h, List.getElem_mem h⟩

set_option maxHeartbeats 1000000 in
theorem findent_any {w : World} {n c : Nat} {A : Option Addr} {ls : List (List UInt8)} (hr : Rs w w.heap.size A ls) (hn : ls.length = n) (hl : ∀ x ∈ ls, x.length ≤ 1000000000) (hn2 : n ≤ 1000000000) :
    Calls Tryd.prog 74 #[.slice A n c] w fun e w' => e = .returned (.int .i64 (ind ls)) ∧ Below w.heap.size w w' := by
  have HR := Lib.hid hr
  have HN := Lib.hid hn
  have HL := Lib.hid hl
  clear hr hn hl
  go_enter Tryd.func74, Tryd.ntmps74
  go_wp2_with fail
  refine (blankIn_any _ A n c rfl _).mono ?_
  rintro e w' ⟨rfl, rfl⟩
  have hc0 := (cell_new_l w (.slice A n c) 43).1
  go_wp2_with fail
  go_loopw [4, 5] (fun a i wr => ∃ k : Nat, 1 ≤ k ∧ k ≤ n + 1 ∧ i = .int .i64 k ∧ a = .int .i64 (indP ls k) ∧ wr.cell? ⟨w.heap.size, 0, none⟩ = some (.slice A n c) ∧ Below w.heap.size w wr) (fun _ i _ => n + 1 - (intOf i).toNat)
  case atStart => exact ⟨1, by omega, by omega, rfl, by rw [indP_one], hc0, bel_alloc (Below.refl _ _) _⟩
  case round =>
    obtain ⟨k, hk1, hk2, rfl, rfl, hc, hB⟩ := hrel
    clear hc0
    by_cases hlt : k < n
    · obtain ⟨x, hx, hxm⟩ := get_of (ls := ls) (k := k) (by rw [HN.out]; exact hlt)
      have hxl := HL.out x hxm
      have hR := HR.out.below hB
      have r1 := fun w' (h : w' = wr) => blank_any (w := wr) (k := k) hc hR hx HN.out hxl hn2
      have hnext := indP_next hk1 hx
      obtain ⟨ad, hA, hab, had⟩ := hR k x hx
      subst hA
      have hmz : (mkb x).size = x.length := mkb_size x
      have r2 : ∀ w : World, Calls Tryd.prog 79 #[.string (mkb x)] w fun e w' => e = .returned (.int .i64 (mg x : Nat)) ∧ w = w' := fun w => indent_any (mkb x) w (by rw [hmz]; omega)
      have hbd := indP_bd ls k
      have hup := indP_up HL.out k
      have hml := mg_le x
      have HNX := Lib.hid hnext
      generalize indP ls k = p at *
      clear hnext hmz hR hx
      cases hb : blk x
      · rw [hb] at r1
        by_cases hp : p < 0
        · have d1 : decide (p < 0) = true := by simp [hp]
          have HS := Lib.hid (indS_y hb (a := p) (.inl hp))
          clear hb
          go_wp2_with fail
          (with_reducible refine (r1 _ rfl).mono ?_)
          rintro e w1 ⟨rfl, m, rfl⟩
          clear r1
          go_wp2_with fail
          (with_reducible refine (r2 _).mono ?_)
          rintro e w' ⟨rfl, rfl⟩
          go_wp2
          go_roundw
          case rel => exact ⟨k + 1, by omega, by omega, by go_num, by rw [HNX.out, HS.out], hc, below_drewN hB _⟩
          case measure => simp [intOf]; omega
        by_cases hq : (mg x : Int) < p
        · have d1 : decide (p < 0) = false := by simp; omega
          have d2 : decide ((mg x : Int) < p) = true := by simp [hq]
          have HS := Lib.hid (indS_y hb (a := p) (.inr hq))
          clear hb
          go_wp2_with fail
          (with_reducible refine (r1 _ rfl).mono ?_)
          rintro e w1 ⟨rfl, m, rfl⟩
          clear r1
          go_wp2_with fail
          (with_reducible refine (r2 _).mono ?_)
          rintro e w' ⟨rfl, rfl⟩
          go_wp2
          go_roundw
          case rel => exact ⟨k + 1, by omega, by omega, by go_num, by rw [HNX.out, HS.out], hc, below_drewN hB _⟩
          case measure => simp [intOf]; omega
        · have d1 : decide (p < 0) = false := by simp; omega
          have d2 : decide ((mg x : Int) < p) = false := by simp; omega
          have HS := Lib.hid (indS_n (x := x) (a := p) (by omega))
          clear hb
          go_wp2_with fail
          (with_reducible refine (r1 _ rfl).mono ?_)
          rintro e w1 ⟨rfl, m, rfl⟩
          clear r1
          go_wp2_with fail
          (with_reducible refine (r2 _).mono ?_)
          rintro e w' ⟨rfl, rfl⟩
          go_wp2
          go_roundw
          case rel => exact ⟨k + 1, by omega, by omega, by go_num, by rw [HNX.out, HS.out], hc, below_drewN hB _⟩
          case measure => simp [intOf]; omega
      · rw [hb] at r1
        have HS := Lib.hid (indS_b hb p)
        clear hb
        go_wp2_with fail
        (with_reducible refine (r1 _ rfl).mono ?_)
        rintro e w1 ⟨rfl, m, rfl⟩
        clear r1
        go_wp2
        go_roundw
        case rel => exact ⟨k + 1, by omega, by omega, by go_num, by rw [HNX.out, HS.out], hc, below_drewN hB _⟩
        case measure => simp [intOf]; omega
    · have HE := Lib.hid (indP_end (ls := ls) (k := k) (by rw [HN.out]; omega))
      go_wp2
      go_ret
      refine ⟨?_, hB⟩
      rw [← HE.out]; rfl
end Go.Proofs.YtjfhcgolgabkkaaDoor.Fo
