/- Rows of ints; kind.All. -/
import Derived.Test.YtjfhcgolgabkkaaDoorKinB
import Derived.Test.YtjfhcgolgabkkaaDoorTokR
import Derived.Laws.AppendOwnNone
import Derived.Laws.OwnMore
namespace Go.Proofs.YtjfhcgolgabkkaaDoor
open Go.RowKit
set_option linter.unusedVariables false

theorem own_sl {w : World} {base : Nat} {e : TypeId} {size n : Nat} {v : Value} {xs : List Value} (h : w.ownsRow base e size v n xs) : ∃ A m c, v = .slice A m c := by
  rcases h.2 with ⟨rfl, _⟩ | ⟨g', cap, cur, rfl, _⟩
  · exact ⟨_, _, _, rfl⟩
  · exact ⟨_, _, _, rfl⟩
theorem infoI : (Tryd.prog.info? 3).map (fun i => (i.zero, i.size, i.bytes)) = some (some (.int .i64 0), 1, 8) := by kernel_rfl
def iv (x : Int) : Value := .int .i64 x
/-- A row of ints from A on. -/
def Ri (w : World) (A : Option Addr) (l : List Int) : Prop := ∀ j x, l[j]? = some x → ∃ b o : Nat, A = some ⟨b, o, none⟩ ∧ w.cell? ⟨b, o + j, none⟩ = some (.int .i64 x)
theorem Ri.nil (w : World) (A : Option Addr) : Ri w A [] := fun j t h => by simp at h
theorem Ri.below {w w' : World} {A : Option Addr} {l : List Int} (h : Ri w A l) (hb : Below w.heap.size w w') : Ri w' A l := fun j t ht => by
  obtain ⟨b, o, h0, h1⟩ := h j t ht
  exact ⟨b, o, h0, bel_cell hb h1⟩
theorem ri_row {w : World} {base n c : Nat} {A : Option Addr} {l : List Int} (h : w.ownsRow base 3 1 (.slice A n c) l.length (l.map iv)) : n = l.length ∧ Ri w A l ∧ (A = none → n = 0 ∧ c = 0) := by
  obtain ⟨hl, ⟨h1, h2⟩ | ⟨g, cap, cur, h1, h3, h4, h5, h6, h7, h8⟩⟩ := h
  · injection h1 with h1 h1' h1''
    have hy : l = [] := List.length_eq_zero_iff.1 h2
    subst hy
    exact ⟨by rw [h1', List.length_nil], Ri.nil _ _, fun _ => ⟨h1', h1''⟩⟩
  · injection h1 with h1 h1' h1''
    refine ⟨h1', fun j x hx => ⟨g, 0, h1, ?_⟩, fun e => by rw [h1] at e; cases e⟩
    have hj : j < l.length := (List.getElem?_eq_some_iff.1 hx).1
    have hv : (l.map iv)[j]? = some (iv x) := by simp [hx]
    rw [← h8, List.getElem?_take_of_lt (by omega)] at hv
    rw [Nat.zero_add]
    simp [World.cell?, h4]
    simpa [iv] using hv
theorem ri_news {w : World} {ad : Addr} {l : List Int} (h : Ri w (some ad) l) : ∀ j u, (l.map iv)[j]? = some u → w.cell? (ad.add j) = some u := fun j u hj => by
  rw [List.getElem?_map, Option.map_eq_some_iff] at hj
  obtain ⟨x, hx, rfl⟩ := hj
  obtain ⟨b, o, e, c0⟩ := h j x hx
  obtain rfl : ad = ⟨b, o, none⟩ := Option.some.inj e
  rw [Addr.add_lit]; exact c0
theorem iv_one (l : List Int) : ∀ u ∈ l.map iv, u.oneCell' = true := by
  intro u hu
  obtain ⟨x, _, rfl⟩ := List.mem_map.1 hu
  rfl
/-- 'append(l, ts...)', l the call's own, ts ints. -/
theorem app_ints {w : World} {ops : Array Oper} {rest : List Oper} {o : Oper} {a : Act} {Q : Exit → Act → World → Prop} (hgd : o.guard = none) (s x : Operand)
    (ho : o.op = .call { callee := .builtin .append, args := #[s, x], argTypes := #[30, 30] })
    (base : Nat) (v : Value) (n : Nat) (qs : List Int) (hs : a.eval s = v) (hown : w.ownsRow base 3 1 v n (qs.map iv))
    {A : Option Addr} {m c : Nat} {ts : List Int} (hx : a.eval x = .slice A m c) (htr : Ri w A ts) (hm : ts.length = m) (hA : A = none → m = 0 ∧ c = 0)
    (hb : n + m ≤ 1000000) (hbase : base ≤ w.heap.size)
    (h : ∀ v' w', w'.ownsRow base 3 1 v' (n + m) ((qs ++ ts).map iv) → w.grownBy w' v.ownBlock → wpList Tryd.prog ops Q rest (a.put o.dst v') w') : wpList Tryd.prog ops Q (o :: rest) a w := by
  obtain ⟨i0, hi, hz0, hz1, hz2⟩ := info_parts infoI
  cases A with
  | none =>
    obtain ⟨rfl, rfl⟩ := hA rfl
    have hts : ts = [] := List.length_eq_zero_iff.1 hm
    subst hts
    refine wpList_append_own_none hgd s x 30 ho base 3 i0 1 Tryd.underlying30 hi v n (qs.map iv) hs hown hx ?_
    exact h v w (by rw [List.append_nil]; exact hown) (grown_refl w _)
  | some ad =>
    refine wpList_append_own _ hgd s x 30 ho base 3 i0 (.int .i64 0) 1 8 Tryd.underlying30 hi hz0 hz1 hz2 rfl (by decide) v n (qs.map iv) hs hown ad m c (ts.map iv) hx (by rw [List.length_map, hm, Nat.mul_one]) (ri_news htr) (iv_one ts) (by unfold maxLen; omega) (by omega) hbase ?_
    intro v' w' h1 h2 _
    exact h v' w' (by rw [List.map_append]; exact h1) h2

/-- The terminal of a token of a row. -/
def teQ (t : Tq) : Int := ((ofK t.k t.v.data.toList : Nat) : Int)
/-- How All ends. -/
def AllE (n : Nat) (L : List Int) (w : World) (e : Ending) (w' : World) : Prop := ∃ A c, e = .returned (.slice A n c) ∧ Below w.heap.size w w' ∧ Ri w' A L ∧ (A = none → n = 0 ∧ c = 0)
/-- The first k of a row of n are written. -/
def Fil (B g n : Nat) (L : List Int) (k : Nat) (w : World) : Prop := ∃ ys, w.ownsRow B 3 1 (.slice (some ⟨g, 0, none⟩) n n) n ys ∧ ys.take k = (L.take k).map iv
theorem Fil.end {B g n : Nat} {L : List Int} {w : World} (h : Fil B g n L n w) (hL : L.length = n) : Ri w (some ⟨g, 0, none⟩) L := by
  obtain ⟨ys, h1, h2⟩ := h
  have hy : ys.length = n := by have := h1.1; omega
  rw [List.take_of_length_le (by omega), List.take_of_length_le (by omega)] at h2
  subst h2
  subst hL
  exact (ri_row h1).2.1
theorem Fil.at {B g n k : Nat} {L : List Int} {w : World} (h : Fil B g n L k w) (hk : k < n) : (∃ u, w.cell? ⟨g, k, none⟩ = some u) ∧ w.frozen? ⟨g, k, none⟩ = false := by
  obtain ⟨ys, h1, h2⟩ := h
  have hy : ys.length = n := by have := h1.1; omega
  obtain ⟨u, hu⟩ : ∃ u, ys[k]? = some u := ⟨_, List.getElem?_eq_getElem (by omega)⟩
  refine ⟨⟨u, ?_⟩, h1.frozenAt k⟩
  have := h1.cells (g := g) rfl k u hu
  simpa [Addr.add_lit] using this
theorem Fil.next {B g n k : Nat} {L : List Int} {w : World} {x : Int} (h : Fil B g n L k w) (hk : k < n) (hx : L[k]? = some x) : Fil B g n L (k + 1) (w.setCell ⟨g, k, none⟩ (.int .i64 x)) := by
  obtain ⟨ys, h1, h2⟩ := h
  have hy : ys.length = n := by have := h1.1; omega
  refine ⟨_, (h1.stored k (iv x)).1, ?_⟩
  rw [List.take_add_one, List.getElem?_set_self (by omega), List.take_set_of_le (Nat.le_refl _), h2, List.take_add_one, hx]
  simp
theorem Fil.below {B g n k : Nat} {L : List Int} {w w' : World} (h : Fil B g n L k w) (hb : Below w.heap.size w w') : Fil B g n L k w' := by
  obtain ⟨ys, h1, h2⟩ := h
  exact ⟨ys, row_below h1 hb, h2⟩

set_option maxHeartbeats 1000000 in
set_option maxRecDepth 100000 in
theorem kall_any {w : World} {A : Option Addr} {n c : Nat} {ts : List Tq} {L : List Int} (hL : ts.map teQ = L) (ht : TabK w) (ha : Tr w A ts) (hn : ts.length = n) (hz : n ≤ 1000000) :
    Calls Tryd.prog 14 #[.slice A n c] w fun e w' => AllE n L w e w' := by
  have hLn : L.length = n := by rw [← hL, List.length_map, hn]
  have HT := Lib.hid ht
  have HA := Lib.hid ha
  have HN := Lib.hid hn
  have HL := Lib.hid hL
  have HLN := Lib.hid hLn
  obtain ⟨i0, hi, hz0, hz1, hz2⟩ := info_parts infoI
  obtain ⟨w1, hmk, hown, hgr⟩ := run_make_full (P := Tryd.prog) w w.heap.size 30 3 i0 (.int .i64 0) 1 Tryd.underlying30 hi hz0 hz1 .i64 .i64 n (by rw [hz2]; omega) (by unfold maxLen; omega) (Nat.le_refl _)
  have hB1 : Below w.heap.size w w1 := (Below.refl _ w).grown hgr (Nat.le_refl _) (fun k e => by cases e)
  have hF : Fil w.heap.size w.heap.size n L 0 w1 := ⟨_, hown, by simp⟩
  have HF := Lib.hid hF
  clear hL hLn ht ha hn hi hz0 hz1 hz2 hown hgr hF
  go_enter Tryd.func14, Tryd.ntmps14
  go_wp2
  clear hmk
  go_loopw [11] (fun i wr => ∃ k : Nat, i = .int .i64 k ∧ k ≤ n ∧ Fil w.heap.size w.heap.size n L k wr ∧ Below w.heap.size w wr) (fun i _ => n - (intOf i).toNat)
  case atStart => exact ⟨0, rfl, Nat.zero_le _, HF.out, hB1⟩
  case round =>
    obtain ⟨k, rfl, hk, hf, hB⟩ := hrel
    by_cases hlt : k < n
    · obtain ⟨t, ht⟩ : ∃ t, ts[k]? = some t := ⟨_, List.getElem?_eq_getElem (by rw [HN.out]; exact hlt)⟩
      obtain ⟨b, o, rfl, c0, c1, c2, c3⟩ := (HA.out.below hB) k t ht
      have lb : b < wr.heap.size := World.block_lt_of_cell? _ _ c0
      have hx : L[k]? = some (teQ t) := by rw [← HL.out, List.getElem?_map, ht]; rfl
      have HX := Lib.hid hx
      have r1 := fun (w' : World) (h : TabK w') => kof_any (k := t.k) (s := t.v) (a := t.a) (z := t.z) (r := teQ t) rfl h
      have HB := Lib.hid hB
      have HT2 := Lib.hid ((HT.out.below hB).below (bel_alloc (Below.refl _ _) (.cells #[.int .i64 t.k, .string t.v, .int .i64 t.a, .int .i64 t.z] 23)))
      have HFI := Lib.hid hf
      generalize teQ t = x at *
      clear ht hx hf
      go_wp2_with fail
      refine (r1 _ ?_).mono ?_
      · exact HT2.out
      rintro e w2 ⟨rfl, hb2⟩
      have hb3 := bel_trans (bel_alloc (Below.refl _ _) _) hb2
      have hf3 := HFI.out.below hb3
      obtain ⟨⟨u, hu⟩, hfz⟩ := hf3.at hlt
      have HF3 := Lib.hid (hf3.next hlt HX.out)
      have HB3 := Lib.hid ((HB.out.trans (hb3.mono HB.out.size)).setCell (p := ⟨w.heap.size, k, none⟩) (Nat.le_refl _) (.int .i64 x))
      clear hf3 r1 hb2 hb3 hB
      go_wp2
      go_roundw
      case rel => exact ⟨k + 1, by go_num, by omega, HF3.out, HB3.out⟩
      case measure => simp [intOf]; omega
    · obtain rfl : k = n := by omega
      have HR := Lib.hid (hf.end HLN.out)
      clear hf
      go_wp2
      go_ret
      exact ⟨_, _, rfl, hB, HR.out, fun e => by cases e⟩
end Go.Proofs.YtjfhcgolgabkkaaDoor
