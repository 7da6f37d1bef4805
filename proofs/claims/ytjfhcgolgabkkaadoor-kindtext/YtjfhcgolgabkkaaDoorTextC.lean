/- Contracts of package text's functions: the gathering closure, quoted. -/
import Derived.Test.YtjfhcgolgabkkaaDoorTextB
import Derived.Lib.AppendStr
import Derived.OneCell
import Derived.OwnWalk
import Derived.Deep.LoopGhost
import Derived.Laws.Rows
namespace Go.Proofs.YtjfhcgolgabkkaaDoor
open Go.RowKit
set_option linter.unusedVariables false

def bc (l : List UInt8) : List Value := l.map fun b => Value.int .u8 b.toNat
theorem bc_app (a : List UInt8) (p : ByteArray) : bc a ++ Lib.strCells p = bc (a ++ p.data.toList) := by simp [bc, Lib.strCells]
theorem bc_len (a : List UInt8) : (bc a).length = a.length := by simp [bc]

/-- What stands while a string is gathered: what is told, and the place. -/
structure Qv (w0 : World) (bt ba : Nat) (acc : List UInt8) (k : Int) (v : Value) (w : World) : Prop where
  tb : w.heap[bt]? = some (.cells #[v] 83 (0, 0))
  ab : w.heap[ba]? = some (.cells #[.int .i64 k] 3 (0, 0))
  ow : w.ownsRow w0.heap.size 5 1 v acc.length (bc acc)
  o1 : w0.heap.size ≤ bt
  o2 : w0.heap.size ≤ ba
  bel : Below w0.heap.size w0 w

theorem blk_ne {w : World} {g g' : Nat} {t t' : TypeId} {cs cs' : Array Value} (h : w.heap[g]? = some (.cells cs t (0, 0))) (h' : w.heap[g']? = some (.cells cs' t' (0, 0))) (hne : t ≠ t') : g ≠ g' := by
  rintro rfl
  rw [h] at h'
  injection h' with h'
  injection h' with _ ht
  exact hne ht
theorem own_ne {w : World} {g base : Nat} {e t : TypeId} {cs : Array Value} {size n : Nat} {v : Value} {xs : List Value} (h : w.ownsRow base e size v n xs) (hg : w.heap[g]? = some (.cells cs t (0, 0))) (hne : e ≠ t) : v.ownBlock ≠ some g := by
  rcases h.2 with ⟨rfl, _⟩ | ⟨g', cap, cur, rfl, _, hh, _⟩
  · simp [Value.ownBlock]
  · intro he
    have : g' = g := by simpa [Value.ownBlock] using he
    subst this
    exact blk_ne hh hg hne rfl

theorem own_slice {w : World} {base : Nat} {e : TypeId} {size n : Nat} {v : Value} {xs : List Value} (h : w.ownsRow base e size v n xs) : ∃ A m c, v = .slice A m c := by
  rcases h.2 with ⟨rfl, _⟩ | ⟨g', cap, cur, rfl, _⟩
  · exact ⟨_, _, _, rfl⟩
  · exact ⟨_, _, _, rfl⟩
theorem Qv.below {w0 : World} {bt ba : Nat} {acc : List UInt8} {k : Int} {v : Value} {w w' : World} (h : Qv w0 bt ba acc k v w) (b : Below w.heap.size w w') : Qv w0 bt ba acc k v w' :=
  ⟨(b.block bt (lt_of_block h.tb)).trans h.tb, (b.block ba (lt_of_block h.ab)).trans h.ab,
    h.ow.kept (row := none) ⟨b.os, b.tape, b.output, b.size, fun k hk _ => b.block k hk⟩ (by cases hv : v.ownBlock <;> simp), h.o1, h.o2, h.bel.trans (b.mono h.bel.size)⟩

theorem Qv.next {w0 : World} {bt ba : Nat} {acc : List UInt8} {k e : Int} {v v' : Value} {w w1 : World} {p : ByteArray} (h : Qv w0 bt ba acc k v w)
    (ho : w1.ownsRow w0.heap.size 5 1 v' (acc.length + p.size) (bc acc ++ Lib.strCells p)) (hg : w.grownBy w1 v.ownBlock) :
    Qv w0 bt ba (acc ++ p.data.toList) e v' ((w1.setCell ⟨bt, 0, none⟩ v').setCell ⟨ba, 0, none⟩ (.int .i64 e)) := by
  have t1 : w1.heap[bt]? = some (.cells #[v] 83 (0, 0)) := (hg.block bt (lt_of_block h.tb) (fun e => own_ne h.ow h.tb (by decide) e.symm)).trans h.tb
  have a1 : w1.heap[ba]? = some (.cells #[.int .i64 k] 3 (0, 0)) := (hg.block ba (lt_of_block h.ab) (fun e => own_ne h.ow h.ab (by decide) e.symm)).trans h.ab
  have hne : bt ≠ ba := blk_ne t1 a1 (by decide)
  have t2 := one_setCell (u := v') t1
  have a2 : (w1.setCell ⟨bt, 0, none⟩ v').heap[ba]? = some (.cells #[.int .i64 k] 3 (0, 0)) := (Below.heap_setCell _ _ _ _ (fun e => hne e.symm)).trans a1
  rw [bc_app] at ho
  have hl : (acc ++ p.data.toList).length = acc.length + p.size := by rw [List.length_append, ← Lib.size_eq]
  rw [← hl] at ho
  refine ⟨(Below.heap_setCell _ _ _ _ hne).trans t2, one_setCell a2, ?_, h.o1, h.o2, ?_⟩
  · exact ownsRow_setCell_other (ownsRow_setCell_other ho (own_ne ho t1 (by decide)) _) (own_ne ho a1 (by decide)) _
  · exact ((h.bel.grown hg h.bel.size (fun k hk => (h.ow.lt k hk).1)).setCell h.o1 _).setCell h.o2 _

def QvE (w0 : World) (bt ba : Nat) (acc : List UInt8) (k : Int) (w : World) : Prop := ∃ v, Qv w0 bt ba acc k v w

theorem Qv.ex {w0 : World} {bt ba : Nat} {acc : List UInt8} {k : Int} {v : Value} {w : World} (h : Qv w0 bt ba acc k v w) : QvE w0 bt ba acc k w := ⟨v, h⟩

theorem infoB : (Tryd.prog.info? 5).map (fun i => (i.zero, i.size, i.bytes)) = some (some (.int .u8 0), 1, 1) := by kernel_rfl

set_option maxHeartbeats 400000 in
theorem gather_any {w0 : World} {bt ba : Nat} {acc : List UInt8} {k : Int} {w : World} (hq : QvE w0 bt ba acc k w) (p : ByteArray) (e : Int) (hl : acc.length + p.size ≤ 100000000) :
    Calls Tryd.prog 68 #[.string p, .int .i64 e, .pointer (some ⟨bt, 0, none⟩), .pointer (some ⟨ba, 0, none⟩)] w fun en w' => en = .returned (.tuple #[]) ∧ QvE w0 bt ba (acc ++ p.data.toList) e w' := by
  obtain ⟨v, h⟩ := hq
  obtain ⟨i0, hi, hz0, hz1, hz2⟩ := info_parts infoB
  have c1 := cell_of_one h.tb
  have H := Lib.hid h
  have hown := h.ow
  have hsz := h.bel.size
  clear h
  go_enter Tryd.func68, Tryd.ntmps68
  go_wp2_with (at_builtin; refine Lib.wpList_append_own_string _ rfl _ _ 83 9 rfl w0.heap.size 5 i0 Tryd.underlying83 Tryd.underlying9 hi hz0 hz1 hz2 _ _ _ rfl hown p rfl (by unfold maxLen; omega) (by omega) hsz ?_)
  intro v' w1 ho hg _
  obtain ⟨A, m, c, rfl⟩ := own_slice ho
  have hn := H.out.next (e := e) ho hg
  have t1 : w1.heap[bt]? = some (.cells #[v] 83 (0, 0)) := (hg.block bt (lt_of_block H.out.tb) (fun e => own_ne H.out.ow H.out.tb (by decide) e.symm)).trans H.out.tb
  have a1 : w1.heap[ba]? = some (.cells #[.int .i64 k] 3 (0, 0)) := (hg.block ba (lt_of_block H.out.ab) (fun e => own_ne H.out.ow H.out.ab (by decide) e.symm)).trans H.out.ab
  have hne : bt ≠ ba := blk_ne t1 a1 (by decide)
  have f1 := free_of_one t1
  have f2 := free_of_one a1
  have c2 := cell_of_one t1
  have c3 := cell_of_one a1
  have HN := Lib.hid hn
  clear hn ho hg hown t1 a1 c1
  go_wp2
  go_end0
  exact ⟨rfl, _, HN.out⟩

theorem conv_own {w : World} {base : Nat} {v : Value} {acc : List UInt8} (h : w.ownsRow base 5 1 v acc.length (bc acc)) (n : Nat) :
    (convert 83 9 v).run Tryd.prog (w.drewN n) = .ok (.string (mkb acc)) (w.drewN n) := by
  rcases h.2 with ⟨rfl, h0⟩ | ⟨g, cap, cur, rfl, r⟩
  · rw [run_convert_bytes_string _ _ _ 5 _ _ _ Tryd.underlying83 Tryd.underlying5 Tryd.underlying9]
    obtain rfl : acc = [] := List.eq_nil_of_length_eq_zero h0
    simp [Conv.bytesToString, mkb]
    rfl
  · rw [run_convert_bytes_string _ _ _ 5 _ _ _ Tryd.underlying83 Tryd.underlying5 Tryd.underlying9]
    have hb : bc acc = (acc.map fun b => (b.toNat : Int)).map (Value.int .u8) := by simp [bc]
    have hl := run_loadCells_list (P := Tryd.prog) (w.drewN n) ⟨g, 0, none⟩ (bc acc) (fun j v hj => h.cells (g := g) rfl j v hj)
    rw [bc_len, hb] at hl
    rw [run_bytesToString _ _ _ _ _ hl, push_bytes]
    rw [show (ByteArray.empty).data = #[] from rfl, Array.empty_append, List.map_map]
    have e : acc.map ((fun n : Int => UInt8.ofNat n.toNat) ∘ fun b : UInt8 => (b.toNat : Int)) = acc := by
      conv => rhs; rw [← List.map_id acc]
      apply List.map_congr_left; intro b _; simp
    rw [e]; rfl

/-- What has been gone through tells acc; now it is at j. -/
def Lnk (l : List UInt8) (k : Nat) (acc : List UInt8) (j : Nat) : Prop := ∃ p, Bd p acc ∧ l.drop (k + 1) = p ++ l.drop j ∧ j = k + 1 + p.length
theorem Lnk.start (l : List UInt8) (k : Nat) : Lnk l k [] (k + 1) := ⟨[], .nil, rfl, rfl⟩
theorem Lnk.next {l : List UInt8} {k : Nat} {acc t : List UInt8} {j m : Nat} (h : Lnk l k acc j) (hq : (l.drop j).head? ≠ some 34) (hp : pce (l.drop j) = some (t, m)) : Lnk l k (acc ++ t) (j + m) := by
  obtain ⟨p, hb, he, hj⟩ := h
  obtain ⟨p', x, e1, rfl, hpc⟩ := pce_cut hq hp
  refine ⟨p ++ p', ?_, ?_, by simp; omega⟩
  · have := hb.append (.cons hpc .nil)
    simpa using this
  · have : l.drop (j + p'.length) = x := by rw [← List.drop_drop, e1, List.drop_left]
    rw [he, e1, this, List.append_assoc]
theorem Lnk.le {l : List UInt8} {k : Nat} {acc : List UInt8} {j : Nat} (h : Lnk l k acc j) : acc.length + (k + 1) ≤ j := by
  obtain ⟨p, hb, he, hj⟩ := h
  have := hb.le; omega
theorem strA_at {l : List UInt8} {k : Nat} (h : (l.drop k).head? = some 34) : strA l k = ⟨(bod (l.drop (k + 1))).v, (bod (l.drop (k + 1))).n + 1, (bod (l.drop (k + 1))).b⟩ := by
  rw [List.head?_drop] at h
  unfold strA; rw [if_pos ⟨by omega, by rw [Int.toNat_natCast]; exact h⟩]; rfl
theorem strA_no {l : List UInt8} {i : Int} (h : stI l i 34 = false) : strA l i = ⟨[], 0, false⟩ := by
  unfold strA; rw [if_neg]
  intro h2; rw [← stI_iff (c := 34)] at h2; exact absurd (h.symm.trans h2) (by decide)
theorem Lnk.quote {l : List UInt8} {k : Nat} {acc : List UInt8} {j : Nat} (h : Lnk l k acc j) (h0 : (l.drop k).head? = some 34) (hq : (l.drop j).head? = some 34) : strA l k = ⟨acc, j + 1 - k, true⟩ := by
  obtain ⟨p, hb, he, hj⟩ := h
  rw [strA_at h0, he, drop_cons hq, bod_ends hb]
  simp; omega
theorem Lnk.wrong {l : List UInt8} {k : Nat} {acc : List UInt8} {j : Nat} (h : Lnk l k acc j) (h0 : (l.drop k).head? = some 34) (hq : (l.drop j).head? ≠ some 34) (hp : pce (l.drop j) = none) : strA l k = ⟨[], j - k, false⟩ := by
  obtain ⟨p, hb, he, hj⟩ := h
  rw [strA_at h0, he, bod_open hb hq hp]
  simp; omega

/-- How the inner function ends. -/
def strE (r : Tx) (i : Int) : Ending := if r.b = true then .returned (.tuple #[.string (mkb r.v), .int .i64 (i + (r.n : Int))]) else wrE (i + (r.n : Int))

theorem qv_start (w : World) (k : Int) : QvE w w.heap.size (w.heap.size + 1) [] k ((w.alloc (.cells #[.slice none 0 0] 83)).alloc (.cells #[.int .i64 k] 3)) := by
  refine ⟨.slice none 0 0, ?_, ?_, World.ownsRow_nil _ _ _ _, by omega, by omega, bel_alloc (bel_alloc (Below.refl _ _) _) _⟩
  · rw [heap_alloc_old _ _ _ (by simp)]; exact heap_alloc_new w _
  · have := heap_alloc_new (w.alloc (.cells #[.slice none 0 0] 83)) (.cells #[.int .i64 k] 3)
    rwa [World.size_alloc] at this

theorem plain_pce {l : List UInt8} (h : l.head? ≠ some 92) : ∃ c n, nxt l = (c, n) ∧ ((pce l = none ∧ (n = 0 ∨ c = 10 ∨ c = 13)) ∨ (pce l = some (l.take n, n) ∧ n ≠ 0 ∧ c ≠ 10 ∧ c ≠ 13)) := by
  obtain ⟨⟨c, n⟩, e⟩ : ∃ r, nxt l = r := ⟨_, rfl⟩
  refine ⟨c, n, e, ?_⟩
  unfold pce
  rw [if_neg h, e]
  by_cases hb : n = 0 ∨ c = 10 ∨ c = 13
  · exact .inl ⟨if_pos hb, hb⟩
  · exact .inr ⟨if_neg hb, fun h => hb (.inl h), fun h => hb (.inr (.inl h)), fun h => hb (.inr (.inr h))⟩

theorem plain_n2 {s : ByteArray} {k c n : Nat} (hk : k ≤ s.size) (h : nxt (s.data.toList.drop k) = (c, n)) (hb : n = 0 ∨ c = 10 ∨ c = 13) (w : World) :
    Calls Tryd.prog 70 #[.string s, .int .i64 k] w fun e w' => e = .panicked [{ v := .iface 80 (.int .i64 (k : Int)), recovered := false }] ∧ Below w.heap.size w w' := plain_n hk h hb w
theorem plain_y2 {s : ByteArray} {k c n : Nat} (hs : s.size ≤ 1000000) (hk : k ≤ s.size) (h : nxt (s.data.toList.drop k) = (c, n)) (h0 : n ≠ 0) (h1 : c ≠ 10) (h2 : c ≠ 13) (w : World) :
    Calls Tryd.prog 70 #[.string s, .int .i64 k] w fun e w' => e = .returned (.tuple #[.string (mkb ((s.data.toList.drop k).take n)), .int .i64 ((k : Int) + (n : Int))]) ∧ Below w.heap.size w w' := by
  have := plain_y hs hk h h0 h1 h2 w
  have e : s.extract k (k + n) = mkb ((s.data.toList.drop k).take n) := by
    rw [← mkb_of (s.extract k (k + n)), Lib.extract_data, Nat.add_sub_cancel_left]
  rw [e] at this
  exact this
theorem str_yes {acc : List UInt8} {k j : Nat} (h : k ≤ j) : strE ⟨acc, j + 1 - k, true⟩ k = .returned (.tuple #[.string (mkb acc), .int .i64 ((j : Int) + 1)]) := by
  have e : (k : Int) + ((j + 1 - k : Nat) : Int) = (j : Int) + 1 := by omega
  unfold strE; simp only [if_true]; rw [e]
theorem str_no {k j : Nat} (h : k ≤ j) : strE ⟨[], j - k, false⟩ k = .panicked [{ v := .iface 80 (.int .i64 (j : Int)), recovered := false }] := by
  have e : (k : Int) + ((j - k : Nat) : Int) = (j : Int) := by omega
  unfold strE; simp only [Bool.false_eq_true, if_false]; rw [e]; rfl

set_option maxHeartbeats 1000000 in
theorem quoted_any (s : ByteArray) (i : Int) (w : World) (hs : s.size ≤ 1000000) :
    Calls Tryd.prog 62 #[.string s, .int .i64 i] w fun e w' => e = strE (strA s.data.toList i) i ∧ Below w.heap.size w w' := by
  have hsz : s.data.toList.length = s.size := (Lib.size_eq s).symm
  have hmf : ∀ (fn : Fn) (first cap : Array Value) (w : World), (Instr.makeFunc fn first cap).run Tryd.prog w = .ok (.func fn first cap) w := fun _ _ _ _ => rfl
  cases h1 : stI s.data.toList i 34
  · rw [strA_no h1]
    have r1 := stands_b h1
    clear h1 hsz
    go_enter Tryd.func62, Tryd.ntmps62
    go_wp2_with fail
    (with_reducible refine (r1 _).mono ?_)
    rintro e w' ⟨rfl, rfl⟩
    go_wp2
    exact ⟨rfl, by unfold strE; simp [wrE], Below.refl _ _⟩
  have hin := stI_lt h1
  obtain ⟨k, rfl⟩ := Int.eq_ofNat_of_zero_le hin.1
  have r1 := stands_b h1
  have hk : k < s.size := by omega
  have hh := (stI_head (c := 34)).1 h1
  have HH := Lib.hid hh
  have HZ := Lib.hid hsz
  have HQ := Lib.hid (qv_start w ((k : Int) + 1))
  clear h1 hin hh hsz
  go_enter Tryd.func62, Tryd.ntmps62
  go_wp2_with fail
  (with_reducible refine (r1 _).mono ?_)
  rintro e w' ⟨rfl, rfl⟩
  go_wp2_with fail
  go_loopg [] (s.size - (k + 1)) (fun g wr => ∃ (j : Nat) (acc : List UInt8), g = s.size - j ∧ QvE w w.heap.size (w.heap.size + 1) acc j wr ∧ j ≤ s.size ∧ Lnk s.data.toList k acc j)
  case atStart => exact ⟨k + 1, [], rfl, HQ.out, by omega, Lnk.start _ _⟩
  case round =>
    obtain ⟨j, acc, hg, ⟨v, hq⟩, hj, hl⟩ := hrel
    have hle := hl.le
    have c1 := cell_of_one hq.ab
    have c2 := cell_of_one hq.tb
    have HL := Lib.hid hl
    have HV := Lib.hid hq
    have HG := Lib.hid hg
    clear hl hg r1 HQ
    cases h34 : stI s.data.toList j 34
    · have r1 := stands_b h34
      have n34 := not_st (c := 34) h34
      clear h34
      have HN := Lib.hid n34
      clear n34
      cases h92 : stI s.data.toList j 92
      · have r2 := stands_b h92
        obtain ⟨c, n, hn, ⟨hp, hb⟩ | ⟨hp, n0, n10, n13⟩⟩ := plain_pce (not_st (c := 92) h92)
        · have r3 := plain_n2 hj hn hb
          have hw := HL.out.wrong HH.out HN.out hp
          have HW := Lib.hid hw
          clear h92 hn hp hb hw hq c2
          go_wp2_with fail
          (with_reducible refine (r1 _).mono ?_)
          rintro e w' ⟨rfl, rfl⟩
          go_wp2_with fail
          (with_reducible refine (r2 _).mono ?_)
          rintro e w' ⟨rfl, rfl⟩
          go_wp2_with fail
          (with_reducible refine (r3 _).mono ?_)
          rintro e w1 ⟨rfl, hb1⟩
          go_wp2
          exact ⟨rfl, by rw [HW.out, str_no (by omega)], (HV.out.below hb1).bel⟩
        · have r3 := plain_y2 hs hj hn n0 n10 n13
          have hbd := pce_bd HN.out hp
          rw [List.length_drop, HZ.out] at hbd
          have hz : acc.length + (mkb ((s.data.toList.drop j).take n)).size ≤ 100000000 := by rw [mkb_size]; omega
          have HX := Lib.hid (HL.out.next HN.out hp)
          have b1 := hbd.1
          have b2 := hbd.2.1
          clear h92 hn hp hbd hq c2 n0 n10 n13
          go_wp2_with fail
          (with_reducible refine (r1 _).mono ?_)
          rintro e w' ⟨rfl, rfl⟩
          go_wp2_with fail
          (with_reducible refine (r2 _).mono ?_)
          rintro e w' ⟨rfl, rfl⟩
          go_wp2_with fail
          (with_reducible refine (r3 _).mono ?_)
          rintro e w1 ⟨rfl, hb1⟩
          have HV1 := Lib.hid (HV.out.below hb1)
          go_wp2_with fail
          (with_reducible refine (gather_any HV1.out.ex _ _ hz).mono ?_)
          rintro e w2 ⟨rfl, hq2⟩
          have HQ2 := Lib.hid hq2
          clear hq2
          go_wp2
          go_roundg (s.size - (j + n))
          case measure => rw [HG.out]; omega
          case rel => exact ⟨j + n, _, rfl, HQ2.out, by omega, HX.out⟩
      · have r2 := stands_b h92
        have ep := pce_esc ((stI_head (c := 92)).1 h92)
        rw [← escA_nat] at ep
        cases hp : escA s.data.toList j with
        | none =>
          have r3 := escaped_n hp hs
          have hw := HL.out.wrong HH.out HN.out (ep.trans hp)
          have HW := Lib.hid hw
          clear h92 hp hw hq c2 ep
          go_wp2_with fail
          (with_reducible refine (r1 _).mono ?_)
          rintro e w' ⟨rfl, rfl⟩
          go_wp2_with fail
          (with_reducible refine (r2 _).mono ?_)
          rintro e w' ⟨rfl, rfl⟩
          go_wp2_with fail
          (with_reducible refine (r3 _).mono ?_)
          rintro e w1 ⟨rfl, hb1⟩
          go_wp2
          exact ⟨rfl, by rw [HW.out, str_no (by omega)], (HV.out.below hb1).bel⟩
        | some q =>
          obtain ⟨t, m⟩ := q
          have r3 := escaped_y hp hs
          have hbd := pce_bd HN.out (ep.trans hp)
          rw [List.length_drop, HZ.out] at hbd
          have hz : acc.length + (mkb t).size ≤ 100000000 := by rw [mkb_size]; omega
          have HX := Lib.hid (HL.out.next HN.out (ep.trans hp))
          have b1 := hbd.1
          have b2 := hbd.2.1
          clear h92 hp hbd hq c2 ep
          go_wp2_with fail
          (with_reducible refine (r1 _).mono ?_)
          rintro e w' ⟨rfl, rfl⟩
          go_wp2_with fail
          (with_reducible refine (r2 _).mono ?_)
          rintro e w' ⟨rfl, rfl⟩
          go_wp2_with fail
          (with_reducible refine (r3 _).mono ?_)
          rintro e w1 ⟨rfl, hb1⟩
          have HV1 := Lib.hid (HV.out.below hb1)
          go_wp2_with fail
          (with_reducible refine (gather_any HV1.out.ex _ _ hz).mono ?_)
          rintro e w2 ⟨rfl, hq2⟩
          have HQ2 := Lib.hid hq2
          clear hq2
          go_wp2
          go_roundg (s.size - (j + m))
          case measure => rw [HG.out]; omega
          case rel => exact ⟨j + m, _, rfl, HQ2.out, by omega, HX.out⟩
    · have r1 := stands_b h34
      have hw := HL.out.quote HH.out ((stI_head (c := 34)).1 h34)
      have HW := Lib.hid hw
      have hcv := conv_own hq.ow
      have hwr : IntKind.i64.wrap ((j : Int) + 1) = (j : Int) + 1 := IntWalk.i64_in _ (by omega)
      clear h34 hw hq
      go_wp2_with fail
      (with_reducible refine (r1 _).mono ?_)
      rintro e w' ⟨rfl, rfl⟩
      go_wp2_with fail
      go_quiet (fail)
      go_wp2_with fail
      go_ret2
      refine ⟨?_, below_drewN HV.out.bel _⟩
      rw [HW.out, str_yes (by omega)]
      rfl
end Go.Proofs.YtjfhcgolgabkkaaDoor
