/- Package yield: derived. -/
import Derived.Test.YtcipfipfamecmaaDoorYieC
import Derived.Deep.LoopGhost
namespace Go.Proofs.YtcipfipfamecmaaDoor
open Go.RowKit
set_option linter.unusedVariables false
set_option maxRecDepth 100000

/-- One call of the closure, and what is derived. -/
theorem tel_step {t : Sq} {W : List Sq} {R : List Int} {out : List Sq} {Z : List Int} {f : Bool} (hd : Der (t :: W) R out Z f) :
    (∃ o p R' out', tel 3 t R = some (o, p, R') ∧ out = o ++ out' ∧ Der (p ++ W) R' out' Z f ∧ p.length + 10 * R'.length ≤ 10 * R.length ∧ o.length + p.length + 10 * R'.length ≤ 1 + 10 * R.length) ∨ (tel 3 t R = none ∧ f = false) := by
  cases hx : tel 3 t R with
  | none =>
    obtain ⟨Y, hY⟩ := tel_none 3 t R (ch_all t) hx W
    exact .inr ⟨rfl, (hd.det hY).2.2⟩
  | some y =>
    obtain ⟨o, p, R'⟩ := y
    obtain ⟨out', Z', f', h⟩ := der_ex R' (p ++ W)
    obtain ⟨e1, e2, e3⟩ := hd.det (tel_some 3 t R (ch_all t) hx _ _ _ _ h)
    subst e2 e3
    have hs := tel_size 3 t R hx
    exact .inl ⟨o, p, R', out', rfl, e1, h, hs.1, hs.2⟩
/-- How derived ends. -/
def DvE (is : Bool) (m : Nat) (X : List Sq) (w : World) (e : Ending) (w' : World) : Prop :=
  if is = true then ∃ A c, e = .returned (.slice A m c) ∧ Below w.heap.size w w' ∧ Sr w' A X ∧ (A = none → m = 0 ∧ c = 0) else e = wrY ∧ Below w.heap.size w w'
/-- The world in which the closure is called first. -/
def w4Y (w : World) (A : Option Addr) (n c : Nat) : World :=
  (((w.alloc (.cells #[.slice A n c] 22)).alloc (.cells #[.slice none 0 0] 24)).alloc (.cells #[.slice none 0 0] 24)).alloc (.cells #[fnY (w.heap.size + 1) w.heap.size (w.heap.size + 1 + 1) (w.heap.size + 1 + 1 + 1)] 51)
theorem kx_start (w : World) {R : List Int} {A : Option Addr} {n c : Nat} (hA : Ri w A R) (hl : R.length = n) (hc : n ≤ c) :
    Kx w (w.heap.size + 1) w.heap.size (w.heap.size + 1 + 1) (w.heap.size + 1 + 1 + 1) [] [] R A n c (.slice none 0 0) (.slice none 0 0) (w4Y w A n c) := by
  have a1 := heap_alloc_new w (.cells #[.slice A n c] 22)
  have a2 := heap_alloc_new (w.alloc (.cells #[.slice A n c] 22)) (.cells #[.slice none 0 0] 24)
  have a3 := heap_alloc_new ((w.alloc (.cells #[.slice A n c] 22)).alloc (.cells #[.slice none 0 0] 24)) (.cells #[.slice none 0 0] 24)
  have a4 := heap_alloc_new (((w.alloc (.cells #[.slice A n c] 22)).alloc (.cells #[.slice none 0 0] 24)).alloc (.cells #[.slice none 0 0] 24)) (.cells #[fnY (w.heap.size + 1) w.heap.size (w.heap.size + 1 + 1) (w.heap.size + 1 + 1 + 1)] 51)
  simp only [World.size_alloc] at a2 a3 a4
  exact {
    f := (heap_alloc_old _ _ (by simp only [World.size_alloc]; omega)).trans ((heap_alloc_old _ _ (by simp only [World.size_alloc]; omega)).trans a2)
    r := (heap_alloc_old _ _ (by simp only [World.size_alloc]; omega)).trans ((heap_alloc_old _ _ (by simp only [World.size_alloc]; omega)).trans ((heap_alloc_old _ _ (by simp only [World.size_alloc]; omega)).trans a1))
    q := (heap_alloc_old _ _ (by simp only [World.size_alloc]; omega)).trans a3
    t := a4
    hf := by omega
    hr := Nat.le_refl _
    hq := by omega
    ne := by omega
    of := World.ownsRow_nil _ _ _ _
    oq := World.ownsRow_nil _ _ _ _
    on := .inl rfl
    rr := hA
    rl := hl
    rc := hc
    bel := bel_alloc (bel_alloc (bel_alloc (bel_alloc (Below.refl _ _) _) _) _) _ }
theorem Kx.pop' {w0 : World} {bf br bw bt : Nat} {F W : List Sq} {R : List Int} {A : Option Addr} {n c : Nat} {vf : Value} {w : World} {t : Sq} {g cap M N : Nat} (h : Kx w0 bf br bw bt F (t :: W) R A n c vf (.slice (some ⟨g, 0, none⟩) M cap) w) (hN : W.length = N) (hM : M = N + 1) :
    Kx w0 bf br bw bt F W R A n c vf (.slice (some ⟨g, 0, none⟩) N cap) (w.setCell ⟨bw, 0, none⟩ (.slice (some ⟨g, 0, none⟩) N cap)) := by
  subst hN hM
  exact h.pop
/-- What holds at the loop's head. -/
def Wy (w : World) (N : Nat) (out : List Sq) (Z : List Int) (f : Bool) (F W : List Sq) (R : List Int) (wr : World) : Prop :=
  KE w (w.heap.size + 1) w.heap.size (w.heap.size + 1 + 1) (w.heap.size + 1 + 1 + 1) F W R wr ∧ F.length + W.length + 10 * R.length ≤ 1 + 10 * N ∧ ∃ o, Der W R o Z f ∧ F ++ o = out
set_option maxHeartbeats 4000000 in
theorem derived_any {w : World} {A : Option Addr} {n m c : Nat} {R Z : List Int} {out : List Sq} {f : Bool} (hd : Der docS R out Z f) (hm : out.length = m) (hl : R.length = n) (hc : n ≤ c) (hn : n ≤ 2000) (hA : Ri w A R) (ht : TabR w) :
    Calls Tryd.prog 23 #[.slice A n c] w fun e w' => DvE (f && Z.isEmpty) m out w e w' := by
  have hmf : ∀ (fn : Fn) (first cap : Array Value) (w : World), (Instr.makeFunc fn first cap).run Tryd.prog w = .ok (.func fn first cap) w := fun _ _ _ _ => rfl
  have HA := Lib.hid hA
  have HD := Lib.hid hd
  have HM := Lib.hid hm
  have HL := Lib.hid hl
  have rr := ansT_all (bf := w.heap.size + 1) (br := w.heap.size) (bw := w.heap.size + 1 + 1) (bt := w.heap.size + 1 + 1 + 1) ht 3
  have hst : Der [⟨1, 0⟩] R out Z f := hd
  have hlen : 10 * R.length + 1 ≤ 20001 := by omega
  have hk0 := kx_start (R := R) w hA hl hc
  cases hx : tel 3 ⟨1, 0⟩ R with
  | none =>
    have hf : f = false := by
      rcases tel_step hst with ⟨o, p, R', out', h1, _⟩ | ⟨_, h⟩
      · rw [hx] at h1; cases h1
      · exact h
    subst hf
    have r1 := rr ⟨1, 0⟩ [] [] R _ (ch_all _) (by simp; omega) ⟨_, _, _, _, _, hk0⟩
    rw [hx] at r1
    unfold w4Y fnY at r1
    clear hd hA ht hm hl hst hx rr hk0 hlen
    go_enter Tryd.func23, Tryd.ntmps23
    go_wp2_with fail
    ((with_reducible refine r1.mono ?_))
    rintro e w1 ⟨he, hb1⟩
    unfold wrY at he
    subst he
    have HB1 := Lib.hid hb1
    clear hb1 r1
    go_wp2
    exact ⟨rfl, rfl, HB1.out⟩
  | some y =>
    obtain ⟨o, p, R', out', h1, h2, h3, -, h5⟩ : ∃ o p R' out', y = (o, p, R') ∧ out = o ++ out' ∧ Der (p ++ []) R' out' Z f ∧ p.length + 10 * R'.length ≤ 10 * R.length ∧ o.length + p.length + 10 * R'.length ≤ 1 + 10 * R.length := by
      rcases tel_step hst with ⟨o, p, R', out', h1, h2⟩ | ⟨h1, _⟩
      · rw [hx] at h1; cases h1; exact ⟨o, p, R', out', rfl, h2⟩
      · rw [hx] at h1; cases h1
    subst h1
    have r1 := rr ⟨1, 0⟩ [] [] R _ (ch_all _) (by simp; omega) ⟨_, _, _, _, _, hk0⟩
    rw [hx] at r1
    unfold w4Y fnY at r1
    have HY := Lib.hid (show ∀ w1, KE w (w.heap.size + 1) w.heap.size (w.heap.size + 1 + 1) (w.heap.size + 1 + 1 + 1) ([] ++ o) (p ++ []) R' w1 → Wy w R.length out Z f ([] ++ o) (p ++ []) R' w1 from fun w1 hk => ⟨hk, by rw [List.append_nil, List.nil_append]; omega, out', h3, by rw [List.nil_append, h2]⟩)
    have RR := Lib.hid rr
    obtain ⟨G, hG⟩ : ∃ G, 10 * R'.length + p.length = G := ⟨_, rfl⟩
    have HG := Lib.hid hG
    clear hd hA ht hm hl hst hx hk0 h2 h3 h5 rr hG
    go_enter Tryd.func23, Tryd.ntmps23
    go_wp2_with fail
    ((with_reducible refine r1.mono ?_))
    rintro e w1 ⟨rfl, hk1⟩
    have HW := Lib.hid (HY.out _ hk1)
    clear hk1 r1 HY hlen
    go_wp2_with fail
    go_loopg [] G (fun gh wr => ∃ F W R', gh = 10 * R'.length + W.length ∧ Hid (Wy w n out Z f F W R' wr))
    case atStart => exact ⟨[] ++ o, p ++ [], R', by rw [List.append_nil]; exact HG.out.symm, by rw [← HL.out]; exact HW⟩
    case round =>
      obtain ⟨F, W, Rr, hg, hW⟩ := hrel
      have HGG := Lib.hid hg
      clear hg HW HG
      obtain ⟨⟨A3, n3, c3, vf3, vw3, k3⟩, hlen, o', hd3, ho3⟩ := hW.out
      cases W with
      | nil =>
        obtain ⟨rfl, rfl, rfl⟩ : o' = [] ∧ Z = Rr ∧ f = true := by cases hd3; exact ⟨rfl, rfl, rfl⟩
        obtain rfl : F = out := by rw [← ho3, List.append_nil]
        obtain ⟨B5, m5, d5, rfl⟩ := own_sl k3.oq
        obtain ⟨B6, m6, d6, rfl⟩ := own_sl k3.of
        obtain ⟨rfl, -, -⟩ := sr_row (ts := []) k3.oq
        obtain ⟨x1, x2, x3⟩ := sr_row k3.of
        have x4 : m6 = m := x1.trans HM.out
        subst x4
        have cq := cell_of_one k3.q
        have cr := cell_of_one k3.r
        have cf := cell_of_one k3.f
        have X2 := Lib.hid x2
        have X3 := Lib.hid x3
        have HB := Lib.hid k3.bel
        have hn3 := k3.rl
        clear hd3 ho3 hW k3 x1 x2 x3 hlen
        cases Z with
        | nil =>
          obtain rfl : n3 = 0 := hn3.symm
          go_wp2_with fail
          go_ret
          exact ⟨B6, d6, rfl, HB.out, X2.out, X3.out⟩
        | cons i Z =>
          obtain ⟨N, rfl⟩ : ∃ N, n3 = N + 1 := ⟨Z.length, hn3.symm⟩
          have q1 : (0 : Int) < (N : Int) + 1 := by omega
          go_wp2_with fail
          exact ⟨rfl, rfl, HB.out⟩
      | cons t W =>
        obtain ⟨N, hN⟩ : ∃ N, W.length = N := ⟨_, rfl⟩
        obtain ⟨M, hM⟩ : ∃ M, M = N + 1 := ⟨_, rfl⟩
        have hlenM : (t :: W).length = M := by rw [List.length_cons, hN, hM]
        obtain ⟨g, cap, hv, hgb, hgl⟩ := k3.oq.form (Nat.succ_pos _)
        rw [hlenM] at hv
        subst hv
        have hst := k3.oq
        rw [hlenM] at hst
        have hcap : M ≤ cap := by
          rcases hst.2 with ⟨h0, _⟩ | ⟨g', cap', cur, hv, _, _, hn, _⟩
          · cases h0
          · cases hv; exact hn
        have htop : (t :: W).reverse[N]? = some t := by rw [← hN]; simp
        have hst2 : wr.ownsRow w.heap.size 33 2 (.slice (some ⟨g, 0, none⟩) M cap) (t :: W).reverse.length (cly (t :: W).reverse) := by
          rw [List.length_reverse, hlenM]; exact hst
        obtain ⟨b, o2, e0, c0, c1⟩ := (sr_row hst2).2.1 N t htop
        obtain ⟨rfl, rfl⟩ : g = b ∧ 0 = o2 := by simpa using e0
        rw [Nat.zero_add] at c0 c1
        have hM2 : M ≤ 20001 := by rw [hlenM] at hlen; omega
        have q1 : (M : Int) - 1 = (N : Int) := by omega
        have q2 : N < M := by omega
        have q6 : (0 : Int) < (M : Int) := by omega
        have q4 : IntKind.i64.wrap ((M : Int) - 1) = (N : Int) := by rw [q1]; exact IntWalk.i64_in _ (by omega)
        have q8 : IntKind.i64.wrap (N : Int) = (N : Int) := IntWalk.i64_in _ (by omega)
        have q5 : N ≤ cap := by omega
        have q7 : (N : Int) < (M : Int) := by omega
        have kp := (k3.pop' hN hM).below (bel_alloc (Below.refl _ _) (.cells #[.int .i64 t.k, .int .i64 t.n] 33))
        have cq := cell_of_one k3.q
        have lq := lt_of_block k3.q
        have gq := free_of_one k3.q
        have ct := cell_of_one k3.t
        unfold fnY at ct
        have lt := lt_of_block k3.t
        have r2 := RR.out t F W Rr _ (ch_all t) (by rw [hlenM] at hlen; omega) ⟨_, _, _, _, _, kp⟩
        have HO3 := Lib.hid ho3
        rcases tel_step hd3 with ⟨o4, p4, R4, out4, h1, h2, h3, h4, h5⟩ | ⟨h1, hf⟩
        · rw [h1] at r2
          have HY := Lib.hid (show ∀ w1, KE w (w.heap.size + 1) w.heap.size (w.heap.size + 1 + 1) (w.heap.size + 1 + 1 + 1) (F ++ o4) (p4 ++ W) R4 w1 → Wy w n out Z f (F ++ o4) (p4 ++ W) R4 w1 from
            fun w1 hk => ⟨hk, by rw [List.length_append, List.length_append]; rw [List.length_cons] at hlen; omega, out4, h3, by rw [← HO3.out, h2, List.append_assoc]⟩)
          have hms : 10 * R4.length + (p4 ++ W).length < gk := by rw [HGG.out, List.length_append, List.length_cons]; omega
          have HMS := Lib.hid hms
          clear k3 kp hst hst2 htop e0 hd3 ho3 hlen hlenM hN hM h1 h2 h3 h4 h5 hms hW
          go_wp2_with fail
          ((with_reducible refine r2.mono ?_))
          rintro e w5 ⟨rfl, hk5⟩
          have HW5 := Lib.hid (HY.out _ hk5)
          clear hk5 r2 HY c0 c1 cq ct gq
          go_wp2_with fail
          go_roundg (10 * R4.length + (p4 ++ W).length)
          case measure => exact HMS.out
          case rel => exact ⟨_, _, _, rfl, HW5⟩
        · subst hf
          rw [h1] at r2
          clear k3 kp hst hst2 htop e0 hd3 ho3 hlen hlenM hN hM h1 hW
          go_wp2_with fail
          ((with_reducible refine r2.mono ?_))
          rintro e w5 ⟨he, hb5⟩
          unfold wrY at he
          subst he
          have HB5 := Lib.hid hb5
          clear hb5 r2
          go_wp2
          exact ⟨rfl, rfl, HB5.out⟩
end Go.Proofs.YtcipfipfamecmaaDoor
