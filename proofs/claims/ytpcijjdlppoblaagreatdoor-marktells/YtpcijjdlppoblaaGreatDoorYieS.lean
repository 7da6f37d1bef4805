/- The reference (copperplateref14): Full. -/
import Derived.Test.YtpcijjdlppoblaaGreatDoorYieF
import Derived.Test.YtpcijjdlppoblaaGreatDoorRulW
import Derived.Test.YtpcijjdlppoblaaGreatDoorRulX
import Derived.Test.YtpcijjdlppoblaaGreatDoorPicR
import Derived.Test.YtpcijjdlppoblaaGreatDoorYieW
import Derived.StillTailTactics
namespace Go.Proofs.YtpcijjdlppoblaaGreatDoor
open Go.RowKit
set_option linter.unusedVariables false
set_option maxRecDepth 100000

/-- The symbols that are left, beside the row of those that are out. -/
structure Lf (w : World) (A : Option Addr) (n c : Nat) (S : List Sq) (vo : Value) : Prop where
  sr : Sr w A S
  len : S.length = n
  cap : n ≤ c
  nil : A = none → n = 0 ∧ c = 0
  ne : ∀ b o, A = some ⟨b, o, none⟩ → vo.ownBlock ≠ some b
  lt : ∀ b o, A = some ⟨b, o, none⟩ → b < w.heap.size
theorem Lf.below {w w' : World} {A : Option Addr} {n c : Nat} {S : List Sq} {vo : Value} (h : Lf w A n c S vo) (b : Below w.heap.size w w') : Lf w' A n c S vo := { h with
  sr := h.sr.below b
  lt := fun b' o e => Nat.lt_of_lt_of_le (h.lt b' o e) b.size }
theorem sr_tail {w : World} {b o : Nat} {t : Sq} {S : List Sq} (h : Sr w (some ⟨b, o, none⟩) (t :: S)) : Sr w (some ⟨b, o + 2, none⟩) S := fun j x hj => by
  obtain ⟨b', o', e, c0, c1⟩ := h (j + 1) x (by simpa using hj)
  obtain ⟨rfl, rfl⟩ : b = b' ∧ o = o' := by simpa using e
  refine ⟨b, o + 2, rfl, ?_, ?_⟩
  · rw [show o + 2 + j * 2 = o + (j + 1) * 2 by omega]; exact c0
  · rw [show o + 2 + j * 2 + 1 = o + (j + 1) * 2 + 1 by omega]; exact c1
theorem Lf.next1 {w : World} {b o : Nat} {t : Sq} {S : List Sq} {vo : Value} (h : Lf w (some ⟨b, o, none⟩) (0 + 1) 1 (t :: S) vo) : Lf w (some ⟨b, o, none⟩) 0 0 S vo := by
  obtain rfl : S = [] := List.eq_nil_of_length_eq_zero (by have := h.len; rw [List.length_cons] at this; omega)
  exact ⟨Sr.nil _ _, rfl, Nat.le_refl _, (fun e => by cases e), h.ne, h.lt⟩
theorem Lf.next2 {w : World} {b o N c : Nat} {t : Sq} {S : List Sq} {vo : Value} (h : Lf w (some ⟨b, o, none⟩) (N + 1) (c + 2) (t :: S) vo) : Lf w (some ⟨b, o + 2, none⟩) N (c + 1) S vo :=
  ⟨sr_tail h.sr, by have := h.len; rw [List.length_cons] at this; omega, by have := h.cap; omega, (fun e => by cases e), (fun b' o' e => by cases e; exact h.ne b o rfl), fun b' o' e => by cases e; exact h.lt b o rfl⟩
/-- Where a slice's other cells lie. -/
theorem cap_or (N c : Nat) (h : N + 1 ≤ c) : (c = 1 ∧ N = 0) ∨ ∃ c', c = c' + 2 := by
  by_cases e : c = 1
  · exact .inl ⟨e, by omega⟩
  · exact .inr ⟨c - 2, by omega⟩
/-- What holds: F out, S left, the rules R to come. -/
structure Iy (w : World) (N : Nat) (out : List Sq) (Z : List Int) (f : Bool) (F S : List Sq) (R : List Int) (v4 v5 : Value) (wr : World) : Prop where
  own : wr.ownsRow w.heap.size 59 2 v5 F.length (cly F)
  lf : ∃ A n c, v4 = .slice A n c ∧ Lf wr A n c S v5
  der : ∃ o, Der S R o Z f ∧ F ++ o = out
  len : F.length + S.length + 10 * R.length ≤ 1 + 10 * N
  bel : Below w.heap.size w wr
theorem fu_no {is f : Bool} {Z : List Int} {m : Nat} {X out : List Sq} {w w' : World} (h1 : is = (f && Z.isEmpty)) (h2 : X = if is then out else []) (hm : X.length = m) (hf : (f && Z.isEmpty) = false) (hb : Below w.heap.size w w') :
    FuE is m X w (.returned (.tuple #[.slice none 0 0, .bool false])) w' := by
  rw [hf] at h1
  subst h1
  rw [if_neg (by simp)] at h2
  subst h2
  obtain rfl : m = 0 := hm.symm
  exact ⟨none, 0, rfl, hb, Sr.nil _ _, fun _ => ⟨rfl, rfl⟩⟩
theorem Iy.start {w : World} {R Z : List Int} {out : List Sq} {f : Bool} (hd : Der docS R out Z f) :
    Iy w R.length out Z f [] [⟨1, 0⟩] R (.slice (some ⟨w.heap.size, 0, none⟩) 1 1) (.slice none 0 0) (w.alloc (.cells #[.int .i64 1, .int .i64 0] 59)) :=
  ⟨World.ownsRow_nil _ _ _ _, ⟨_, _, _, rfl, sr_one (heap_alloc_new w _), rfl, Nat.le_refl _, (fun e => by cases e), (fun b o e h => by cases h), fun b o e => by cases e; simp⟩, ⟨out, hd, rfl⟩, by simp, bel_alloc (Below.refl _ _) _⟩
def slen : Value → Nat
  | .slice _ n _ => n
  | _ => 0
/-- A symbol is out. -/
theorem Iy.put {w : World} {N : Nat} {out : List Sq} {Z : List Int} {f : Bool} {F S : List Sq} {t : Sq} {R : List Int} {v4 v5 v' : Value} {wr w1 : World} {A : Option Addr} {n c : Nat} (hk : t.k ≠ 1) (h : Iy w N out Z f F (t :: S) R v4 v5 wr) (hl : Lf wr A n c S v5) (o : Obj)
    (hg : Gro (wr.alloc o) v5 w1 v') (ho : w1.ownsRow w.heap.size 59 2 v' (F.length + 1) (cly (F ++ [t]))) : Iy w N out Z f (F ++ [t]) S R (.slice A n c) v' w1 := by
  obtain ⟨o', hd, he⟩ := h.der
  refine ⟨by rw [List.length_append]; exact ho, ⟨A, n, c, rfl, ?_⟩, ?_, ?_, ?_⟩
  · refine ⟨(hl.sr.below (bel_alloc (Below.refl _ wr) o)).gro hg fun b o e => hl.ne b o e, hl.len, hl.cap, hl.nil, fun b o2 e => ?_, fun b o2 e => Nat.lt_of_lt_of_le (hl.lt b o2 e) (Nat.le_trans (by simp) hg.g.size)⟩
    rcases hg.at' with e2 | ⟨k, e2, hk⟩
    · rw [e2]; exact hl.ne b o2 e
    · rw [e2]
      intro e3
      injection e3 with e3
      have := hl.lt b o2 e
      rw [World.size_alloc] at hk
      omega
  · cases hd with
    | put _ d => exact ⟨_, d, by rw [List.append_assoc]; exact he⟩
    | var h1 _ _ => exact absurd h1 hk
    | none h1 => exact absurd h1 hk
    | stop h1 _ => exact absurd h1 hk
  · have := h.len
    rw [List.length_cons] at this
    rw [List.length_append, List.length_singleton]
    omega
  · exact (bel_alloc h.bel o).grown hg.g (Nat.le_trans h.bel.size (by simp)) (fun k hk => (h.own.lt k hk).1)
/-- A rule's symbols take the first variable's place. -/
theorem Iy.next {w : World} {N : Nat} {out : List Sq} {Z : List Int} {f : Bool} {F S L : List Sq} {t : Sq} {x : Int} {R : List Int} {v4 vo v6 : Value} {wr w3 w6 : World} {k : Nat} (h : Iy w N out Z f F (t :: S) (x :: R) v4 vo wr) (hk : t.k = 1) (hi : isR t.n x = true) (hL : symI x = L) (b3 : Below wr.heap.size wr w3) (b6 : Below w3.heap.size w3 w6)
    (ho : w6.ownsRow w3.heap.size 59 2 v6 k (cly (L ++ S))) (hkk : (L ++ S).length = k) : Iy w N out Z f F (L ++ S) R v6 vo w6 := by
  subst hL hkk
  have b4 := bel_trans b3 b6
  obtain ⟨A, n, c, rfl⟩ := own_sl ho
  obtain ⟨e1, e2, e3⟩ := sr_row ho
  obtain ⟨o', hd, he⟩ := h.der
  refine ⟨row_below h.own b4, ⟨A, n, c, rfl, e2, e1.symm, row_cap ho, e3, fun b o e h2 => ?_, fun b o e => ?_⟩, ?_, ?_, bel_trans h.bel b4⟩
  · have h3 := (h.own.lt b h2).2
    have h4 := (ho.lt b (by rw [e]; rfl)).1
    have h5 := b3.size
    omega
  · exact (ho.lt b (by rw [e]; rfl)).2
  · cases hd with
    | put h1 _ => exact absurd hk h1
    | var _ _ d => exact ⟨_, d, he⟩
    | stop _ h1 => rw [hi] at h1; cases h1
  · have h1 := h.len
    have h2 := tlI_len x
    rw [List.length_cons, List.length_cons] at h1
    rw [List.length_append]
    omega
/-- The reference's Get of a rule. -/
def RmE (v : Int) (m : Nat) (L : List Sq) (w : World) (e : Ending) (w' : World) : Prop := ∃ A c, e = .returned (.tuple #[.agg #[.int .i64 v, .slice A m c], .bool true]) ∧ Below w.heap.size w w' ∧ Sr w' A L ∧ (A = none → m = 0 ∧ c = 0)
theorem rget_m {v i : Int} (hi : isR v i = true) {m : Nat} {L : List Sq} (hL : symI i = L) (hm : L.length = m) (w : World) :
    Calls Tryz.prog 45 #[.int .i64 i] w fun e w' => RmE v m L w e w' := by
  obtain ⟨a, rfl, h1, rfl⟩ := isR_yes hi
  rw [symI_at] at hL
  subst hL hm
  refine (rget_yes h1 w).mono ?_
  rintro e w' ⟨A, c, rfl, hb, hs, hn⟩
  exact ⟨A, c, rfl, hb, hs, hn⟩
theorem Iy.stuck {w : World} {N : Nat} {out : List Sq} {Z : List Int} {f : Bool} {F S : List Sq} {x : Int} {R : List Int} {v4 vo : Value} {wr : World} (h : Iy w N out Z f F S (x :: R) v4 vo wr) (hs : S = [] ∨ ∃ t S', S = t :: S' ∧ t.k = 1 ∧ isR t.n x = false) : (f && Z.isEmpty) = false := by
  obtain ⟨o', hd, he⟩ := h.der
  rcases hs with rfl | ⟨t, S', rfl, hk, hi⟩
  · cases hd; rfl
  · cases hd with
    | put h1 _ => exact absurd hk h1
    | var _ h1 _ => rw [hi] at h1; cases h1
    | stop _ _ => rfl
set_option maxHeartbeats 8000000 in
theorem rfull_any {w : World} {A : Option Addr} {n m c : Nat} {R : List Int} {X : List Sq} {is : Bool} (hf : Ful R X is) (hm : X.length = m) (hl : R.length = n) (hn : n ≤ 1000) (hA : Ri w A R) :
    Calls Tryz.prog 29 #[.slice A n c] w fun e w' => FuE is m X w e w' := by
  obtain ⟨out, Z, f, hd, h1, h2⟩ := hf
  have hI := Iy.start (w := w) hd
  rw [hl] at hI
  have HI := Lib.hid hI
  have HNo := Lib.hid (fun (w' : World) (h : (f && Z.isEmpty) = false) (hb : Below w.heap.size w w') => fu_no h1 h2 hm h hb)
  have H1 := Lib.hid h1
  have H2 := Lib.hid h2
  have HM := Lib.hid hm
  have HL := Lib.hid hl
  have HA := Lib.hid hA
  clear hd h1 h2 hm hl hA hI
  go_enter Tryz.func29, Tryz.ntmps29
  go_wp2_with fail
  go_loopw [4, 5, 6] (fun v4 v5 i wr => ∃ (k : Nat) (F S : List Sq), i = .int .i64 k ∧ k ≤ n ∧ Hid (Iy w n out Z f F S (R.drop k) v4 v5 wr)) (fun _ _ i _ => n - (intOf i).toNat)
  case atStart => exact ⟨0, [], _, rfl, Nat.zero_le _, by rw [List.drop_zero]; exact HI⟩
  case round =>
    obtain ⟨k, F, S, rfl, hk, hI⟩ := hrel
    clear HI
    by_cases hlt : k < n
    · obtain ⟨x, hx⟩ : ∃ x, R[k]? = some x := ⟨_, List.getElem?_eq_getElem (by rw [HL.out]; exact hlt)⟩
      obtain ⟨b, o, rfl, c0⟩ := HA.out k x hx
      have hdrop : R.drop k = x :: R.drop (k + 1) := by
        obtain ⟨h1, h2⟩ := List.getElem?_eq_some_iff.1 hx
        rw [List.drop_eq_getElem_cons h1, h2]
      rw [hdrop] at hI
      obtain ⟨R2, hR2⟩ : ∃ R2, R.drop (k + 1) = R2 := ⟨_, rfl⟩
      rw [hR2] at hI
      have HR2 := Lib.hid hR2
      have HC0 := Lib.hid c0
      have q1 : (k : Int) < (n : Int) := by omega
      clear hx hdrop hR2 c0
      go_wp2_with fail
      go_loopw [4, 5] (fun v4 v5 wr => ∃ F S : List Sq, Hid (Iy w n out Z f F S (x :: R2) v4 v5 wr)) (fun v4 _ _ => slen v4)
      case atStart => exact ⟨F, S, hI⟩
      case round =>
        clear hI
        obtain ⟨F3, S3, hI3⟩ := hrel
        obtain ⟨A4, n4, c4, rfl, hlf⟩ := hI3.out.lf
        obtain ⟨B5, m5, d5, rfl⟩ := own_sl hI3.out.own
        cases S3 with
        | nil =>
          obtain rfl : n4 = 0 := hlf.len.symm
          obtain ⟨L, hL⟩ : ∃ L, symI x = L := ⟨_, rfl⟩
          obtain ⟨nn, hnn⟩ : ∃ n, L.length = n := ⟨_, rfl⟩
          obtain ⟨vv, hv⟩ : ∃ v, varI x = v := ⟨_, rfl⟩
          obtain ⟨bb, hbb⟩ : ∃ v, isI x = v := ⟨_, rfl⟩
          have r1 := rgetp_any x hL hnn hv hbb wr
          have c1 := bel_cell hI3.out.bel HC0.out
          have HF := Lib.hid (hI3.out.stuck (.inl rfl))
          have HB := Lib.hid hI3.out.bel
          clear hI3 hlf hL hnn hv hbb
          cases bb
          all_goals
            go_wp2_with fail
            ((with_reducible refine r1.mono ?_))
            rintro e w3 ⟨B, d, rfl, hb3, hs3⟩
            have HB3 := Lib.hid (bel_alloc (bel_trans HB.out hb3) (.cells #[.int .i64 vv, .slice B nn d] 78))
            clear hb3 hs3 r1 c1
            go_wp2_with fail
            go_quiet (fail)
            go_wp2_with fail
            go_ret2
            exact HNo.out _ HF.out (below_drewN HB3.out _)
        | cons t S3 =>
          obtain ⟨N4, rfl⟩ : ∃ N4, n4 = N4 + 1 := ⟨S3.length, by have := hlf.len; rw [List.length_cons] at this; omega⟩
          obtain ⟨b4, o4, rfl, d0, d1⟩ := hlf.sr 0 t rfl
          rw [Nat.zero_mul, Nat.add_zero] at d0 d1
          have q2 : (0 : Int) < (N4 : Int) + 1 := by omega
          by_cases hk1 : t.k = 1
          · obtain ⟨tk, tn⟩ := t
            change tk = 1 at hk1
            subst hk1
            have c1 := bel_cell hI3.out.bel HC0.out
            have q3 : ((N4 : Int) + 1 == 0) = false := by simp; omega
            cases hi : isR tn x
            · obtain ⟨L, hL⟩ : ∃ L, symI x = L := ⟨_, rfl⟩
              obtain ⟨nn, hnn⟩ : ∃ n, L.length = n := ⟨_, rfl⟩
              obtain ⟨vv, hv⟩ : ∃ v, varI x = v := ⟨_, rfl⟩
              obtain ⟨bb, hbb⟩ : ∃ v, isI x = v := ⟨_, rfl⟩
              have r1 := rgetp_any x hL hnn hv hbb wr
              have HF := Lib.hid (hI3.out.stuck (.inr ⟨⟨1, tn⟩, S3, rfl, rfl, hi⟩))
              have HB := Lib.hid hI3.out.bel
              rw [isR_eq, hv, hbb] at hi
              clear hI3 hlf hL hnn hv hbb
              cases bb
              · clear hi
                go_wp2_with fail
                ((with_reducible refine r1.mono ?_))
                rintro e w3 ⟨B, d, rfl, hb3, hs3⟩
                have HB3 := Lib.hid (bel_alloc (bel_trans HB.out hb3) (.cells #[.int .i64 vv, .slice B nn d] 78))
                clear hb3 hs3 r1 c1 d0 d1
                go_wp2_with fail
                go_quiet (fail)
                go_wp2_with fail
                go_ret2
                exact HNo.out _ HF.out (below_drewN HB3.out _)
              · have q4 : (tn != vv) = true := by
                  rw [Bool.true_and] at hi
                  have h9 : vv ≠ tn := by simpa using hi
                  simpa using Ne.symm h9
                clear hi
                go_wp2_with fail
                ((with_reducible refine r1.mono ?_))
                rintro e w3 ⟨B, d, rfl, hb3, hs3⟩
                have HB3 := Lib.hid (bel_alloc (bel_trans HB.out hb3) (.cells #[.int .i64 vv, .slice B nn d] 78))
                have e1 := bel_cell hb3 d1
                have l1 := World.block_lt_of_cell? _ _ e1
                clear hb3 hs3 r1 c1 d0 d1
                go_wp2_with fail
                go_quiet (fail)
                go_wp2_with fail
                go_ret2
                exact HNo.out _ HF.out (below_drewN HB3.out _)
            · obtain ⟨L, hL⟩ : ∃ L, symI x = L := ⟨_, rfl⟩
              obtain ⟨nn, hnn⟩ : ∃ n, L.length = n := ⟨_, rfl⟩
              have r1 := rget_m hi hL hnn wr
              have hn10 : nn ≤ 10 := by rw [← hnn, ← hL]; exact tlI_len x
              have q4 : (tn != tn) = false := by simp
              have q6 : (1 : Int) ≤ (N4 : Int) + 1 := by omega
              have HI2 := Lib.hid hi
              have HL2 := Lib.hid hL
              have HNN := Lib.hid hnn
              have hN4 : N4 ≤ 10001 := by have h1 := hI3.out.len; have h2 := hlf.len; rw [h2] at h1; omega
              have hSL : S3.length = N4 := by have h2 := hlf.len; rw [List.length_cons] at h2; omega
              have HSL := Lib.hid hSL
              have hcc := cap_or N4 c4 hlf.cap
              clear hi hL hnn hSL
              rcases hcc with ⟨rfl, rfl⟩ | ⟨c', rfl⟩
              all_goals
                have hl2 := by first | exact hlf.next1 | exact hlf.next2
                have HLF := Lib.hid hl2
                clear hl2 hlf
                go_wp2_with fail
                ((with_reducible refine r1.mono ?_))
                rintro e w3 ⟨B, d, rfl, hb3, hs3, hn3⟩
                have HB3 := Lib.hid hb3
                have HS3 := Lib.hid hs3
                have HN3 := Lib.hid hn3
                have e1 := bel_cell hb3 d1
                have l1 := World.block_lt_of_cell? _ _ e1
                clear hb3 hs3 hn3 r1 c1 d0 d1
                go_wp2_with fail
                go_quiet (fail)
                have x1 : ((w3.alloc (.cells #[.int .i64 tn, .slice B nn d] 78)).drewN nq).cell? ⟨w3.heap.size, 1, none⟩ = some (.slice B nn d) := by simp [go_sem]
                have b4 : Below w3.heap.size w3 ((w3.alloc (.cells #[.int .i64 tn, .slice B nn d] 78)).drewN nq) := below_drewN (bel_alloc (Below.refl _ _) _) _
                generalize (w3.alloc (.cells #[.int .i64 tn, .slice B nn d] 78)).drewN nq = W4 at x1 b4 ⊢
                have lx := World.block_lt_of_cell? _ _ x1
                have b45 := bel_trans b4 (Below.refl _ W4).drew
                have HB4 := Lib.hid (bel_trans HB3.out b4)
                have HS5 := Lib.hid (HS3.out.below b45)
                have HLF5 := Lib.hid (HLF.out.below (bel_trans HB3.out b45))
                clear b4 b45 HS3 HLF
                go_wp2_with fail
                go_region_law (first
                  | (refine step_app_syms (by rfl) _ _ (by rfl) W4.heap.size (.slice none 0 0) 0 [] (by rfl) (World.ownsRow_nil _ _ _ _) (by rfl) HS5.out HNN.out HN3.out (by omega) (Nat.le_refl _) ?_; intro v5 w5 ho5 hg5
                     have b5 : Below W4.heap.size W4 w5 := (Below.refl _ _).drew.grown hg5 (Nat.le_refl _) (fun k hk => by cases hk)
                     have b5' : Below W4.drew.heap.size W4.drew w5 := (Below.refl _ _).grown hg5 (Nat.le_refl _) (fun k hk => by cases hk)
                     have hz5 := b5.size
                     have HB5 := Lib.hid b5
                     have HLF6 := Lib.hid (HLF5.out.below b5')
                     have HO5 := Lib.hid (show w5.ownsRow W4.heap.size 59 2 v5 nn (cly L) by simpa using ho5)
                     clear ho5 hg5 b5 b5')
                  | (refine step_app_syms (by rfl) _ _ (by rfl) W4.heap.size v5 nn L (by rfl) HO5.out (by rfl) HLF6.out.sr HLF6.out.len HLF6.out.nil (by omega) hz5 ?_; intro v6 w6 ho6 hg6
                     have HB6 := Lib.hid (HB5.out.grown hg6 hz5 (fun k hk => (HO5.out.lt k hk).1))
                     have HO6 := Lib.hid ho6
                     clear ho6 hg6))
                all_goals
                  have HI6 := Lib.hid (hI3.out.next rfl HI2.out HL2.out HB4.out HB6.out HO6.out (by rw [List.length_append, HNN.out, HSL.out]))
                  go_wp2_with fail
                  go_roundw
                  case rel => exact ⟨k + 1, _, _, by go_num, by omega, by rw [HR2.out]; exact HI6⟩
                  case measure => simp [intOf]; omega
          · have k1 : (t.k != 1) = true := by simpa using hk1
            have hlF : F3.length ≤ 10001 := by have := hI3.out.len; omega
            have HK1 := Lib.hid hk1
            have hcc := cap_or N4 c4 hlf.cap
            have hz := (bel_alloc hI3.out.bel (.cells #[.int .i64 t.k, .int .i64 t.n] 59)).size
            have HO := Lib.hid (hI3.out.own.alloc (.cells #[.int .i64 t.k, .int .i64 t.n] 59))
            clear hk1
            rcases hcc with ⟨rfl, rfl⟩ | ⟨c', rfl⟩
            all_goals
              have hl2 := by first | exact hlf.next1 | exact hlf.next2
              have HL2 := Lib.hid hl2
              clear hl2 hlf
              go_wp2_with (at_builtin; refine app_sym_at rfl _ _ rfl w.heap.size _ _ F3 rfl HO.out (ad := ⟨wr.heap.size, 0, none⟩) (c := 1) (t := t) (by simp [go_sem]) (sr_one (k := t.k) (n := t.n) (heap_alloc_new wr _)) (by omega) hz ?_)
              intro v' w3 ho hg
              have HI4 := Lib.hid (hI3.out.put HK1.out HL2.out _ hg ho)
              clear ho hg d0 d1
              go_wp2_with fail
              go_roundw
              case rel => exact ⟨_, _, HI4⟩
              case measure => simp [slen]
    · obtain rfl : k = n := by omega
      have h0 : R.drop k = [] := List.drop_eq_nil_of_le (by rw [HL.out]; exact Nat.le_refl _)
      rw [h0] at hI
      obtain ⟨A4, n4, c4, rfl, hlf⟩ := hI.out.lf
      obtain ⟨B5, m5, d5, rfl⟩ := own_sl hI.out.own
      obtain ⟨o', hd, ho'⟩ := hI.out.der
      have hn4 := hlf.len
      have hF := hI.out.len
      rw [List.length_nil] at hF
      have HD := Lib.hid hd
      have HO := Lib.hid ho'
      have HB := Lib.hid hI.out.bel
      have HLF := Lib.hid hlf
      have HN4 := Lib.hid hn4
      have hzz := hI.out.bel.size
      have HOW := Lib.hid hI.out.own
      clear hI hd ho' hlf h0
      go_wp2_with fail
      go_loopw [9] (fun q w2 => ∃ j : Nat, q = .int .i64 j ∧ j ≤ n4 ∧ wr = w2 ∧ Hid (∃ o, Der (S.drop j) [] o Z f ∧ F ++ (S.take j ++ o) = out)) (fun q _ => n4 - (intOf q).toNat)
      case atStart => exact ⟨0, rfl, Nat.zero_le _, rfl, Lib.hid ⟨o', by rw [List.drop_zero]; exact HD.out, by rw [List.take_zero, List.nil_append]; exact HO.out⟩⟩
      case round =>
        obtain ⟨j, rfl, hj, rfl, hR⟩ := hrel
        obtain ⟨o2, hd2, ho2⟩ := hR.out
        by_cases hjn : j < n4
        · obtain ⟨t, ht⟩ : ∃ t, S[j]? = some t := ⟨_, List.getElem?_eq_getElem (by rw [HN4.out]; exact hjn)⟩
          obtain ⟨b4, o4, rfl, d0, d1⟩ := HLF.out.sr j t ht
          have hdr : S.drop j = t :: S.drop (j + 1) := by
            obtain ⟨h1, h2⟩ := List.getElem?_eq_some_iff.1 ht
            rw [List.drop_eq_getElem_cons h1, h2]
          have htk : S.take (j + 1) = S.take j ++ [t] := by rw [List.take_add_one, ht]; rfl
          have q1 : (j : Int) < (n4 : Int) := by omega
          rw [hdr] at hd2
          by_cases hk1 : t.k = 1
          · have k1 : (t.k == 1) = true := by simpa using hk1
            have hf : f = false := by
              cases hd2 with
              | put h1 _ => exact absurd hk1 h1
              | none _ => rfl
            have HF := Lib.hid (show (f && Z.isEmpty) = false by rw [hf]; rfl)
            clear hR hd2 ho2 ht hdr htk hk1 hf
            go_wp2_with fail
            go_ret2
            exact HNo.out _ HF.out HB.out
          · have k1 : (t.k == 1) = false := by simpa using hk1
            obtain ⟨o3, hd3, ho3⟩ : ∃ o3, Der (S.drop (j + 1)) [] o3 Z f ∧ o2 = t :: o3 := by
              cases hd2 with
              | put _ d => exact ⟨_, d, rfl⟩
              | none h1 => exact absurd h1 hk1
            have HR3 := Lib.hid (show ∃ o, Der (S.drop (j + 1)) [] o Z f ∧ F ++ (S.take (j + 1) ++ o) = out from ⟨o3, hd3, by rw [htk, ← ho2, ho3, List.append_assoc]; rfl⟩)
            clear hR hd2 ho2 ht hdr htk hk1 hd3 ho3
            go_wp2_with fail
            go_roundw
            case rel => exact ⟨j + 1, by go_num, by omega, trivial, HR3⟩
            case measure => simp [intOf]; omega
        · obtain rfl : j = n4 := by omega
          rw [List.drop_eq_nil_of_le (by rw [HN4.out]; exact Nat.le_refl _)] at hd2
          obtain ⟨rfl, rfl, rfl⟩ : o2 = [] ∧ Z = [] ∧ f = true := by cases hd2; exact ⟨rfl, rfl, rfl⟩
          rw [List.append_nil, List.take_of_length_le (by rw [HN4.out]; exact Nat.le_refl _)] at ho2
          have HO2 := Lib.hid ho2
          clear hR hd2 ho2
          go_wp2_with (at_builtin; refine app_syms rfl _ _ rfl w.heap.size _ _ F rfl HOW.out (A := A4) (m := j) (c := c4) (ts := S) rfl HLF.out.sr HN4.out HLF.out.nil (by omega) hzz ?_)
          intro v' w3 ho hg
          have hB3 := HB.out.grown hg hzz (fun k hk => (HOW.out.lt k hk).1)
          have ho3 : w3.ownsRow w.heap.size 59 2 v' (F ++ S).length (cly (F ++ S)) := by rw [List.length_append, HN4.out]; exact ho
          obtain ⟨A6, n6, c6, rfl⟩ := own_sl ho3
          obtain ⟨e1, e2, e3⟩ := sr_row ho3
          have HB3 := Lib.hid hB3
          have HS3 := Lib.hid e2
          have HN3 := Lib.hid e3
          have hfin : is = true ∧ X = F ++ S ∧ n6 = m := by
            have h1 := H1.out
            have h1 : is = true := h1
            subst h1
            have h2 := H2.out
            rw [if_pos rfl] at h2
            refine ⟨rfl, by rw [h2, HO2.out], ?_⟩
            rw [e1, ← HM.out, h2, HO2.out]
          obtain ⟨rfl, hX, rfl⟩ := hfin
          have HX := Lib.hid hX
          clear ho hg hB3 ho3 e1 e2 e3 hX
          go_wp2_with fail
          go_ret2
          exact ⟨A6, c6, rfl, HB3.out, by rw [HX.out]; exact HS3.out, HN3.out⟩
end Go.Proofs.YtpcijjdlppoblaaGreatDoor

/- The reference (copperplateref14): Yield, Derives. -/
namespace Go.Proofs.YtpcijjdlppoblaaGreatDoor
open Go.RowKit
set_option linter.unusedVariables false
set_option maxRecDepth 100000

/-- The reference's Plain, its answer's length under a name of its own. -/
theorem rplain_n {w : World} {A : Option Addr} {n m c : Nat} {ts L : List Sq} (hL : plS ts = L) (hm : L.length = m) (ha : Sr w A ts) (hn : ts.length = n) (hz : n ≤ 1000000) :
    Calls Tryz.prog 63 #[.slice A n c] w fun e w' => PnE m L w e w' := by
  exact (rplain_lies hL hm ha hn hz).mono (by rintro e w' ⟨A, c, rfl, hb, hs, h0, -⟩; exact ⟨A, c, rfl, hb, hs, h0⟩)
set_option maxHeartbeats 1000000 in
theorem ryield_any {w : World} {A : Option Addr} {n m c : Nat} {R : List Int} {X Y : List Sq} {is : Bool} (hf : Ful R X is) (hY : plS X = Y) (hm : Y.length = m) (hl : R.length = n) (hn : n ≤ 1000) (hA : Ri w A R) :
    Calls Tryz.prog 42 #[.slice A n c] w fun e w' => YiE is m Y w e w' := by
  obtain ⟨k, hk⟩ : ∃ k, X.length = k := ⟨_, rfl⟩
  have hk2 : k ≤ 10001 := by have := ful_len hf; omega
  have r1 := rfull_any (c := c) hf hk hl hn hA
  have r2 := fun {w A c} h => rplain_n (w := w) (A := A) (c := c) hY hm h hk (by omega)
  cases is
  · have hX := hf.no
    subst hX
    obtain rfl : Y = [] := hY.symm
    obtain rfl : m = 0 := hm.symm
    clear hf hY hm hl hA hk
    go_enter Tryz.func42, Tryz.ntmps42
    go_wp2_with fail
    ((with_reducible refine r1.mono ?_))
    rintro e w1 ⟨B, d, rfl, hb1, hs1, -⟩
    have HB1 := Lib.hid hb1
    clear hb1 hs1 r1 r2
    go_wp2_with fail
    go_ret2
    exact ⟨none, 0, rfl, HB1.out, Sr.nil _ _, fun _ => ⟨rfl, rfl⟩⟩
  · clear hf hY hm hl hA hk
    go_enter Tryz.func42, Tryz.ntmps42
    go_wp2_with fail
    ((with_reducible refine r1.mono ?_))
    rintro e w1 ⟨B, d, rfl, hb1, hs1, -⟩
    have HB1 := Lib.hid hb1
    have r3 := r2 (c := d) hs1
    clear hb1 hs1 r1
    go_wp2_with fail
    ((with_reducible refine r3.mono ?_))
    rintro e w2 ⟨B2, d2, rfl, hb2, hs2, hn2⟩
    have HB2 := Lib.hid (bel_trans HB1.out hb2)
    have HS2 := Lib.hid hs2
    have HN2 := Lib.hid hn2
    clear hb2 hs2 hn2 r3
    go_wp2_with fail
    go_ret2
    exact ⟨B2, d2, rfl, HB2.out, HS2.out, HN2.out⟩
set_option maxHeartbeats 1000000 in
theorem rderives_any {w : World} {A A2 : Option Addr} {n c n2 c2 : Nat} {R L : List Int} {X : List Sq} {is r : Bool} (hf : Ful R X is) (hr : derB is X L = r) (hl : R.length = n) (hn : n ≤ 1000) (hA : Ri w A R) (hl2 : L.length = n2) (hn2 : n2 ≤ 1000) (hA2 : Ri w A2 L) :
    Calls Tryz.prog 27 #[.slice A n c, .slice A2 n2 c2] w fun e w' => e = .returned (.bool r) ∧ Below w.heap.size w w' := by
  obtain ⟨Y, hY⟩ : ∃ Y, plS X = Y := ⟨_, rfl⟩
  obtain ⟨m, hm⟩ : ∃ m, Y.length = m := ⟨_, rfl⟩
  have r1 := ryield_any (c := c) hf hY hm hl hn hA
  have hm2 : m ≤ 10001 := by have h1 := ful_len hf; have h2 := plS_le X; rw [hY] at h2; omega
  rw [derB, hY] at hr
  have HA2 := Lib.hid hA2
  clear hf hY hl hn hA hA2
  cases is
  · have hr : false = r := hr
    subst hr
    clear hm hl2 hm2
    go_enter Tryz.func27, Tryz.ntmps27
    go_wp2_with fail
    ((with_reducible refine r1.mono ?_))
    rintro e w1 ⟨B, d, rfl, hb1, hs1, -⟩
    have HB1 := Lib.hid hb1
    clear hb1 hs1 r1
    go_wp2_with fail
    go_ret
    exact ⟨rfl, HB1.out⟩
  · by_cases hmn : m = n2
    · subst hmn
      have q1 : ((m : Int) != (m : Int)) = false := by simp
      rw [Bool.true_and, hm, hl2, decide_eq_true rfl, Bool.true_and] at hr
      have HR := Lib.hid hr
      have HM := Lib.hid hm
      have HL := Lib.hid hl2
      clear hr hm hl2
      go_enter Tryz.func27, Tryz.ntmps27
      go_wp2_with fail
      ((with_reducible refine r1.mono ?_))
      rintro e w1 ⟨B, d, rfl, hb1, hs1, -⟩
      have HB1 := Lib.hid hb1
      have HS1 := Lib.hid hs1
      clear hb1 hs1 r1
      go_wp2_with fail
      go_loopw [7] (fun q wr => ∃ k : Nat, q = .int .i64 k ∧ k ≤ m ∧ Hid (fitA (hdL L) k (Y.drop k) = r) ∧ Below w1.heap.size w1 wr) (fun q _ => m - (intOf q).toNat)
      case atStart => exact ⟨0, rfl, Nat.zero_le _, by rw [List.drop_zero]; exact HR, Below.refl _ _⟩
      case round =>
        obtain ⟨k, rfl, hk, hg, hB⟩ := hrel
        by_cases hlt : k < m
        · obtain ⟨t, htt⟩ : ∃ t, Y[k]? = some t := ⟨_, List.getElem?_eq_getElem (by rw [HM.out]; exact hlt)⟩
          obtain ⟨x, hx⟩ : ∃ x, L[k]? = some x := ⟨_, List.getElem?_eq_getElem (by rw [HL.out]; exact hlt)⟩
          obtain ⟨b, o, rfl, c0, c1⟩ := (HS1.out.below hB) k t htt
          have hbw := bel_trans HB1.out hB
          obtain ⟨b2, o2, rfl, e0⟩ := (HA2.out.below hbw) k x hx
          have hg' := hg.out
          rw [fitA_drop htt, hdL_some hx] at hg'
          have q2 : (k : Int) < (m : Int) := by omega
          obtain ⟨y, hy⟩ : ∃ y, fitK x t = y := ⟨_, rfl⟩
          rw [hy] at hg'
          have r2 := rfits_any (t := t) hy wr.drew
          have HB3 := Lib.hid (bel_trans hbw (Below.refl _ wr).drew)
          have HBB3 := Lib.hid (bel_trans hB (Below.refl _ wr).drew)
          clear htt hx hg hbw hy hB
          cases y
          · have hr2 : false = r := hg'
            subst hr2
            clear hg'
            go_wp2_with fail
            go_still_tail 8, (by kernel_rfl)
            change wpList _ _ _ _ _ wr.drew
            go_wp2_with fail
            ((with_reducible refine r2.mono ?_))
            rintro e w3 ⟨rfl, hb4⟩
            have HB4 := Lib.hid (bel_trans HB3.out hb4)
            clear hb4 r2
            go_wp2_with fail
            go_ret
            exact ⟨rfl, HB4.out⟩
          · have HG := Lib.hid (show fitA (hdL L) (k + 1) (Y.drop (k + 1)) = r from hg')
            clear hg'
            go_wp2_with fail
            go_still_tail 8, (by kernel_rfl)
            change wpList _ _ _ _ _ wr.drew
            go_wp2_with fail
            ((with_reducible refine r2.mono ?_))
            rintro e w3 ⟨rfl, hb4⟩
            have HB4 := Lib.hid (bel_trans HBB3.out hb4)
            clear hb4 r2
            go_wp2_with fail
            go_roundw
            case rel => exact ⟨k + 1, by go_num, by omega, HG, HB4.out⟩
            case measure => simp [intOf]; omega
        · obtain rfl : k = m := by omega
          have hg' := hg.out
          rw [List.drop_eq_nil_of_le (by rw [HM.out]; exact Nat.le_refl _), fitA] at hg'
          subst hg'
          have HB3 := Lib.hid (bel_trans HB1.out hB)
          clear hg hB
          go_wp2_with fail
          go_ret
          exact ⟨rfl, HB3.out⟩
    · have q1 : ((m : Int) != (n2 : Int)) = true := by simp; omega
      rw [Bool.true_and, hm, hl2, decide_eq_false hmn, Bool.false_and] at hr
      subst hr
      clear hm hl2 hmn
      go_enter Tryz.func27, Tryz.ntmps27
      go_wp2_with fail
      ((with_reducible refine r1.mono ?_))
      rintro e w1 ⟨B, d, rfl, hb1, hs1, -⟩
      have HB1 := Lib.hid hb1
      clear hb1 hs1 r1
      go_wp2_with fail
      go_ret
      exact ⟨rfl, HB1.out⟩
end Go.Proofs.YtpcijjdlppoblaaGreatDoor
