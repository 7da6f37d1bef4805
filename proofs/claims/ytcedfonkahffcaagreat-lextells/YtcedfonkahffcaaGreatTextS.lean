/- The document's own answers for layer 6 (copperplateref06): contracts of Escape and String; the law TextTells: its walk. -/
import Derived.Test.YtcedfonkahffcaaGreatTextR
namespace Go.Proofs.YtcedfonkahffcaaGreat
open Go.RowKit
set_option linter.unusedVariables false
attribute [local go_sem] conv1

/-- An answer of Escape. -/
def escT (o : Option (List UInt8 × Nat)) (i : Int) : Ending :=
  match o with
  | some (t, m) => .returned (.tuple #[.string (mkb t), .int .i64 (i + (m : Int)), .bool true])
  | none => .returned (.tuple #[.string ⟨#[]⟩, .int .i64 i, .bool false])
theorem esc_byte {X : ByteArray} {t : List UInt8} {i : Int} (h : X = mkb t) : Ending.returned (.tuple #[.string X, .int .i64 (i + 2), .bool true]) = escT (some (t, 2)) i := by rw [h]; rfl
theorem cod_at {s : ByteArray} {j : Nat} (h : j + 1 < s.size) : cod (s.data.toList.drop j) = if s[j] = 92 ∧ s[j + 1] = 117 then hx4 (s.data.toList.drop (j + 2)) else none := by
  have hsz : s.data.toList.length = s.size := (Lib.size_eq s).symm
  rw [List.drop_eq_getElem_cons (by omega), List.drop_eq_getElem_cons (i := j + 1) (by omega)]
  rfl
theorem cod_hex {l : List UInt8} {j : Nat} (h : hx4 (l.drop (j + 2)) = none) : cod (l.drop j) = none := by
  cases e : cod (l.drop j) with
  | none => rfl
  | some m =>
    obtain ⟨t, ht, h2⟩ := cod_some e
    have : l.drop (j + 2) = t := by rw [← List.drop_drop, ht]; rfl
    rw [this, h2] at h; cases h
theorem head_of {s : ByteArray} {k : Nat} {c : UInt8} (h : k < s.size) (e : (s[k]).toNat = c.toNat) : (s.data.toList.drop k).head? = some c := by
  rw [← stI_head, stI_in h]; simp [e]
theorem head_not {s : ByteArray} {k : Nat} {c : UInt8} (h : k < s.size) (e : (s[k]).toNat ≠ c.toNat) : (s.data.toList.drop k).head? ≠ some c := by
  rw [Ne, ← stI_head, stI_in h]; simp; omega

set_option maxHeartbeats 2000000 in
set_option maxRecDepth 100000 in
theorem rescape_any (s : ByteArray) (i : Int) (w : World) (hs : s.size ≤ 1000000) (hi0 : -9223372036854775808 ≤ i) :
    Calls Tryz.prog 68 #[.string s, .int .i64 i] w fun e w' => e = escT (escA s.data.toList i) i ∧ Below w.heap.size w w' := by
  have hsz : s.data.toList.length = s.size := (Lib.size_eq s).symm
  by_cases h0 : i < 0
  · rw [escA_neg h0]
    clear hsz
    go_enter Tryz.func68, Tryz.ntmps68
    go_wp2_with fail
    go_ret3
    exact ⟨rfl, Below.refl _ _⟩
  obtain ⟨k, rfl⟩ := Int.eq_ofNat_of_zero_le (show 0 ≤ i by omega)
  by_cases h1 : (s.size : Int) - 1 ≤ (k : Int)
  · have e : escA s.data.toList k = none := by
      rw [escA_nat]
      cases e : s.data.toList.drop k with
      | nil => rfl
      | cons a t =>
        cases t with
        | nil => rfl
        | cons b t =>
          have := congrArg List.length e
          simp only [List.length_drop, List.length_cons] at this
          omega
    rw [e]
    clear hsz e h0
    go_enter Tryz.func68, Tryz.ntmps68
    go_wp2_with fail
    go_ret3
    exact ⟨rfl, Below.refl _ _⟩
  have h2 : k + 1 < s.size := by omega
  have h3 : k < s.size := by omega
  by_cases x92 : (s[k]).toNat = 92
  rotate_left
  · have e : escA s.data.toList k = none := by rw [escA_nat]; exact esc_no (head_not (c := 92) h3 x92)
    rw [e]
    have t92 : (((s[k]).toNat : Int) != 92) = true := bne_iff_ne.2 (by omega)
    clear hsz e h0 x92
    go_enter Tryz.func68, Tryz.ntmps68
    go_wp2_with fail
    go_ret3
    exact ⟨rfl, Below.refl _ _⟩
  have t92 : (((s[k]).toNat : Int) != 92) = false := by rw [x92]; rfl
  have hh := head_of (c := 92) h3 x92
  have d2 := drop_two hh h2
  clear x92 hh h0
  cases hsh : shB s[k + 1] with
  | some b =>
    have r1 := short_y hsh
    have e : escA s.data.toList k = some ([b], 2) := by
      rw [escA_nat, d2, esc_sh (fun h => by rw [h] at hsh; cases hsh), hsh]; rfl
    have bb : b.toNat < 256 := UInt8.toNat_lt b
    have e2 : IntKind.u8.wrap ((b.toNat : Nat) : Int) = ((b.toNat : Nat) : Int) := by unfold IntKind.wrap; simp [IntKind.bits, IntKind.signed]; omega
    have e3 : (⟨#[UInt8.ofNat b.toNat]⟩ : ByteArray) = mkb [b] := by simp [mkb]
    rw [e]
    have E3 := Lib.hid e3
    clear hsz e d2 hsh e3
    go_enter Tryz.func68, Tryz.ntmps68
    go_wp2_with fail
    (with_reducible refine (r1 _).mono ?_)
    rintro e w' ⟨rfl, rfl⟩
    go_wp2_with fail
    go_ret3
    exact ⟨esc_byte (by first | exact E3.out | (simp [mkb]; done)), (Below.refl _ _).alloc (Nat.le_refl _) _⟩
  | none =>
    have r1 := short_n hsh
    have ek2 : ((k : Int) + 2) = ((k + 2 : Nat) : Int) := by omega
    by_cases x117 : (s[k + 1]).toNat = 117
    rotate_left
    · have e : escA s.data.toList k = none := by
        rw [escA_nat, d2, esc_sh (fun h => x117 (by rw [h]; rfl)), hsh]; rfl
      obtain ⟨N, B, r2⟩ := rhex_o s ((k : Int) + 2) hs
      have t117 : (((s[k + 1]).toNat : Int) != 117) = true := bne_iff_ne.2 (by omega)
      rw [e]
      clear hsz e d2 hsh x117 ek2
      go_enter Tryz.func68, Tryz.ntmps68
      go_wp2_with fail
      (with_reducible refine (r1 _).mono ?_)
      rintro e w' ⟨rfl, rfl⟩
      go_wp2_with fail
      (with_reducible refine (r2 _).mono ?_)
      rintro e w' ⟨rfl, rfl⟩
      go_wp2_with fail
      go_ret3
      exact ⟨rfl, Below.refl _ _⟩
    have t117 : (((s[k + 1]).toNat : Int) != 117) = false := by rw [x117]; rfl
    have ec : s[k + 1] = 117 := byte_of x117
    rw [ec] at d2
    have eu : escA s.data.toList k = uni (s.data.toList.drop k) := by rw [escA_nat, d2, esc_uni]
    have e1 : cod (s.data.toList.drop k) = hx4 (s.data.toList.drop (k + 2)) := by rw [d2, cod_of]
    have e6 : (s.data.toList.drop k).drop 6 = s.data.toList.drop (k + 6) := by rw [List.drop_drop]
    have eh : hexA s.data.toList ((k : Int) + 2) = hx4 (s.data.toList.drop (k + 2)) := by rw [ek2, hexA_nat]
    rw [eu]
    clear hsh x117 ec d2 eu ek2
    cases h4 : hx4 (s.data.toList.drop (k + 2)) with
    | none =>
      have r2 := rhex_n (eh.trans h4) hs
      rw [uni_n1 (e1.trans h4)]
      clear hsz e1 e6 eh h4
      go_enter Tryz.func68, Tryz.ntmps68
      go_wp2_with fail
      (with_reducible refine (r1 _).mono ?_)
      rintro e w' ⟨rfl, rfl⟩
      go_wp2_with fail
      (with_reducible refine (r2 _).mono ?_)
      rintro e w' ⟨rfl, rfl⟩
      go_wp2_with fail
      go_ret3
      exact ⟨rfl, Below.refl _ _⟩
    | some n =>
      have r2 := rhex_y (eh.trans h4) hs
      have hc := e1.trans h4
      have bn := hx4_lt h4
      obtain ⟨x, hx⟩ : ∃ x : Int, x = (n : Int) := ⟨_, rfl⟩
      have x0 : 0 ≤ x := by omega
      have x1 : x ≤ 65535 := by omega
      rw [← hx] at r2
      clear e1 eh h4
      by_cases n1 : n < 55296
      · have hl : loB n = false := by rw [loB_no]; omega
        have hh : hiB n = false := by rw [hiB_no]; omega
        rw [uni_one hc hl hh]
        have r3 := rput6_b bn hl hh
        have g1 : x < 55296 := by omega
        rw [← hx] at r3
        clear hsz hc hl hh e6 n1 bn hx
        go_enter Tryz.func68, Tryz.ntmps68
        go_wp2_with fail
        (with_reducible refine (r1 _).mono ?_)
        rintro e w' ⟨rfl, rfl⟩
        go_wp2_with fail
        (with_reducible refine (r2 _).mono ?_)
        rintro e w' ⟨rfl, rfl⟩
        go_wp2_with fail
        (with_reducible refine (r3 _).mono ?_)
        rintro e w1 ⟨rfl, hb1⟩
        go_wp2_with fail
        go_ret3
        exact ⟨rfl, hb1⟩
      by_cases n2 : 57343 < n
      · have hl : loB n = false := by rw [loB_no]; omega
        have hh : hiB n = false := by rw [hiB_no]; omega
        rw [uni_one hc hl hh]
        have r3 := rput6_b bn hl hh
        have g1 : ¬ x < 55296 := by omega
        have g2 : 57343 < x := by omega
        rw [← hx] at r3
        clear hsz hc hl hh e6 n1 n2 bn hx
        go_enter Tryz.func68, Tryz.ntmps68
        go_wp2_with fail
        (with_reducible refine (r1 _).mono ?_)
        rintro e w' ⟨rfl, rfl⟩
        go_wp2_with fail
        (with_reducible refine (r2 _).mono ?_)
        rintro e w' ⟨rfl, rfl⟩
        go_wp2_with fail
        (with_reducible refine (r3 _).mono ?_)
        rintro e w1 ⟨rfl, hb1⟩
        go_wp2_with fail
        go_ret3
        exact ⟨rfl, hb1⟩
      have g1 : ¬ x < 55296 := by omega
      have g2 : ¬ 57343 < x := by omega
      by_cases n3 : 56319 < n
      · have hl : loB n = true := by rw [loB_iff]; omega
        rw [uni_n2 hc hl]
        obtain ⟨N, B, r3⟩ := rhex_o s ((k : Int) + 8) hs
        have g3 : 56319 < x := by omega
        clear hsz hc hl e6 n1 n2 n3 bn hx
        go_enter Tryz.func68, Tryz.ntmps68
        go_wp2_with fail
        (with_reducible refine (r1 _).mono ?_)
        rintro e w' ⟨rfl, rfl⟩
        go_wp2_with fail
        (with_reducible refine (r2 _).mono ?_)
        rintro e w' ⟨rfl, rfl⟩
        go_wp2_with fail
        (with_reducible refine (r3 _).mono ?_)
        rintro e w' ⟨rfl, rfl⟩
        go_wp2_with fail
        go_ret3
        exact ⟨rfl, Below.refl _ _⟩
      have hh : hiB n = true := by rw [hiB_iff]; omega
      have g3 : ¬ 56319 < x := by omega
      have eh : hexA s.data.toList ((k : Int) + 8) = hx4 (s.data.toList.drop (k + 6 + 2)) := by
        have ek : ((k : Int) + 8) = ((k + 6 + 2 : Nat) : Int) := by omega
        rw [ek, hexA_nat]
      clear n1 n2 n3
      cases h5 : hx4 (s.data.toList.drop (k + 6 + 2)) with
      | none =>
        rw [uni_n3 hc hh (by rw [e6]; exact cod_hex h5)]
        have r3 := rhex_n (eh.trans h5) hs
        clear hsz hc hh e6 eh h5 bn hx
        go_enter Tryz.func68, Tryz.ntmps68
        go_wp2_with fail
        (with_reducible refine (r1 _).mono ?_)
        rintro e w' ⟨rfl, rfl⟩
        go_wp2_with fail
        (with_reducible refine (r2 _).mono ?_)
        rintro e w' ⟨rfl, rfl⟩
        go_wp2_with fail
        (with_reducible refine (r3 _).mono ?_)
        rintro e w' ⟨rfl, rfl⟩
        go_wp2_with fail
        go_ret3
        exact ⟨rfl, Below.refl _ _⟩
      | some m =>
        have r3 := rhex_y (eh.trans h5) hs
        have bm := hx4_lt h5
        obtain ⟨y, hy⟩ : ∃ y : Int, y = (m : Int) := ⟨_, rfl⟩
        have y0 : 0 ≤ y := by omega
        have y1 : y ≤ 65535 := by omega
        rw [← hy] at r3
        have hz := hx4_len h5
        rw [List.length_drop, hsz] at hz
        have z6 : k + 6 < s.size := by omega
        have z7 : k + 7 < s.size := by omega
        have ecd := cod_at (s := s) (j := k + 6) z7
        rw [h5] at ecd
        clear hz hsz eh h5
        by_cases y92 : (s[k + 6]).toNat = 92
        rotate_left
        · rw [uni_n3 hc hh (by rw [e6, ecd, if_neg (fun h => y92 (by rw [h.1]; rfl))])]
          have t1 : (((s[k + 6]).toNat : Int) != 92) = true := bne_iff_ne.2 (by omega)
          clear hc hh e6 ecd y92 bn bm hx hy
          go_enter Tryz.func68, Tryz.ntmps68
          go_wp2_with fail
          (with_reducible refine (r1 _).mono ?_)
          rintro e w' ⟨rfl, rfl⟩
          go_wp2_with fail
          (with_reducible refine (r2 _).mono ?_)
          rintro e w' ⟨rfl, rfl⟩
          go_wp2_with fail
          (with_reducible refine (r3 _).mono ?_)
          rintro e w' ⟨rfl, rfl⟩
          go_wp2_with fail
          go_ret3
          exact ⟨rfl, Below.refl _ _⟩
        have t1 : (((s[k + 6]).toNat : Int) != 92) = false := by rw [y92]; rfl
        by_cases y117 : (s[k + 7]).toNat = 117
        rotate_left
        · rw [uni_n3 hc hh (by rw [e6, ecd, if_neg (fun h => y117 (by rw [h.2]; rfl))])]
          have t2 : (((s[k + 7]).toNat : Int) != 117) = true := bne_iff_ne.2 (by omega)
          clear hc hh e6 ecd y92 y117 bn bm hx hy
          go_enter Tryz.func68, Tryz.ntmps68
          go_wp2_with fail
          (with_reducible refine (r1 _).mono ?_)
          rintro e w' ⟨rfl, rfl⟩
          go_wp2_with fail
          (with_reducible refine (r2 _).mono ?_)
          rintro e w' ⟨rfl, rfl⟩
          go_wp2_with fail
          (with_reducible refine (r3 _).mono ?_)
          rintro e w' ⟨rfl, rfl⟩
          go_wp2_with fail
          go_ret3
          exact ⟨rfl, Below.refl _ _⟩
        have t2 : (((s[k + 7]).toNat : Int) != 117) = false := by rw [y117]; rfl
        rw [if_pos ⟨byte_of y92, byte_of y117⟩] at ecd
        clear y92 y117
        by_cases m1 : m < 56320
        · rw [uni_n4 hc hh (by rw [e6]; exact ecd) (by rw [loB_no]; omega)]
          have g4 : y < 56320 := by omega
          clear hc hh e6 ecd m1 bn bm hx hy
          go_enter Tryz.func68, Tryz.ntmps68
          go_wp2_with fail
          (with_reducible refine (r1 _).mono ?_)
          rintro e w' ⟨rfl, rfl⟩
          go_wp2_with fail
          (with_reducible refine (r2 _).mono ?_)
          rintro e w' ⟨rfl, rfl⟩
          go_wp2_with fail
          (with_reducible refine (r3 _).mono ?_)
          rintro e w' ⟨rfl, rfl⟩
          go_wp2_with fail
          go_ret3
          exact ⟨rfl, Below.refl _ _⟩
        have g4 : ¬ y < 56320 := by omega
        by_cases m2 : 57343 < m
        · rw [uni_n4 hc hh (by rw [e6]; exact ecd) (by rw [loB_no]; omega)]
          have g5 : 57343 < y := by omega
          clear hc hh e6 ecd m1 m2 bn bm hx hy
          go_enter Tryz.func68, Tryz.ntmps68
          go_wp2_with fail
          (with_reducible refine (r1 _).mono ?_)
          rintro e w' ⟨rfl, rfl⟩
          go_wp2_with fail
          (with_reducible refine (r2 _).mono ?_)
          rintro e w' ⟨rfl, rfl⟩
          go_wp2_with fail
          (with_reducible refine (r3 _).mono ?_)
          rintro e w' ⟨rfl, rfl⟩
          go_wp2_with fail
          go_ret3
          exact ⟨rfl, Below.refl _ _⟩
        have g5 : ¬ 57343 < y := by omega
        have hl : loB m = true := by rw [loB_iff]; omega
        rw [uni_two hc hh (by rw [e6]; exact ecd) hl]
        have tb := two_bd hh hl
        have r4 := rput6_src (r := 65536 + 1024 * (x - 55296) + y - 56320) (n := two n m) (by unfold two; omega) (by omega) tb.2.2
        clear hc hh e6 ecd m1 m2 hl tb bn bm hx hy
        go_enter Tryz.func68, Tryz.ntmps68
        go_wp2_with fail
        (with_reducible refine (r1 _).mono ?_)
        rintro e w' ⟨rfl, rfl⟩
        go_wp2_with fail
        (with_reducible refine (r2 _).mono ?_)
        rintro e w' ⟨rfl, rfl⟩
        go_wp2_with fail
        (with_reducible refine (r3 _).mono ?_)
        rintro e w' ⟨rfl, rfl⟩
        go_wp2_with fail
        (with_reducible refine (r4 _).mono ?_)
        rintro e w1 ⟨rfl, hb1⟩
        go_wp2_with fail
        go_ret3
        exact ⟨rfl, hb1⟩
theorem rescape_y {s : ByteArray} {i : Int} {t : List UInt8} {m : Nat} (h : escA s.data.toList i = some (t, m)) (hs : s.size ≤ 1000000) (hi0 : -9223372036854775808 ≤ i) (w : World) :
    Calls Tryz.prog 68 #[.string s, .int .i64 i] w fun e w' => e = .returned (.tuple #[.string (mkb t), .int .i64 (i + (m : Int)), .bool true]) ∧ Below w.heap.size w w' := by
  have := rescape_any s i w hs hi0; rw [h] at this; exact this
theorem rescape_n {s : ByteArray} {i : Int} (h : escA s.data.toList i = none) (hs : s.size ≤ 1000000) (hi0 : -9223372036854775808 ≤ i) (w : World) :
    Calls Tryz.prog 68 #[.string s, .int .i64 i] w fun e w' => e = .returned (.tuple #[.string ⟨#[]⟩, .int .i64 i, .bool false]) ∧ Below w.heap.size w w' := by
  have := rescape_any s i w hs hi0; rw [h] at this; exact this
end Go.Proofs.YtcedfonkahffcaaGreat
