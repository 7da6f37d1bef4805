/- Plain mathematics of layer 8: which texts may be quoted, and what stands for each character. No program. -/
import Derived.Test.YtpcijjdlppoblaaGreatDoorTextC
import Derived.Test.YtpcijjdlppoblaaGreatDoorTokR
import Derived.Laws.RangeAny
import Derived.Test.YtpcijjdlppoblaaGreatDoorUtfD
import Derived.Lib.LaidU8
import Derived.LaidMore
import Derived.MakeChecks
import Derived.Test.YtpcijjdlppoblaaGreatDoorRulD
import Derived.RangeFuncKeeps
import Derived.RangeFuncOwn
import Derived.Deep.LoopGhost
import Derived.OneCell
namespace Go.Proofs.YtpcijjdlppoblaaGreatDoor
set_option linter.unusedVariables false

/-- A number that may stand in a quoted text. -/
def okC (c : Nat) : Prop := c < 32 ∨ srcB c = true
theorem okC_lt {c : Nat} (h : okC c) : c ≤ 1114111 := by
  rcases h with h | h
  · omega
  · rw [srcB_iff] at h; omega
/-- The character that l begins with, and how many bytes it has: none, 0. -/
def qc : List UInt8 → Nat × Nat
  | [] => (0, 0)
  | b :: t => if b.toNat < 32 then (b.toNat, 1) else nxt (b :: t)
theorem qc_low {b : UInt8} (h : b.toNat < 32) (t : List UInt8) : qc (b :: t) = (b.toNat, 1) := by simp [qc, h]
theorem qc_high {b : UInt8} (h : ¬ b.toNat < 32) (t : List UInt8) : qc (b :: t) = nxt (b :: t) := by simp [qc, h]
theorem enc_low {c : Nat} (h : c < 128) : enc c = [UInt8.ofNat c] := enc1 h
theorem enc_head {c : Nat} (h : 32 ≤ c) (h' : c ≤ 1114111) : ∃ b t, enc c = b :: t ∧ 32 ≤ b.toNat := by
  unfold enc
  repeat' split
  · exact ⟨_, _, rfl, by rw [toNat_ofNat (by omega)]; exact h⟩
  · exact ⟨_, _, rfl, by rw [toNat_ofNat (by omega)]; omega⟩
  · exact ⟨_, _, rfl, by rw [toNat_ofNat (by omega)]; omega⟩
  · exact ⟨_, _, rfl, by rw [toNat_ofNat (by omega)]; omega⟩
/-- What a character's bytes begin with is it. -/
theorem qc_enc {c : Nat} (h : okC c) (t : List UInt8) : qc (enc c ++ t) = (c, (enc c).length) := by
  by_cases hc : c < 32
  · rw [enc1 (by omega)]
    have e : (UInt8.ofNat c).toNat = c := toNat_ofNat (by omega)
    rw [List.cons_append, qc_low (by omega), e]; rfl
  · have hs : srcB c = true := by rcases h with h | h; exact absurd h hc; exact h
    obtain ⟨b, r, e, hb⟩ := enc_head (c := c) (by omega) (okC_lt h)
    have := nxt_is (is_enc hs t)
    rw [e] at this ⊢
    rw [List.cons_append] at this ⊢
    rw [qc_high (by omega), this]
theorem qc_cases (l : List UInt8) : (∃ c t, okC c ∧ l = enc c ++ t ∧ qc l = (c, (enc c).length)) ∨ (qc l = (0, 0) ∧ (∀ c t, okC c → l ≠ enc c ++ t)) := by
  by_cases h : ∃ c t, okC c ∧ l = enc c ++ t
  · obtain ⟨c, t, hc, rfl⟩ := h
    exact .inl ⟨c, t, hc, rfl, qc_enc hc t⟩
  · refine .inr ⟨?_, fun c t hc e => h ⟨c, t, hc, e⟩⟩
    cases l with
    | nil => rfl
    | cons b t =>
      by_cases hb : b.toNat < 32
      · exact absurd ⟨b.toNat, t, .inl hb, by rw [enc1 (by omega)]; simp⟩ h
      · rw [qc_high hb]
        refine nxt_none fun c hc => ?_
        obtain ⟨hs, u, e⟩ := hc
        exact h ⟨c, u, .inr hs, e.symm⟩
theorem qc_le (l : List UInt8) : (qc l).2 ≤ l.length := by
  rcases qc_cases l with ⟨c, t, hc, rfl, e⟩ | ⟨e, _⟩
  · rw [e]; simp
  · rw [e]; simp

/-- Quotable texts. -/
inductive Qt : List Nat → List UInt8 → Prop
  | nil : Qt [] []
  | cons {c : Nat} {cs : List Nat} {l : List UInt8} : okC c → Qt cs l → Qt (c :: cs) (enc c ++ l)
theorem Qt.append {a b : List Nat} {l m : List UInt8} (h : Qt a l) (k : Qt b m) : Qt (a ++ b) (l ++ m) := by
  induction h with
  | nil => exact k
  | cons hc _ ih => rw [List.append_assoc]; exact .cons hc ih

/-- The characters of a text, as far as it may be quoted, and whether it may. -/
def qtF : Nat → List UInt8 → Option (List Nat)
  | 0, _ => none
  | f + 1, l => if l = [] then some [] else if (qc l).2 = 0 then none else (qtF f (l.drop (qc l).2)).map ((qc l).1 :: ·)
def qtA (l : List UInt8) : Option (List Nat) := qtF (l.length + 1) l
theorem qtF_more {f g : Nat} {l : List UInt8} (hf : l.length < f) (hg : l.length < g) : qtF f l = qtF g l := by
  induction f generalizing g l with
  | zero => omega
  | succ f ih =>
    cases g with
    | zero => omega
    | succ g =>
      unfold qtF
      by_cases h : l = []
      · rw [if_pos h, if_pos h]
      · rw [if_neg h, if_neg h]
        by_cases h0 : (qc l).2 = 0
        · rw [if_pos h0, if_pos h0]
        · rw [if_neg h0, if_neg h0]
          have := List.length_pos_iff.2 h
          rw [ih (g := g) (by simp; omega) (by simp; omega)]
theorem qtA_nil : qtA [] = some [] := by simp [qtA, qtF]
theorem qtA_none {l : List UInt8} (h : l ≠ []) (h0 : (qc l).2 = 0) : qtA l = none := by unfold qtA qtF; rw [if_neg h, if_pos h0]
theorem qtA_go {c : Nat} (h : okC c) (t : List UInt8) : qtA (enc c ++ t) = (qtA t).map (c :: ·) := by
  have e := qc_enc h t
  have hp := enc_pos c
  unfold qtA
  rw [show qtF ((enc c ++ t).length + 1) (enc c ++ t) = (qtF (enc c ++ t).length ((enc c ++ t).drop (qc (enc c ++ t)).2)).map ((qc (enc c ++ t)).1 :: ·) by
    conv => lhs; unfold qtF
    rw [if_neg (by simp [enc_ne]), if_neg (by rw [e]; dsimp; omega)]]
  rw [e]
  dsimp only
  rw [List.drop_left, qtF_more (g := t.length + 1) (by simp; omega) (by omega)]
theorem qtA_iff {l : List UInt8} {cs : List Nat} : qtA l = some cs ↔ Qt cs l := by
  constructor
  · intro h
    induction hn : l.length using Nat.strongRecOn generalizing l cs with
    | _ n ih =>
      subst hn
      by_cases h0 : l = []
      · subst h0; rw [qtA_nil] at h; cases h; exact .nil
      · rcases qc_cases l with ⟨c, t, hc, rfl, e⟩ | ⟨e, _⟩
        · rw [qtA_go hc, Option.map_eq_some_iff] at h
          obtain ⟨ds, hd, rfl⟩ := h
          have := enc_pos c
          exact .cons hc (ih t.length (by simp; omega) hd rfl)
        · rw [qtA_none h0 (by rw [e])] at h; cases h
  · intro h
    induction h with
    | nil => exact qtA_nil
    | cons hc _ ih => rw [qtA_go hc, ih]; rfl
theorem Qt.one {a b : List Nat} {l : List UInt8} (h : Qt a l) (k : Qt b l) : a = b := by
  rw [← qtA_iff] at h k; rw [h] at k; exact Option.some.inj k

/-- A digit to the base of 16. -/
def hxL (n : Nat) : UInt8 := if n < 10 then UInt8.ofNat (48 + n) else UInt8.ofNat (87 + n)
/-- What stands for a character by the table; nothing: it stands for itself. -/
def stF (c : Nat) : List UInt8 :=
  if c = 8 then [92, 98] else if c = 9 then [92, 116] else if c = 10 then [92, 110] else if c = 12 then [92, 102] else if c = 13 then [92, 114]
  else if c < 32 then [92, 117, 48, 48, hxL (c / 16), hxL (c % 16)] else if c = 34 then [92, 34] else if c = 92 then [92, 92] else []
def qp (c : Nat) : List UInt8 := if stF c = [] then enc c else stF c
theorem stF_low : ∀ c, c < 32 → stF c ≠ [] := by decide
theorem stF_no {c : Nat} (h : 32 ≤ c) (h1 : c ≠ 34) (h2 : c ≠ 92) : stF c = [] := by
  unfold stF
  rw [if_neg (by omega), if_neg (by omega), if_neg (by omega), if_neg (by omega), if_neg (by omega), if_neg (by omega), if_neg h1, if_neg h2]
theorem qp_self {c : Nat} (h : 32 ≤ c) (h1 : c ≠ 34) (h2 : c ≠ 92) : qp c = enc c := by unfold qp; rw [if_pos (stF_no h h1 h2)]
theorem qp_len {c : Nat} (h : okC c) : (enc c).length ≤ (qp c).length ∧ (qp c).length ≤ 6 * (enc c).length := by
  by_cases h1 : 32 ≤ c ∧ c ≠ 34 ∧ c ≠ 92
  · rw [qp_self h1.1 h1.2.1 h1.2.2]; omega
  · have : ∀ c, c < 93 → (32 ≤ c ∧ c ≠ 34 ∧ c ≠ 92) ∨ (1 ≤ (qp c).length ∧ (qp c).length ≤ 6) := by decide
    rcases this c (by omega) with h2 | h2
    · exact absurd h2 h1
    · rw [enc1 (c := c) (by omega)]; simpa using h2
/-- What stands between the quotes. -/
def qb (cs : List Nat) : List UInt8 := cs.flatMap qp
theorem qb_nil : qb [] = [] := rfl
theorem qb_cons (c : Nat) (cs : List Nat) : qb (c :: cs) = qp c ++ qb cs := by simp [qb]
theorem qb_app (a b : List Nat) : qb (a ++ b) = qb a ++ qb b := by simp [qb]
theorem Qt.len {cs : List Nat} {l : List UInt8} (h : Qt cs l) : l.length ≤ (qb cs).length ∧ (qb cs).length ≤ 6 * l.length := by
  induction h with
  | nil => simp [qb]
  | cons hc _ ih => have := qp_len hc; rw [qb_cons]; simp only [List.length_append]; omega
/-- The text in quotes. -/
def quo (cs : List Nat) : List UInt8 := 34 :: (qb cs ++ [34])
theorem quo_len (cs : List Nat) : (quo cs).length = (qb cs).length + 2 := by simp [quo]

/-- What the model's range over a text tells. -/
theorem get_drop (s : ByteArray) (k j : Nat) : s.get! (k + j) = (mkb (s.data.toList.drop k)).get! (0 + j) := by
  show s.data[k + j]! = (s.data.toList.drop k).toArray[0 + j]!
  rw [Array.getElem!_eq_getD, Array.getElem!_eq_getD, Array.getD_eq_getD_getElem?, Array.getD_eq_getD_getElem?]
  simp
theorem decode_drop (s : ByteArray) (k : Nat) : Utf8.decode s k = Utf8.decode (mkb (s.data.toList.drop k)) 0 := by
  have hz : ∀ j, (k + j < s.size) = (0 + j < (mkb (s.data.toList.drop k)).size) := fun j => by
    rw [mkb_size, List.length_drop, ← Lib.size_eq]; apply propext; omega
  unfold Utf8.decode
  simp only [get_drop s k, hz]
theorem decode_at (s : ByteArray) (k : Nat) (hk : k < s.size) (c : Nat) (t : List UInt8) (hc : okC c) (e : s.data.toList.drop k = enc c ++ t) : Utf8.decode s k = (c, (enc c).length) := by
  rw [decode_drop, e]
  by_cases h : c < 32
  · rw [enc1 (by omega)]
    have e1 : (UInt8.ofNat c).toNat = c := toNat_ofNat (by omega)
    simp only [Utf8.decode, mkb, List.cons_append, List.nil_append, Nat.zero_add, get0, e1]
    rw [if_pos (by omega)]; rfl
  · exact decode_enc c (by rcases hc with hc | hc; exact absurd hc h; exact hc) t
theorem decode_bad (s : ByteArray) (k : Nat) (hk : k < s.size) (e : (qc (s.data.toList.drop k)).2 = 0) : 32 ≤ (Utf8.decode s k).1 := by
  have hl : s.data.toList.drop k = s[k] :: s.data.toList.drop (k + 1) := by
    rw [List.drop_eq_getElem_cons (by rw [← Lib.size_eq]; exact hk)]; rfl
  rw [hl] at e
  by_cases hb : (s[k]).toNat < 32
  · rw [qc_low hb] at e; cases e
  · by_cases h2 : (s[k]).toNat < 128
    · have : Utf8.decode s k = ((s[k]).toNat, 1) := by
        unfold Utf8.decode
        simp only [get_at s k hk]
        rw [if_pos h2]
      rw [this]; dsimp; omega
    · have := (decode_high s k hk (by omega)).1; omega
end Go.Proofs.YtpcijjdlppoblaaGreatDoor

/- The table of package quote, as it is laid; the contract of piece. -/
namespace Go.Proofs.YtpcijjdlppoblaaGreatDoor
open Go.RowKit
set_option linter.unusedVariables false

/-- The table holds what stands for each byte. -/
def Tab (w : World) : Prop := 0 < w.heap.size ∧ ∀ c, c < 93 → w.cell? ⟨0, c, none⟩ = some (.string (mkb (stF c)))
theorem Tab.below {w w' : World} (h : Tab w) (b : Below w.heap.size w w') : Tab w' :=
  ⟨Nat.lt_of_lt_of_le h.1 b.size, fun c hc => (b.cell (p := ⟨0, c, none⟩) h.1).trans (h.2 c hc)⟩

theorem laid_eq : (Rows.laid_copperplate_quote_standsFor : DataW Unit) = .agg ((List.range 93).map fun c => .lit (.string (stF c))) := by kernel_rfl
set_option maxRecDepth 100000 in
theorem tab_of_laid {w : World} (h : laidMetH Tryz.prog [("copperplate/quote.standsFor", Rows.laid_copperplate_quote_standsFor)] w) : Tab w := by
  rw [MakeChecks.laidMetH_plain _ _ _ (by kernel_rfl)] at h
  obtain ⟨g, t, cs, fuel, p, hg, ht, hv, hr⟩ := Lib.laidMet.reads h (n := "copperplate/quote.standsFor") (.head _)
  obtain rfl : g = 0 := Option.some.inj (hg.symm.trans (by kernel_rfl))
  obtain rfl : t = 107 := Option.some.inj (ht.symm.trans (by kernel_rfl))
  have hc1 : Tryz.prog.cellsOf 9 = 1 := by kernel_rfl
  have hv2 : ∃ ty fr, w.heap[0]? = some (.cells cs ty fr) := by
    unfold World.var? at hv
    rw [hg] at hv
    simp only [Option.bind_some] at hv
    split at hv
    · rename_i e; cases hv; exact ⟨_, _, e⟩
    · cases hv
  obtain ⟨ty, fr, hh⟩ := hv2
  refine ⟨(Array.getElem?_eq_some_iff.1 hh).1, fun c hc => ?_⟩
  rw [laid_eq] at hr
  obtain ⟨f', d, q, hd, he⟩ := Lib.array_elem (n := 93) (e := 9) (by kernel_rfl) hr c hc
  rw [hc1, Nat.mul_one] at he
  obtain ⟨s, h1, h2, _⟩ := DataW.trod_string Tryz.underlying9 he
  have hd2 : d = .lit (.string (stF c)) := by
    simp [hc] at hd; exact hd.symm
  have hs : s = mkb (stF c) := by
    have := (Prod.mk.inj h2).1
    rw [hd2] at this
    have e : stF c = s.data.toList := by injection this with e1; injection e1
    rw [e]; rfl
  have h3 : cs[c]? = some (.string s) := by
    have := congrArg (·[0]?) h1
    simpa [List.getElem?_take, List.getElem?_drop] using this
  unfold World.cell?
  rw [hh]
  simp [h3, hs]

/-- What piece answers. -/
theorem piece_big {c : Nat} (h : 93 ≤ c) (hc : okC c) (w : World) : Calls Tryz.prog 47 #[.int .i32 c] w fun e w' => e = .returned (.string (mkb (qp c))) ∧ w = w' := by
  have e1 : qp c = enc c := qp_self (by omega) (by omega) (by omega)
  have hs : srcB c = true := by rcases hc with hc | hc; omega; exact hc
  have hb := okC_lt hc
  have e2 : putA c = mkb (qp c) := by rw [e1, putA, putL_yes hs]; rfl
  have e3 : ¬ ((c : Int) < 93) := by omega
  have e4 : IntKind.i64.wrap (c : Int) = c := by unfold IntKind.wrap; simp [IntKind.bits, IntKind.signed]; omega
  have hp := put_any c
  rw [e2] at hp
  generalize mkb (qp c) = R at hp ⊢
  clear e1 hs e2 hc
  go_enter Tryz.func47, Tryz.ntmps47
  go_wp2_with fail
  (with_reducible refine (hp _).mono ?_)
  rintro e w' ⟨rfl, rfl⟩
  go_wp2_with fail
  go_ret
  exact ⟨rfl, rfl⟩

theorem piece_tab {c : Nat} (h : c < 93) (hc : stF c ≠ []) {w : World} (ht : Tab w) : Calls Tryz.prog 47 #[.int .i32 c] w fun e w' => e = .returned (.string (mkb (qp c))) ∧ w = w' := by
  have e1 : qp c = stF c := by unfold qp; rw [if_neg hc]
  have e3 : ((c : Int) < 93) := by omega
  have e4 : IntKind.i64.wrap (c : Int) = c := by unfold IntKind.wrap; simp [IntKind.bits, IntKind.signed]; omega
  have hl := ht.2 c h
  have hne : ¬ mkb (stF c) = ⟨#[]⟩ := fun e => hc (by have := congrArg (fun b => b.data.toList) e; exact this)
  have hne2 : ¬ (mkb (stF c)).toList = [] := by rw [mkb_toList]; exact hc
  have hne3 : (mkb (stF c)).toList.isEmpty = false := by rw [mkb_toList]; simpa using hc
  rw [e1]
  generalize mkb (stF c) = R at *
  clear e1 hc ht
  go_enter Tryz.func47, Tryz.ntmps47
  go_wp2_with fail
  go_ret
  exact ⟨rfl, rfl⟩

theorem piece_self {c : Nat} (h : c < 93) (h32 : 32 ≤ c) (hc : stF c = []) {w : World} (ht : Tab w) : Calls Tryz.prog 47 #[.int .i32 c] w fun e w' => e = .returned (.string (mkb (qp c))) ∧ w = w' := by
  have e1 : qp c = enc c := by unfold qp; rw [if_pos hc]
  have hs : srcB c = true := by rw [srcB_iff]; omega
  have e2 : putA c = mkb (qp c) := by rw [e1, putA, putL_yes hs]; rfl
  have e3 : ((c : Int) < 93) := by omega
  have e4 : IntKind.i64.wrap (c : Int) = c := by unfold IntKind.wrap; simp [IntKind.bits, IntKind.signed]; omega
  have hl := ht.2 c h
  rw [show mkb (stF c) = ⟨#[]⟩ by rw [hc]; rfl] at hl
  have hp := put_any c
  rw [e2] at hp
  generalize mkb (qp c) = R at hp ⊢
  clear e1 hs e2 hc ht
  go_enter Tryz.func47, Tryz.ntmps47
  go_wp2_with fail
  (with_reducible refine (hp _).mono ?_)
  rintro e w' ⟨rfl, rfl⟩
  go_wp2_with fail
  go_ret
  exact ⟨rfl, rfl⟩

theorem piece_any {c : Nat} (hc : okC c) {w : World} (ht : Tab w) : Calls Tryz.prog 47 #[.int .i32 c] w fun e w' => e = .returned (.string (mkb (qp c))) ∧ w = w' := by
  by_cases h : 93 ≤ c
  · exact piece_big h hc w
  · by_cases h2 : stF c = []
    · refine piece_self (by omega) ?_ h2 ht
      by_cases h3 : c < 32
      · exact absurd h2 (stF_low c h3)
      · omega
    · exact piece_tab (by omega) h2 ht
end Go.Proofs.YtpcijjdlppoblaaGreatDoor

/- Contracts of package quote: May. -/
namespace Go.Proofs.YtpcijjdlppoblaaGreatDoor
open Go.RowKit
set_option linter.unusedVariables false

theorem drop_ne {s : ByteArray} {k : Nat} (h : k < s.size) : s.data.toList.drop k ≠ [] := by
  intro e
  have := congrArg List.length e
  rw [List.length_drop, ← Lib.size_eq] at this
  simp at this; omega

/-- How the next character stands. -/
theorem chr_at (s : ByteArray) (k : Nat) (hk : k < s.size) :
    (∃ c t, okC c ∧ s.data.toList.drop k = enc c ++ t ∧ t = s.data.toList.drop (k + (enc c).length) ∧ k + (enc c).length ≤ s.size ∧ Utf8.decode s k = (c, (enc c).length) ∧ ((nxtN s k = 0 ∧ (c : Int) < 32) ∨ ((nxtN s k == 0) = false ∧ nxtN s k ≠ 0))) ∨
    (nxtN s k = 0 ∧ qtA (s.data.toList.drop k) = none ∧ ∃ c n, Utf8.decode s k = (c, n) ∧ 32 ≤ c ∧ c ≤ 2147483647) := by
  have hN := nxtN_at s k (Nat.le_of_lt hk)
  have hlen : s.data.toList.length = s.size := (Lib.size_eq s).symm
  rcases qc_cases (s.data.toList.drop k) with ⟨c, t, hc, e, hq⟩ | ⟨hq, _⟩
  · refine .inl ⟨c, t, hc, e, ?_, ?_, decode_at s k hk c t hc e, ?_⟩
    · rw [← List.drop_drop, e, List.drop_left]
    · have := congrArg List.length e
      rw [List.length_drop, hlen, List.length_append] at this; omega
    · by_cases h : c < 32
      · by_cases h0 : nxtN s k = 0
        · exact .inl ⟨h0, by omega⟩
        · exact .inr ⟨by simp [h0], h0⟩
      · have hs : srcB c = true := by rcases hc with hc | hc; exact absurd hc h; exact hc
        have := nxt_is (is_enc hs t)
        rw [← e] at this
        rw [this] at hN
        have hp := enc_pos c
        have h0 : nxtN s k ≠ 0 := by rw [hN]; dsimp; omega
        exact .inr ⟨by simp [h0], h0⟩
  · refine .inr ⟨?_, qtA_none (drop_ne hk) (by rw [hq]), _, _, rfl, decode_bad s k hk (by rw [hq]), decode_le s k⟩
    rw [hN]
    obtain ⟨b, t, e⟩ : ∃ b t, s.data.toList.drop k = b :: t := List.exists_cons_of_ne_nil (drop_ne hk)
    rw [e] at hq ⊢
    by_cases hb : b.toNat < 32
    · rw [qc_low hb] at hq; exact absurd (congrArg Prod.snd hq) (by simp)
    · rw [qc_high hb] at hq; rw [hq]; rfl

set_option maxHeartbeats 1000000 in
theorem qmay_any (s : ByteArray) (w : World) :
    Calls Tryz.prog 46 #[.string s] w fun e w' => e = .returned (.bool (qtA s.data.toList).isSome) ∧ Below w.heap.size w w' := by
  have HI := Lib.hid (it_start w s)
  go_enter Tryz.func46, Tryz.ntmps46
  go_wp2_with fail
  go_loopg [] s.size (fun g wr => ∃ pos : Nat, g = s.size - pos ∧ It w w.heap.size s pos wr ∧ pos ≤ s.size ∧ (qtA (s.data.toList.drop pos)).isSome = (qtA s.data.toList).isSome)
  case atStart => exact ⟨0, rfl, HI.out, Nat.zero_le _, by simp⟩
  case round =>
    obtain ⟨pos, hg, hit, hle, hq⟩ := hrel
    have HT := Lib.hid hit
    have HQ := Lib.hid hq
    have HG := Lib.hid hg
    by_cases hp : pos < s.size
    · rcases chr_at s pos hp with ⟨c, t, hc, e, ht, hk, hd, hn⟩ | ⟨hn, hnone, c, n, hd, h32, hcl⟩
      · have hnx := fun ty => next_at (P := Tryz.prog) hit.at_ hp hd ty
        have r1 := next_any s pos
        have HE := Lib.hid e
        have HT2 := Lib.hid ht
        have HC := Lib.hid hc
        have hp1 := enc_pos c
        clear hit hq hg e ht hd hc
        rcases hn with ⟨h0, h1⟩ | ⟨h0, h1⟩
        · rw [h0] at r1
          go_wp2_with fail
          (with_reducible refine (r1 _).mono ?_)
          rintro e w1 ⟨rfl, hb1⟩
          go_wp2_with fail
          go_roundg (s.size - (pos + (enc c).length))
          case measure => rw [HG.out]; omega
          case rel => exact ⟨pos + (enc c).length, rfl, (HT.out.put _).below hb1.below, hk, by rw [← HQ.out, HE.out, qtA_go HC.out, ← HT2.out]; simp⟩
        · generalize nxtN s pos = m at *
          go_wp2_with fail
          (with_reducible refine (r1 _).mono ?_)
          rintro e w1 ⟨rfl, hb1⟩
          go_wp2_with fail
          go_roundg (s.size - (pos + (enc c).length))
          case measure => rw [HG.out]; omega
          case rel => exact ⟨pos + (enc c).length, rfl, (HT.out.put _).below hb1.below, hk, by rw [← HQ.out, HE.out, qtA_go HC.out, ← HT2.out]; simp⟩
      · have hnx := fun ty => next_at (P := Tryz.prog) hit.at_ hp hd ty
        have r1 := next_any s pos
        rw [hn] at r1
        have h32' : (32 : Int) ≤ c := by omega
        have HD := Lib.hid hnone
        clear hit hq hg hd hnone
        go_wp2_with fail
        (with_reducible refine (r1 _).mono ?_)
        rintro e w1 ⟨rfl, hb1⟩
        go_wp2_with fail
        go_ret
        exact ⟨by rw [← HQ.out, HD.out]; rfl, ((HT.out.put _).below hb1.below).bel⟩
    · have hnx := fun ty => next_over (P := Tryz.prog) hit.at_ hp ty
      clear hit hq hg
      go_wp2_with fail
      go_ret
      refine ⟨?_, HT.out.bel⟩
      rw [← HQ.out, List.drop_eq_nil_of_le (by rw [← Lib.size_eq]; omega), qtA_nil]; rfl
end Go.Proofs.YtpcijjdlppoblaaGreatDoor

/- Contracts of package quote: Quote, Long. -/
namespace Go.Proofs.YtpcijjdlppoblaaGreatDoor
open Go.RowKit
set_option linter.unusedVariables false

theorem own_new (w : World) (base : Nat) (h : base ≤ w.heap.size) (a : Int) : (w.alloc (.cells #[.int .u8 a] 5)).ownsRow base 5 1 (.slice (some ⟨w.heap.size, 0, none⟩) 1 1) 1 [.int .u8 a] :=
  ⟨rfl, .inr ⟨w.heap.size, 1, _, rfl, h, heap_alloc_new w _, Nat.le_refl _, by unfold maxLen; omega, rfl, rfl⟩⟩
theorem own_it {w : World} {g base : Nat} {e : TypeId} {s : ByteArray} {pos size n : Nat} {v : Value} {xs : List Value} (h : w.ownsRow base e size v n xs) (hg : w.heap[g]? = some (.stringIter s pos)) : v.ownBlock ≠ some g := by
  rcases h.2 with ⟨rfl, _⟩ | ⟨g', cap, cur, rfl, _, hh, _⟩
  · simp [Value.ownBlock]
  · intro he
    have : g' = g := by simpa [Value.ownBlock] using he
    subst this
    rw [hg] at hh; cases hh

/-- While the text is quoted: the iterator at pos, acc gathered. -/
structure Qz (w : World) (g : Nat) (s : ByteArray) (pos : Nat) (acc : List UInt8) (v : Value) (W : World) : Prop where
  it : It w g s pos W
  ow : W.ownsRow w.heap.size 5 1 v acc.length (bc acc)
theorem Qz.put {w : World} {g : Nat} {s : ByteArray} {pos : Nat} {acc : List UInt8} {v : Value} {W : World} (h : Qz w g s pos acc v W) (q : Nat) : Qz w g s q acc v (W.putObj g (.stringIter s q)) :=
  ⟨h.it.put q, h.ow.kept (grownBy_putObj' W g _) (.inr (own_it h.ow h.it.at_))⟩
theorem Qz.next {w : World} {g : Nat} {s : ByteArray} {pos : Nat} {acc : List UInt8} {v v' : Value} {W W1 : World} {p : ByteArray} (h : Qz w g s pos acc v W)
    (ho : W1.ownsRow w.heap.size 5 1 v' (acc.length + p.size) (bc acc ++ Lib.strCells p)) (hg : W.grownBy W1 v.ownBlock) : Qz w g s pos (acc ++ p.data.toList) v' W1 := by
  refine ⟨⟨(hg.block g (lt_of_block h.it.at_) (fun e => own_it h.ow h.it.at_ e.symm)).trans h.it.at_, h.it.ge, h.it.bel.grown hg h.it.bel.size (fun k hk => (h.ow.lt k hk).1)⟩, ?_⟩
  rw [bc_app] at ho
  have hl : (acc ++ p.data.toList).length = acc.length + p.size := by rw [List.length_append, ← Lib.size_eq]
  rw [← hl] at ho
  exact ho

theorem Tab.it {w : World} {g : Nat} {s : ByteArray} {pos : Nat} {W : World} (h : Tab w) (i : It w g s pos W) : Tab W := h.below i.bel

theorem qno_any (s : ByteArray) (w : World) (h : qtA s.data.toList = none) :
    Calls Tryz.prog 30 #[.string s] w fun e w' => e = .returned (.tuple #[.string ⟨#[]⟩, .bool false]) ∧ Below w.heap.size w w' := by
  have r1 := qmay_any s
  rw [h] at r1
  dsimp only [Option.isSome] at r1
  clear h
  go_enter Tryz.func30, Tryz.ntmps30
  go_wp2_with fail
  (with_reducible refine (r1 _).mono ?_)
  rintro e w1 ⟨rfl, hb1⟩
  go_wp2_with fail
  go_ret2
  exact ⟨rfl, hb1⟩

set_option maxHeartbeats 1000000 in
theorem qyes_any (s : ByteArray) (w : World) (hs : s.size ≤ 1000000) (cs : List Nat) (h : qtA s.data.toList = some cs) (ht : Tab w) :
    Calls Tryz.prog 30 #[.string s] w fun e w' => e = .returned (.tuple #[.string (mkb (quo cs)), .bool true]) ∧ Below w.heap.size w w' := by
  have r1 := qmay_any s
  rw [h] at r1
  dsimp only [Option.isSome] at r1
  have HT := Lib.hid ht
  have hl6 := (qtA_iff.1 h).len
  rw [← Lib.size_eq] at hl6
  have HS := Lib.hid h
  obtain ⟨i0, hi, hz0, hz1, hz2⟩ := info_parts infoB
  clear h ht
  go_enter Tryz.func30, Tryz.ntmps30
  go_wp2_with fail
  (with_reducible refine (r1 _).mono ?_)
  rintro e w1 ⟨rfl, hb1⟩
  go_wp2_with fail
  have hq0 : Qz w (w1.heap.size + 1) s 0 [34] (.slice (some ⟨w1.heap.size, 0, none⟩) 1 1) ((w1.alloc (.cells #[.int .u8 34] 5)).iter s 0) := by
    have hb2 : Below w.heap.size w (w1.alloc (.cells #[.int .u8 34] 5)) := bel_alloc hb1 _
    have hi0 := it_start (w1.alloc (.cells #[.int .u8 34] 5)) s
    rw [World.size_alloc] at hi0
    exact ⟨⟨hi0.at_, Nat.le_succ_of_le hb1.size, bel_alloc hb2 _⟩, (own_new w1 w.heap.size hb1.size 34).alloc _⟩
  have HQ := Lib.hid hq0
  clear hq0
  go_loopg [4] s.size (fun g v wr => ∃ (pos : Nat) (acc : List UInt8) (ds : List Nat), g = s.size - pos ∧ Qz w (w1.heap.size + 1) s pos acc v wr ∧ pos ≤ s.size ∧ qtA (s.data.toList.drop pos) = some ds ∧ acc ++ qb ds = 34 :: qb cs)
  case atStart => exact ⟨0, [34], cs, rfl, HQ.out, Nat.zero_le _, by rw [List.drop_zero]; exact HS.out, rfl⟩
  case round =>
    rename_i v4
    obtain ⟨pos, acc, ds, hg, hqz, hle, hds, hac⟩ := hrel
    have hlen := congrArg List.length hac
    rw [List.length_append, List.length_cons] at hlen
    by_cases hp : pos < s.size
    · rcases chr_at s pos hp with ⟨c, t, hc, e, ht, hk, hd, hn⟩ | ⟨hn, hnone, -⟩
      · have hnx := fun ty => next_at (P := Tryz.prog) hqz.it.at_ hp hd ty
        have hq1 := hqz.put (pos + (enc c).length)
        have r2 := piece_any hc (HT.out.it hq1.it)
        obtain ⟨ds', rfl, hds'⟩ : ∃ ds', ds = c :: ds' ∧ qtA t = some ds' := by
          rw [e, qtA_go hc, Option.map_eq_some_iff] at hds
          obtain ⟨x, hx, rfl⟩ := hds
          exact ⟨x, rfl, hx⟩
        rw [ht] at hds'
        have hac2 : (acc ++ (mkb (qp c)).data.toList) ++ qb ds' = 34 :: qb cs := by rw [← hac, qb_cons, List.append_assoc]; rfl
        have hlp : acc.length + (mkb (qp c)).size ≤ 100000000 := by rw [qb_cons, List.length_append] at hlen; rw [mkb_size]; omega
        have hown := hq1.ow
        have hsz := hq1.it.bel.size
        have hp1 := enc_pos c
        have HA := Lib.hid hac2
        have HD := Lib.hid hds'
        have HG := Lib.hid hg
        have HZ := Lib.hid hq1
        clear hg hqz hds hac hlen hc e ht hd hn hac2 hds' hq1
        generalize mkb (qp c) = R at *
        go_wp2_with fail
        (with_reducible refine r2.mono ?_)
        rintro e w' ⟨rfl, rfl⟩
        go_wp2_with (at_builtin; refine Lib.wpList_append_own_string _ rfl _ _ 82 9 rfl w.heap.size 5 i0 Tryz.underlying82 Tryz.underlying9 hi hz0 hz1 hz2 _ _ _ rfl hown R rfl (by unfold maxLen; omega) (by omega) hsz ?_)
        intro v' w2 ho hg _
        have HN := Lib.hid (HZ.out.next ho hg)
        clear ho hg hown r2 hnx
        go_wp2_with fail
        go_roundg (s.size - (pos + (enc c).length))
        case measure => rw [HG.out]; omega
        case rel => exact ⟨pos + (enc c).length, _, _, rfl, HN.out, hk, HD.out, HA.out⟩
      · rw [hnone] at hds; cases hds
    · have hnx := fun ty => next_over (P := Tryz.prog) hqz.it.at_ hp ty
      have hd0 : ds = [] := by
        rw [List.drop_eq_nil_of_le (by rw [← Lib.size_eq]; omega), qtA_nil] at hds
        exact (Option.some.inj hds).symm
      subst hd0
      rw [qb_nil, List.append_nil] at hac
      subst hac
      have hown := hqz.ow.alloc (.cells #[.int .u8 34] 5)
      have hsz := hqz.it.bel.size
      have hsz2 : w.heap.size ≤ (wr.alloc (.cells #[.int .u8 34] 5)).heap.size := by rw [World.size_alloc]; omega
      have hnews : ∀ j u, [Value.int .u8 34][j]? = some u → (wr.alloc (.cells #[.int .u8 34] 5)).cell? ((⟨wr.heap.size, 0, none⟩ : Addr).add j) = some u := by
        intro j u hj
        cases j with
        | zero => have := (cell_new_l wr (.int .u8 34) 5).1; simp at hj; subst hj; exact this
        | succ j => simp at hj
      have hone : ∀ u ∈ [Value.int .u8 34], u.oneCell' = true := by simp [Value.oneCell']
      have hbel := bel_alloc hqz.it.bel (.cells #[.int .u8 34] 5)
      have HB := Lib.hid hbel
      have hq6 : (34 :: qb cs).length + 1 ≤ 100000000 := by rw [List.length_cons]; omega
      clear hg hqz hds hlen hbel
      generalize hacc : 34 :: qb cs = acc at *
      have HC := Lib.hid hacc
      clear hacc
      go_wp2_with (at_builtin; refine wpList_append_own _ rfl _ _ 82 rfl w.heap.size 5 i0 _ 1 1 Tryz.underlying82 hi hz0 hz1 hz2 rfl (by decide) _ _ _ rfl hown ⟨wr.heap.size, 0, none⟩ 1 1 [.int .u8 34] rfl rfl hnews hone (by unfold maxLen; omega) (by omega) hsz2 ?_)
      intro v' w2 ho hg _
      obtain ⟨A, m, c, rfl⟩ := own_slice ho
      have hb2 := HB.out.grown hg hsz2 (fun k hk => (hown.lt k hk).1)
      have ho2 : w2.ownsRow w.heap.size 5 1 (.slice A m c) (acc ++ [34]).length (bc (acc ++ [34])) := by
        have e1 : bc (acc ++ [34]) = bc acc ++ [.int .u8 34] := by simp [bc]
        rw [e1, List.length_append]; exact ho
      have hcv : (convert 82 9 (.slice A m c)).run Tryz.prog w2 = .ok (.string (mkb (acc ++ [34]))) w2 := conv_own ho2 0
      have e5 : acc ++ [34] = quo cs := by rw [← HC.out]; rfl
      rw [e5] at hcv
      have HB2 := Lib.hid hb2
      clear ho hg hown ho2 hb2 hnews hone e5
      go_wp2_with fail
      go_ret2
      exact ⟨rfl, HB2.out⟩

theorem quote_any (s : ByteArray) (w : World) (hs : s.size ≤ 1000000) (ht : Tab w) :
    Calls Tryz.prog 30 #[.string s] w fun e w' => e = .returned (.tuple #[.string (mkb ((qtA s.data.toList).elim [] quo)), .bool (qtA s.data.toList).isSome]) ∧ Below w.heap.size w w' := by
  cases h : qtA s.data.toList with
  | none => exact qno_any s w h
  | some cs => exact qyes_any s w hs cs h ht

end Go.Proofs.YtpcijjdlppoblaaGreatDoor
