/- Plain mathematics of layer 2: source characters, their bytes, what is next. No program. -/
import GoSem.Core.Utf8
import Derived.Test.YtpcijjdlppoblaaGreatDoorRows
import Derived.WalkKit
import Derived.WalkSpells
import Derived.StillTactics
import Derived.Laws.Pointers
import Derived.Laws.Runes
import Derived.Laws.RangeAny
import Derived.Deep.RegionHeld3
import Derived.Deep.QuietTactic
import Derived.BigQuiet
import Derived.Below
import Derived.Lib.Hide
import Derived.Lib.Strings
import Derived.WalkSmall
import Derived.LoopN
import Derived.Handy
import Derived.RangeFuncFrom
import Derived.RangeFuncNested
import Derived.RangeFuncBound
import Derived.RangeFuncCalls
import Derived.RangeFuncLeaves
import Derived.Shelf.Abstract
import Derived.Shelf.RegionOpen
import Derived.OwnWalkIn
import Derived.TacticsInMore
import Derived.LoopNIn
import Derived.LoopIn
import Derived.Test.YtpcijjdlppoblaaGreatDoorTokR
namespace Go.Proofs.YtpcijjdlppoblaaGreatDoor

/-- Is r a source character? -/
def srcB (r : Int) : Bool := decide (r = 9 ∨ r = 10 ∨ r = 13 ∨ (32 ≤ r ∧ r ≤ 55295) ∨ (57344 ≤ r ∧ r ≤ 1114111))
theorem srcB_iff (r : Int) : srcB r = true ↔ (r = 9 ∨ r = 10 ∨ r = 13 ∨ (32 ≤ r ∧ r ≤ 55295) ∨ (57344 ≤ r ∧ r ≤ 1114111)) := by simp [srcB]

/-- Its bytes. -/
def enc (c : Nat) : List UInt8 :=
  if c < 128 then [UInt8.ofNat c]
  else if c < 2048 then [UInt8.ofNat (192 + c / 64), UInt8.ofNat (128 + c % 64)]
  else if c < 65536 then [UInt8.ofNat (224 + c / 4096), UInt8.ofNat (128 + c / 64 % 64), UInt8.ofNat (128 + c % 64)]
  else [UInt8.ofNat (240 + c / 262144), UInt8.ofNat (128 + c / 4096 % 64), UInt8.ofNat (128 + c / 64 % 64), UInt8.ofNat (128 + c % 64)]

theorem enc1 {c : Nat} (h : c < 128) : enc c = [UInt8.ofNat c] := by simp [enc, h]
theorem enc2 {c : Nat} (h : 128 ≤ c) (h' : c < 2048) : enc c = [UInt8.ofNat (192 + c / 64), UInt8.ofNat (128 + c % 64)] := by
  unfold enc; rw [if_neg (by omega), if_pos h']
theorem enc3 {c : Nat} (h : 2048 ≤ c) (h' : c < 65536) : enc c = [UInt8.ofNat (224 + c / 4096), UInt8.ofNat (128 + c / 64 % 64), UInt8.ofNat (128 + c % 64)] := by
  unfold enc; rw [if_neg (by omega), if_neg (by omega), if_pos h']
theorem enc4 {c : Nat} (h : 65536 ≤ c) : enc c = [UInt8.ofNat (240 + c / 262144), UInt8.ofNat (128 + c / 4096 % 64), UInt8.ofNat (128 + c / 64 % 64), UInt8.ofNat (128 + c % 64)] := by
  unfold enc; rw [if_neg (by omega), if_neg (by omega), if_neg (by omega)]

theorem enc_len (c : Nat) : (enc c).length = if c < 128 then 1 else if c < 2048 then 2 else if c < 65536 then 3 else 4 := by
  unfold enc; repeat' split
  all_goals rfl
theorem enc_pos (c : Nat) : 1 ≤ (enc c).length ∧ (enc c).length ≤ 4 := by rw [enc_len]; repeat' split
                                                                          all_goals omega
theorem enc_ne (c : Nat) : enc c ≠ [] := by intro h; have := enc_pos c; rw [h] at this; simp at this

/-- What the model writes is enc. -/
theorem encode_eq (r : Int) (h : srcB r = true) : Utf8.encode r = ⟨(enc r.toNat).toArray⟩ := by
  have hv : Utf8.valid r = true := by
    rw [srcB_iff] at h; simp [Utf8.valid]; omega
  unfold Utf8.encode enc
  simp only [hv, if_true]
  split
  · rfl
  · split
    · rfl
    · split <;> rfl

/-- The bytes put for r: none if r is no source character. -/
def putL (r : Int) : List UInt8 := if srcB r = true then enc r.toNat else []
def putA (r : Int) : ByteArray := ⟨(putL r).toArray⟩

theorem toNat_ofNat {n : Nat} (h : n < 256) : (UInt8.ofNat n).toNat = n := by simp; omega

theorem byte_ofNat (b : UInt8) : UInt8.ofNat b.toNat = b := by simp
theorem byte_eq {b : UInt8} {n : Nat} (h : b.toNat = n) : b = UInt8.ofNat n := by rw [← h]; simp

theorem get0 (b : UInt8) (l : List UInt8) : (⟨(b :: l).toArray⟩ : ByteArray).get! 0 = b := by rfl
theorem get1 (a b : UInt8) (l : List UInt8) : (⟨(a :: b :: l).toArray⟩ : ByteArray).get! 1 = b := by rfl
theorem get2 (a b c : UInt8) (l : List UInt8) : (⟨(a :: b :: c :: l).toArray⟩ : ByteArray).get! 2 = c := by rfl
theorem get3 (a b c d : UInt8) (l : List UInt8) : (⟨(a :: b :: c :: d :: l).toArray⟩ : ByteArray).get! 3 = d := by rfl

theorem lenA (l : List UInt8) : (⟨l.toArray⟩ : ByteArray).size = l.length := by simp [ByteArray.size]

/-- A character whose bytes stand first is decoded. -/
theorem decode_enc (c : Nat) (h : srcB c = true) (t : List UInt8) : Utf8.decode ⟨(enc c ++ t).toArray⟩ 0 = (c, (enc c).length) := by
  rw [srcB_iff] at h
  by_cases h1 : c < 128
  · rw [enc1 h1]
    have e : (UInt8.ofNat c).toNat = c := toNat_ofNat (by omega)
    simp only [Utf8.decode, List.cons_append, List.nil_append, Nat.zero_add, get0, e]
    rw [if_pos (by omega)]; rfl
  · by_cases h2 : c < 2048
    · rw [enc2 (by omega) h2]
      have e0 : (UInt8.ofNat (192 + c / 64)).toNat = 192 + c / 64 := toNat_ofNat (by omega)
      have e1 : (UInt8.ofNat (128 + c % 64)).toNat = 128 + c % 64 := toNat_ofNat (by omega)
      simp only [Utf8.decode, List.cons_append, List.nil_append, Nat.zero_add, get0, get1, e0, e1, lenA, List.length_cons]
      rw [if_neg (by omega), if_pos (by simp; omega), if_pos (by omega)]
      simp; omega
    · by_cases h3 : c < 65536
      · rw [enc3 (by omega) h3]
        have e0 : (UInt8.ofNat (224 + c / 4096)).toNat = 224 + c / 4096 := toNat_ofNat (by omega)
        have e1 : (UInt8.ofNat (128 + c / 64 % 64)).toNat = 128 + c / 64 % 64 := toNat_ofNat (by omega)
        have e2 : (UInt8.ofNat (128 + c % 64)).toNat = 128 + c % 64 := toNat_ofNat (by omega)
        have ec : (224 + c / 4096) % 16 * 4096 + (128 + c / 64 % 64) % 64 * 64 + (128 + c % 64) % 64 = c := by omega
        simp only [Utf8.decode, List.cons_append, List.nil_append, Nat.zero_add, get0, get1, get2, e0, e1, e2, lenA, List.length_cons, ec]
        rw [if_neg (by omega), if_neg (by simp; omega), if_pos (by simp; omega), if_pos (by simp [Utf8.valid]; omega)]
        rfl
      · rw [enc4 (by omega)]
        have e0 : (UInt8.ofNat (240 + c / 262144)).toNat = 240 + c / 262144 := toNat_ofNat (by omega)
        have e1 : (UInt8.ofNat (128 + c / 4096 % 64)).toNat = 128 + c / 4096 % 64 := toNat_ofNat (by omega)
        have e2 : (UInt8.ofNat (128 + c / 64 % 64)).toNat = 128 + c / 64 % 64 := toNat_ofNat (by omega)
        have e3 : (UInt8.ofNat (128 + c % 64)).toNat = 128 + c % 64 := toNat_ofNat (by omega)
        have ec : (240 + c / 262144) % 8 * 262144 + (128 + c / 4096 % 64) % 64 * 4096 + (128 + c / 64 % 64) % 64 * 64 + (128 + c % 64) % 64 = c := by omega
        simp only [Utf8.decode, List.cons_append, List.nil_append, Nat.zero_add, get0, get1, get2, get3, e0, e1, e2, e3, lenA, List.length_cons, ec]
        rw [if_neg (by omega), if_neg (by simp; omega), if_neg (by simp; omega), if_pos (by simp; omega), if_pos (by simp [Utf8.valid]; omega)]
        rfl

/-- c is the character whose bytes l begins with. -/
def Is (l : List UInt8) (c : Nat) : Prop := srcB c = true ∧ enc c <+: l

theorem Is.one {l : List UInt8} {c d : Nat} (h : Is l c) (k : Is l d) : c = d := by
  obtain ⟨t, rfl⟩ := h.2
  obtain ⟨u, hu⟩ := k.2
  have e1 := decode_enc c h.1 t
  have e2 := decode_enc d k.1 u
  rw [hu, e1] at e2
  exact (Prod.mk.inj e2).1

/-- What the program's Next answers on the rest l: the character and how many bytes. -/
def nxt (l : List UInt8) : Nat × Nat :=
  let c := (Utf8.decode ⟨l.toArray⟩ 0).1
  if srcB c = true ∧ enc c <+: l then (c, (enc c).length) else (0, 0)

theorem nxt_is {l : List UInt8} {c : Nat} (h : Is l c) : nxt l = (c, (enc c).length) := by
  obtain ⟨hs, t, rfl⟩ := h
  have e := decode_enc c hs t
  simp only [nxt, e]
  rw [if_pos ⟨hs, t, rfl⟩]
theorem nxt_cases (l : List UInt8) : (∃ c, Is l c ∧ nxt l = (c, (enc c).length)) ∨ ((∀ c, ¬ Is l c) ∧ nxt l = (0, 0)) := by
  by_cases h : ∃ c, Is l c
  · obtain ⟨c, hc⟩ := h
    exact .inl ⟨c, hc, nxt_is hc⟩
  · refine .inr ⟨fun c hc => h ⟨c, hc⟩, ?_⟩
    simp only [nxt]
    rw [if_neg]; exact fun hc => h ⟨(Utf8.decode ⟨l.toArray⟩ 0).1, hc⟩
theorem nxt_none {l : List UInt8} (h : ∀ c, ¬ Is l c) : nxt l = (0, 0) := by
  rcases nxt_cases l with ⟨c, hc, _⟩ | ⟨_, e⟩
  · exact absurd hc (h c)
  · exact e
theorem Is.len {l : List UInt8} {c : Nat} (h : Is l c) : (enc c).length ≤ l.length := h.2.length_le
theorem nxt_le (l : List UInt8) : (nxt l).2 ≤ l.length ∧ (nxt l).2 ≤ 4 ∧ (nxt l).1 ≤ 1114111 := by
  rcases nxt_cases l with ⟨c, hc, e⟩ | ⟨_, e⟩
  · rw [e]; have := enc_pos c; have h := hc.1; rw [srcB_iff] at h; exact ⟨hc.len, by omega, by dsimp; omega⟩
  · rw [e]; simp
theorem nxt_nil : nxt [] = (0, 0) := nxt_none fun c h => by
  have h1 := h.len
  have h2 := enc_pos c
  simp only [List.length_nil] at h1
  omega

theorem Is.append {l : List UInt8} {c : Nat} (h : Is l c) (t : List UInt8) : Is (l ++ t) c := ⟨h.1, h.2.trans (List.prefix_append _ _)⟩
theorem Is.of_append {l t : List UInt8} {c : Nat} (h : Is (l ++ t) c) (hl : (enc c).length ≤ l.length) : Is l c :=
  ⟨h.1, List.prefix_of_prefix_length_le h.2 (List.prefix_append _ _) hl⟩
theorem is_enc {c : Nat} (h : srcB c = true) (t : List UInt8) : Is (enc c ++ t) c := ⟨h, List.prefix_append _ _⟩

/-- How far a text is gone through, character by character. -/
def thru (l : List UInt8) : Nat := if _h : (nxt l).2 = 0 then 0 else (nxt l).2 + thru (l.drop (nxt l).2)
termination_by l.length
decreasing_by have := (nxt_le l).1; simp; omega

theorem thru_stop {l : List UInt8} (h : (nxt l).2 = 0) : thru l = 0 := by rw [thru, dif_pos h]
theorem thru_go {l : List UInt8} (h : (nxt l).2 ≠ 0) : thru l = (nxt l).2 + thru (l.drop (nxt l).2) := by rw [thru, dif_neg h]
theorem thru_le (l : List UInt8) : thru l ≤ l.length := by
  induction hn : l.length using Nat.strongRecOn generalizing l with
  | _ n ih =>
    subst hn
    by_cases h : (nxt l).2 = 0
    · rw [thru_stop h]; omega
    · rw [thru_go h]
      have hle := (nxt_le l).1
      have := ih (l.drop (nxt l).2).length (by simp; omega) _ rfl
      simp at this; omega

def badI (l : List UInt8) : Int := if thru l = l.length then -1 else thru l

/-- Where a text stops, nothing begins. -/
theorem thru_end (l : List UInt8) : (nxt (l.drop (thru l))).2 = 0 := by
  induction hn : l.length using Nat.strongRecOn generalizing l with
  | _ n ih =>
    subst hn
    by_cases h : (nxt l).2 = 0
    · rw [thru_stop h]; simpa using h
    · rw [thru_go h]
      have hle := (nxt_le l).1
      have := ih (l.drop (nxt l).2).length (by simp; omega) _ rfl
      rwa [List.drop_drop] at this

/-- A character's bytes behind a text that is gone through. -/
theorem nxt_append {l : List UInt8} (h : (nxt l).2 ≠ 0) (t : List UInt8) : nxt (l ++ t) = nxt l := by
  rcases nxt_cases l with ⟨c, hc, e⟩ | ⟨_, e⟩
  · rw [e, nxt_is (hc.append t)]
  · rw [e] at h; exact absurd rfl h

theorem thru_append {l : List UInt8} (h : thru l = l.length) (t : List UInt8) : thru (l ++ t) = l.length + thru t := by
  induction hn : l.length using Nat.strongRecOn generalizing l with
  | _ n ih =>
    subst hn
    by_cases h0 : (nxt l).2 = 0
    · rw [thru_stop h0] at h
      have : l = [] := List.length_eq_zero_iff.1 h.symm
      subst this; simp
    · have hle := (nxt_le l).1
      have hg := thru_go h0
      have ha := nxt_append h0 t
      have h0' : (nxt (l ++ t)).2 ≠ 0 := by rw [ha]; exact h0
      have e : (l ++ t).drop (nxt l).2 = l.drop (nxt l).2 ++ t := List.drop_append_of_le_length hle
      have hlen : (l.drop (nxt l).2).length = l.length - (nxt l).2 := by simp
      rw [thru_go h0', ha, e, ih (l.drop (nxt l).2).length (by simp; omega) (by simp; omega) rfl]
      omega

/-- What stands ahead of where a text stops is gone through. -/
theorem thru_take (l : List UInt8) : thru (l.take (thru l)) = thru l := by
  induction hn : l.length using Nat.strongRecOn generalizing l with
  | _ n ih =>
    subst hn
    by_cases h0 : (nxt l).2 = 0
    · rw [thru_stop h0]; simp [thru_stop, nxt_nil]
    · have hle := (nxt_le l).1
      have hg := thru_go h0
      have hrec := ih (l.drop (nxt l).2).length (by simp; omega) _ rfl
      have hb := thru_le (l.drop (nxt l).2)
      rcases nxt_cases l with ⟨c, hc, e⟩ | ⟨_, e⟩
      · have hn : (nxt l).2 = (enc c).length := by rw [e]
        have hi : Is (l.take (thru l)) c := by
          refine ⟨hc.1, ?_⟩
          rw [List.prefix_take_iff]
          exact ⟨hc.2, by omega⟩
        have h1 := nxt_is hi
        have h0' : (nxt (l.take (thru l))).2 ≠ 0 := by rw [h1]; have := enc_pos c; dsimp; omega
        have e2 : (nxt (l.take (thru l))).2 = (nxt l).2 := by rw [h1, e]
        rw [thru_go h0', e2]
        have e3 : (l.take (thru l)).drop (nxt l).2 = (l.drop (nxt l).2).take (thru (l.drop (nxt l).2)) := by
          rw [List.drop_take, hg]; congr 1; omega
        rw [e3, hrec, hg]
      · rw [e] at h0; exact absurd rfl h0

/-- A place where a text stops stays, whatever stands behind, if four bytes stand there. -/
theorem nxt_stay {l : List UInt8} (h : (nxt l).2 = 0) (h4 : 4 ≤ l.length) (t : List UInt8) : (nxt (l ++ t)).2 = 0 := by
  rcases nxt_cases (l ++ t) with ⟨c, hc, e⟩ | ⟨_, e⟩
  · have hp := enc_pos c
    have := nxt_is (hc.of_append (by omega))
    rw [this] at h; dsimp at h; omega
  · rw [e]

theorem thru_more (l t : List UInt8) : thru (l ++ t) = thru l + thru (l.drop (thru l) ++ t) := by
  have h := thru_take l
  have hle := thru_le l
  have e : l ++ t = l.take (thru l) ++ (l.drop (thru l) ++ t) := by rw [← List.append_assoc, List.take_append_drop]
  conv => lhs; rw [e]
  have hl : (l.take (thru l)).length = thru l := by simp; omega
  rw [thru_append (by rw [h, hl])]
  rw [hl]

end Go.Proofs.YtpcijjdlppoblaaGreatDoor

/- Contracts of package utf's functions: isSource, Put, found, Next. -/
namespace Go.Proofs.YtpcijjdlppoblaaGreatDoor
open Go.RowKit

set_option maxHeartbeats 400000 in
theorem src_any (r : Int) (w : World) :
    Calls Tryz.prog 99 #[.int .i64 r] w fun e w' => e = .returned (.bool (srcB r)) ∧ w = w' := by
  by_cases h9 : r = 9
  · subst h9
    go_enter Tryz.func99, Tryz.ntmps99
    go_wp2
    go_ret
    exact ⟨rfl, rfl⟩
  by_cases h10 : r = 10
  · subst h10
    go_enter Tryz.func99, Tryz.ntmps99
    go_wp2
    go_ret
    exact ⟨rfl, rfl⟩
  by_cases h13 : r = 13
  · subst h13
    go_enter Tryz.func99, Tryz.ntmps99
    go_wp2
    go_ret
    exact ⟨rfl, rfl⟩
  have e9 : (r == 9) = false := by simp [h9]
  have e10 : (r == 10) = false := by simp [h10]
  have e13 : (r == 13) = false := by simp [h13]
  by_cases h1 : 32 ≤ r <;> by_cases h2 : r ≤ 55295 <;> by_cases h3 : 57344 ≤ r <;> by_cases h4 : r ≤ 1114111
  all_goals
    go_enter Tryz.func99, Tryz.ntmps99
    go_wp2
    go_ret
    exact ⟨by simp [srcB, h9, h10, h13, h1, h2, h3, h4], rfl⟩

theorem putL_no {r : Int} (h : srcB r = false) : putL r = [] := by simp [putL, h]
theorem putL_yes {r : Int} (h : srcB r = true) : putL r = enc r.toNat := by simp [putL, h]

set_option maxHeartbeats 400000 in
theorem put_any (r : Int) (w : World) :
    Calls Tryz.prog 76 #[.int .i64 r] w fun e w' => e = .returned (.string (putA r)) ∧ w = w' := by
  cases h : srcB r
  · have e1 : putA r = ⟨#[]⟩ := by simp [putA, putL_no h]
    rw [e1]; clear e1
    go_enter Tryz.func76, Tryz.ntmps76
    go_wp2_with (go_at_call 99; refine (src_any _ _).mono ?_; rintro e w' ⟨rfl, rfl⟩)
    go_ret
    exact ⟨rfl, rfl⟩
  · have e1 : Utf8.encode r = putA r := by rw [encode_eq r h, putA, putL_yes h]
    have hr := (srcB_iff r).1 h
    have h0 : 0 ≤ r := by omega
    have h1 : r ≤ 1114111 := by omega
    have e2 : IntKind.i32.wrap r = r := by unfold IntKind.wrap; simp [IntKind.bits, IntKind.signed]; omega
    clear hr
    have E := Lib.hid e1; clear e1
    go_enter Tryz.func76, Tryz.ntmps76
    go_wp2_with (go_at_call 99; refine (src_any _ _).mono ?_; rintro e w' ⟨rfl, rfl⟩)
    go_ret
    refine ⟨?_, rfl⟩
    rw [← E.out]
    rfl

set_option maxHeartbeats 400000 in
theorem hp0_any (s p : ByteArray) (w : World) :
    Calls Tryz.prog 106 #[.string s, .string p] w fun e w' => e = .returned (.bool (Lib.hasPrefix s.data.toList p.data.toList)) ∧ w = w' := by
  rw [← Lib.hasPrefix_of_take, ← Lib.size_eq, ← Lib.size_eq]
  go_enter Tryz.func106, Tryz.ntmps106
  go_wp2
  · rename_i h
    go_ret
    refine ⟨?_, rfl⟩
    show Ending.returned (Value.bool ((s.extract 0 p.size).toList == p.toList)) = _
    rw [Lib.extract_toList, Lib.toList_data]
    simp [h]
  · rename_i h
    go_ret
    refine ⟨?_, rfl⟩
    show Ending.returned (Value.bool false) = _
    simp [h]
set_option maxHeartbeats 400000 in
theorem hp_any (s p : ByteArray) (w : World) :
    Calls Tryz.prog 86 #[.string s, .string p] w fun e w' => e = .returned (.bool (Lib.hasPrefix s.data.toList p.data.toList)) ∧ w = w' := by
  go_enter Tryz.func86, Tryz.ntmps86
  go_wp2_with (go_at_call 106; refine (hp0_any _ _ _).mono ?_; rintro e w' ⟨rfl, rfl⟩)
  go_ret
  exact ⟨rfl, rfl⟩

/-- What found answers. -/
def fndC (l : List UInt8) (c : Int) : Int := if srcB c = true ∧ (enc c.toNat).isPrefixOf l = true then c else 0
def fndN (l : List UInt8) (c : Int) : Int := if srcB c = true ∧ (enc c.toNat).isPrefixOf l = true then (enc c.toNat).length else 0

set_option maxHeartbeats 400000 in
theorem found_any (s : ByteArray) (c : Int) (w : World) (h0 : 0 ≤ c) (h1 : c ≤ 2147483647) :
    Calls Tryz.prog 98 #[.string s, .int .i32 c] w fun e w' => e = .returned (.tuple #[.int .i64 (fndC s.data.toList c), .int .i64 (fndN s.data.toList c)]) ∧ w = w' := by
  cases h : srcB c
  · have e1 : putA c = ⟨#[]⟩ := by simp [putA, putL_no h]
    have e2 : fndC s.data.toList c = 0 := by simp [fndC, h]
    have e3 : fndN s.data.toList c = 0 := by simp [fndN, h]
    rw [e2, e3]; clear e2 e3
    go_enter Tryz.func98, Tryz.ntmps98
    go_wp2_with (go_at_call 76; refine (put_any _ _).mono ?_; rintro e w' ⟨rfl, rfl⟩)
    go_ret2
    exact ⟨rfl, rfl⟩
  · have e1 : putA c = ⟨(enc c.toNat).toArray⟩ := by rw [putA, putL_yes h]
    have hn := enc_ne c.toNat
    cases hp : (enc c.toNat).isPrefixOf s.data.toList
    · have e2 : fndC s.data.toList c = 0 := by simp [fndC, hp]
      have e3 : fndN s.data.toList c = 0 := by simp [fndN, hp]
      rw [e2, e3]; clear e2 e3
      have e4 : (Lib.hasPrefix s.data.toList (putA c).data.toList) = false := by rw [e1]; exact hp
      have e5 : (putA c).toList.isEmpty = false := by rw [e1]; simpa [ByteArray.toList_eq] using hn
      have e6 : ¬ (putA c).toList = [] := by rw [e1]; simpa [ByteArray.toList_eq] using hn
      have E := Lib.hid e1; clear e1
      go_enter Tryz.func98, Tryz.ntmps98
      go_wp2_with (first | (go_at_call 76; refine (put_any _ _).mono ?_; rintro e w' ⟨rfl, rfl⟩) | (go_at_call 86; refine (hp_any _ _ _).mono ?_; rintro e w' ⟨rfl, rfl⟩))
      go_ret2
      exact ⟨rfl, rfl⟩
    · have e2 : fndC s.data.toList c = c := by simp [fndC, hp, h]
      have e3 : fndN s.data.toList c = ((putA c).size : Int) := by rw [e1]; simp [fndN, hp, h, lenA]
      rw [e2, e3]; clear e2 e3
      have e4 : (Lib.hasPrefix s.data.toList (putA c).data.toList) = true := by rw [e1]; exact hp
      have e5 : (putA c).toList.isEmpty = false := by rw [e1]; simpa [ByteArray.toList_eq] using hn
      have e6 : ¬ (putA c).toList = [] := by rw [e1]; simpa [ByteArray.toList_eq] using hn
      have E := Lib.hid e1; clear e1
      go_enter Tryz.func98, Tryz.ntmps98
      go_wp2_with (first | (go_at_call 76; refine (put_any _ _).mono ?_; rintro e w' ⟨rfl, rfl⟩) | (go_at_call 86; refine (hp_any _ _ _).mono ?_; rintro e w' ⟨rfl, rfl⟩))
      go_ret2
      exact ⟨rfl, rfl⟩


theorem fnd_nxt (l : List UInt8) : fndC l (Utf8.decode ⟨l.toArray⟩ 0).1 = (nxt l).1 ∧ fndN l (Utf8.decode ⟨l.toArray⟩ 0).1 = (nxt l).2 := by
  simp only [fndC, fndN, nxt, List.isPrefixOf_iff_prefix, Int.toNat_natCast]
  split <;> simp

/-- What Next does to the world: nothing, or a new block. -/
def Grew (w w' : World) : Prop := w' = w ∨ ∃ o, w' = w.alloc o
theorem Grew.below {w w' : World} (h : Grew w w') : Below w.heap.size w w' := by
  rcases h with rfl | ⟨o, rfl⟩
  · exact Below.refl _ _
  · exact (Below.refl _ _).alloc (Nat.le_refl _) _

def nxtC (s : ByteArray) (i : Int) : Int := if 0 ≤ i ∧ i < s.size then (nxt (s.data.toList.drop i.toNat)).1 else 0
def nxtN (s : ByteArray) (i : Int) : Int := if 0 ≤ i ∧ i < s.size then (nxt (s.data.toList.drop i.toNat)).2 else 0

set_option maxHeartbeats 1000000 in
theorem next_any (s : ByteArray) (i : Int) (w : World) :
    Calls Tryz.prog 75 #[.string s, .int .i64 i] w fun e w' => e = .returned (.tuple #[.int .i64 (nxtC s i), .int .i64 (nxtN s i)]) ∧ Grew w w' := by
  by_cases h0 : 0 ≤ i
  · by_cases h1 : i < s.size
    · obtain ⟨k, rfl⟩ := Int.eq_ofNat_of_zero_le h0
      have hk : k < s.size := by omega
      obtain ⟨t, ht⟩ : ∃ t, s.extract k s.size = t := ⟨_, rfl⟩
      have hts : t.size = s.size - k := by rw [← ht]; simp
      have hl : t.data.toList = s.data.toList.drop k := by rw [← ht, Lib.extract_data]; apply List.take_of_length_le; simp
      have e1 : nxtC s k = fndC t.data.toList (Utf8.decode t 0).1 := by
        have := (fnd_nxt t.data.toList).1
        rw [Lib.mk_data] at this
        rw [this, hl]; simp [nxtC, h1]
      have e2 : nxtN s k = fndN t.data.toList (Utf8.decode t 0).1 := by
        have := (fnd_nxt t.data.toList).2
        rw [Lib.mk_data] at this
        rw [this, hl]; simp [nxtN, h1]
      rw [e1, e2]; clear e1 e2 hl
      have hp : 0 < t.size := by omega
      have hd := decode_le t 0
      have hnx : ∀ ty, (Instr.next (.pointer (some ⟨w.heap.size, 0, none⟩)) true ty).run Tryz.prog (w.iter t 0) = _ := fun ty => run_next_any w t 0 ty hp
      have H := Lib.hid hts; clear hts
      go_enter Tryz.func75, Tryz.ntmps75
      go_wp2_with fail
      refine wp_loop_rounds 1 ?_
      rw [rounds_succ]
      go_wp2_with (go_at_call 98; refine (found_any _ _ _ (by omega) (by omega)).mono ?_; rintro e w' ⟨rfl, rfl⟩)
      go_ret2
      exact ⟨rfl, .inr ⟨_, rfl⟩⟩
    · have e1 : nxtC s i = 0 := by simp [nxtC, h1]
      have e2 : nxtN s i = 0 := by simp [nxtN, h1]
      rw [e1, e2]; clear e1 e2
      have h1' : (s.size : Int) ≤ i := by omega
      go_enter Tryz.func75, Tryz.ntmps75
      go_wp2
      go_ret2
      exact ⟨rfl, .inl rfl⟩
  · have e1 : nxtC s i = 0 := by simp [nxtC, h0]
    have e2 : nxtN s i = 0 := by simp [nxtN, h0]
    rw [e1, e2]; clear e1 e2
    have h1' : i < 0 := by omega
    go_enter Tryz.func75, Tryz.ntmps75
    go_wp2
    go_ret2
    exact ⟨rfl, .inl rfl⟩

end Go.Proofs.YtpcijjdlppoblaaGreatDoor

/- Package utf's iterator (characters), Bad and May: contracts. -/
namespace Go.Proofs.YtpcijjdlppoblaaGreatDoor
open Go.RowKit Go.Shelf
attribute [local go_sem] Oper.semAt_some

/-- Where the characters of l from place i on begin, and how many bytes each has. -/
def prs (l : List UInt8) (i : Nat) : List (Nat × Nat) :=
  if _h : (nxt (l.drop i)).2 = 0 then [] else (i, (nxt (l.drop i)).2) :: prs l (i + (nxt (l.drop i)).2)
termination_by l.length - i
decreasing_by have := (nxt_le (l.drop i)).1; simp at this; omega

theorem prs_stop {l : List UInt8} {i : Nat} (h : (nxt (l.drop i)).2 = 0) : prs l i = [] := by rw [prs, dif_pos h]
theorem prs_go {l : List UInt8} {i : Nat} (h : (nxt (l.drop i)).2 ≠ 0) : prs l i = (i, (nxt (l.drop i)).2) :: prs l (i + (nxt (l.drop i)).2) := by rw [prs, dif_neg h]

def lastEnd (a : Nat) (xs : List (Nat × Nat)) : Nat := xs.foldl (fun _ x => x.1 + x.2) a
theorem lastEnd_snoc (a : Nat) (xs : List (Nat × Nat)) (x : Nat × Nat) : lastEnd a (xs ++ [x]) = x.1 + x.2 := by simp [lastEnd]
theorem lastEnd_prs (l : List UInt8) (i : Nat) : lastEnd i (prs l i) = i + thru (l.drop i) := by
  induction hn : l.length - i using Nat.strongRecOn generalizing i with
  | _ n ih =>
    subst hn
    by_cases h : (nxt (l.drop i)).2 = 0
    · rw [prs_stop h, thru_stop h]; rfl
    · have hle := (nxt_le (l.drop i)).1
      simp at hle
      rw [prs_go h, thru_go h]
      have := ih (l.length - (i + (nxt (l.drop i)).2)) (by omega) (i + (nxt (l.drop i)).2) rfl
      rw [List.drop_drop]
      simp only [lastEnd, List.foldl_cons] at this ⊢
      rw [this]; omega

/-- A place and a number of bytes, both small. -/
abbrev Pr := { x : Nat × Nat // x.1 + x.2 ≤ 1000000000 }
def raw (xs : List Pr) : List (Nat × Nat) := xs.map (·.1)
theorem raw_snoc (xs : List Pr) (x : Pr) : raw (xs ++ [x]) = raw xs ++ [x.1] := by simp [raw]
theorem raw_len (xs : List Pr) : (raw xs).length = xs.length := by simp [raw]

theorem cell_new_l (W : World) (v : Value) (t : TypeId) : (W.alloc (.cells #[v] t)).cell? ⟨W.heap.size, 0, none⟩ = some v ∧ (W.alloc (.cells #[v] t)).frozen? ⟨W.heap.size, 0, none⟩ = false := by
  simp [go_sem]
theorem cell_alloc_l {W : World} {a : Addr} {v : Value} (o : Obj) (h : W.cell? a = some v) : (W.alloc o).cell? a = some v := cell_kept h (World.grownBy_alloc W o none) (fun r e => by cases e)
theorem frozen_alloc_l {W : World} {a : Addr} {v : Value} (o : Obj) (h : W.cell? a = some v) (hf : W.frozen? a = false) : (W.alloc o).frozen? a = false := (frozen_kept h (World.grownBy_alloc W o none) (fun r e => by cases e)).trans hf

/-- What a round of the caller keeps: all below n₀, and the box Bn. -/
def KpS (n₀ Bn : Nat) (W W' : World) : Prop := Below n₀ W W' ∧ ∀ v, W.cell? ⟨Bn, 0, none⟩ = some v → W'.cell? ⟨Bn, 0, none⟩ = some v
theorem kpS_t {n₀ Bn : Nat} {A B C : World} (h : KpS n₀ Bn A B) (k : KpS n₀ Bn B C) : KpS n₀ Bn A C := ⟨h.1.trans k.1, fun v hv => k.2 v (h.2 v hv)⟩
theorem kpS_b {n₀ Bn : Nat} {w : World} (hn : n₀ ≤ w.heap.size) (W : World) (l : Nat) (o o' : Obj) (hl : w.heap.size ≤ l) (h : W.heap[l]? = some o) (hc : o.isCells = false) (hw : o.isWalk = false) : KpS n₀ Bn W (W.putObj l o') :=
  ⟨belowK_b hn W l o o' hl h hc hw, fun v hv => cell_kept hv (grownBy_putObj' W l o') (fun r e => by cases e; exact ⟨o, h, hc⟩)⟩

theorem Grew.cell {W W' : World} (h : Grew W W') {a : Addr} {v : Value} (hv : W.cell? a = some v) : W'.cell? a = some v := by
  rcases h with rfl | ⟨o, rfl⟩
  · exact hv
  · exact cell_kept hv (World.grownBy_alloc W o none) (fun r e => by cases e)
theorem Grew.abides {β : Type} {B : Nat} {J : β → World → Prop} (hJ : AbidesFrom B J) {s : β} {W W' : World} (h : Grew W W') (hs : J s W) : J s W' := by
  rcases h with rfl | ⟨o, rfl⟩
  · exact hs
  · exact hJ s W _ none hs (World.grownBy_alloc W o none) (fun r e => by cases e)
theorem Grew.kpS {n₀ Bn : Nat} {W W' : World} (h : Grew W W') (hn : n₀ ≤ W.heap.size) : KpS n₀ Bn W W' := ⟨h.below.mono hn, fun _ hv => h.cell hv⟩

theorem nxtN_at (s : ByteArray) (k : Nat) (hk : k ≤ s.size) : nxtN s k = ((nxt (s.data.toList.drop k)).2 : Int) := by
  unfold nxtN
  by_cases h : k < s.size
  · simp [h]
  · have e : s.data.toList.drop k = [] := by apply List.drop_eq_nil_of_le; rw [← Lib.size_eq]; omega
    rw [e, nxt_nil, if_neg (by omega)]; rfl

set_option maxRecDepth 100000 in
set_option maxHeartbeats 2000000 in
theorem chars1_in (n : Nat) (hn : 1 ≤ n) (l Bn n₀ : Nat) (s : ByteArray) (hs : s.size ≤ 1000000000) (J Jx : List Pr → World → Prop) (W : World) (hJ : AbidesFrom W.heap.size J)
    (hY : ∀ pre x W1, J pre W1 → pre.length < (prs s.data.toList 0).length → YieldAt Fence.wide (n - 1) Tryz.prog l #[.int .i64 (x.1.1 : Nat), .int .i64 (x.1.2 : Nat)] W1 fun e W' =>
      (e = .returned (.bool true) ∧ J (pre ++ [x]) W' ∧ KpS n₀ Bn W1 W') ∨ (e = .returned (.bool false) ∧ Jx (pre ++ [x]) W'))
    (hBn : W.cell? ⟨Bn, 0, none⟩ = some (.string s)) (h0 : J [] W) :
    CallsIn Fence.wide n Tryz.prog 82 #[.func (.yield l) #[] #[], .pointer (some ⟨Bn, 0, none⟩)] W fun e W' => (∃ v, e = .returned v) ∧
      ((∃ ys, raw ys = prs s.data.toList 0 ∧ J ys W') ∨ (∃ pre, True ∧ Jx pre W')) := by
  refine callsIn_of_wp Tryz.func82 rfl trivial ?_ rfl
  simp only [Tryz.ntmps82, List.size_toArray, List.length_cons, List.length_nil, Nat.reduceAdd, Nat.reduceSub, Array.replicate_succ, Array.replicate_zero, List.push_toArray, List.append_toArray, List.nil_append, List.cons_append]
  gi_wp2
  gi_loopw [3] (fun i wr => ∃ (k : Nat) (pre : List Pr), k ≤ s.size ∧ i = .int .i64 k ∧ raw pre ++ prs s.data.toList k = prs s.data.toList 0 ∧ J pre wr ∧ wr.cell? ⟨Bn, 0, none⟩ = some (.string s))
    (fun i _ => s.size - (intOf i).toNat)
  case atStart => exact ⟨0, [], Nat.zero_le _, rfl, by simp [raw], h0, hBn⟩
  case round =>
    obtain ⟨k, pre, hk, rfl, hpre, hJs, hc⟩ := hrel
    have hN := nxtN_at s k hk
    obtain ⟨m, hm⟩ : ∃ m, (nxt (s.data.toList.drop k)).2 = m := ⟨_, rfl⟩
    have hle := (nxt_le (s.data.toList.drop k)).1
    have hlen : s.data.toList.length = s.size := (Lib.size_eq s).symm
    rw [hm] at hN
    rw [List.length_drop, hlen, hm] at hle
    have HP := Lib.hid hpre
    have HM := Lib.hid hm
    clear hpre hm hlen
    gi_wp2_with fail
    refine ⟨trivial, ?_⟩
    refine (callsIn_wide.2 (next_any s k wr)).mono ?_
    rintro e W1 ⟨rfl, hg⟩
    have hJ1 := hg.abides hJ hJs
    have hc1 := hg.cell hc
    by_cases h0m : m = 0
    · have hz : nxtN s k = 0 := by rw [hN, h0m]; rfl
      clear hN
      gi_wp2
      refine ⟨fun _ h => (by cases h), ?_⟩
      gi_wp2
      refine bodyPost_ret (results_none rfl _ _ _) rfl ?_
      refine ⟨⟨_, rfl⟩, .inl ⟨pre, ?_, hJ1⟩⟩
      rw [← HP.out, prs_stop (by rw [HM.out]; exact h0m)]; simp
    · have hpr : prs s.data.toList k = (k, m) :: prs s.data.toList (k + m) := by
        have := prs_go (l := s.data.toList) (i := k) (by rw [HM.out]; exact h0m)
        rwa [HM.out] at this
      have hl2 : pre.length < (prs s.data.toList 0).length := by rw [← HP.out, hpr]; simp [raw_len]
      have HPR := Lib.hid hpr; clear hpr
      obtain ⟨fn, tmps, assign, body, hy, hR⟩ := hY pre ⟨(k, m), by dsimp only; omega⟩ W1 hJ1 hl2
      dsimp only at hy
      have hz : ((m : Int) == 0) = false := by simp [h0m]
      gi_wp2
      refine hR.mono ?_
      rintro e W3 (⟨rfl, hJ3, hk3⟩ | ⟨rfl, hJx3⟩)
      · gi_wp2
        go_roundw
        case rel => exact ⟨k + m, pre ++ [⟨(k, m), by dsimp only; omega⟩], by omega, by simp, by rw [← HP.out, HPR.out, raw_snoc]; simp, hJ3, hk3.2 _ hc1⟩
        case measure => simp [intOf]; omega
      · gi_wp2
        refine bodyPost_ret (results_none rfl _ _ _) rfl ?_
        exact ⟨⟨_, rfl⟩, .inr ⟨_, trivial, hJx3⟩⟩

theorem chars_stops (n : Nat) (hn : 1 ≤ n) (Bn n₀ : Nat) (s : ByteArray) (hs : s.size ≤ 1000000000) (w : World) (hlt : Bn < w.heap.size) (hBn : w.cell? ⟨Bn, 0, none⟩ = some (.string s)) :
    SeqStopsK Fence.wide n Tryz.prog 82 #[.pointer (some ⟨Bn, 0, none⟩)] (fun x : Pr => #[.int .i64 (x.1.1 : Nat), .int .i64 (x.1.2 : Nat)]) (KpS n₀ Bn) (fun ys => raw ys = prs s.data.toList 0) (fun _ => True) (prs s.data.toList 0).length w :=
  fun l J Jx W hb hJ _ hY h0 => chars1_in n hn l Bn n₀ s hs J Jx W hJ hY ((hb.cell (p := ⟨Bn, 0, none⟩) hlt).trans hBn) h0

set_option maxHeartbeats 400000 in
theorem chars_any (s : ByteArray) (w : World) :
    Calls Tryz.prog 57 #[.string s] w fun e w' => e = .returned (.func (.func 82) #[] #[.pointer (some ⟨w.heap.size, 0, none⟩)]) ∧ w' = w.alloc (.cells #[.string s] 9) := by
  go_enter Tryz.func57, Tryz.ntmps57
  go_wp2
  go_ret
  exact ⟨rfl, rfl⟩

end Go.Proofs.YtpcijjdlppoblaaGreatDoor

/- Package utf's Bad and May: contracts. -/
namespace Go.Proofs.YtpcijjdlppoblaaGreatDoor
open Go.RowKit Go.Shelf
attribute [local go_sem] Oper.semAt_some

theorem badI_eq (s : ByteArray) : badI s.data.toList = if thru s.data.toList = s.size then -1 else (thru s.data.toList : Int) := by
  rw [badI, ← Lib.size_eq]

set_option maxRecDepth 100000 in
set_option maxHeartbeats 2000000 in
theorem bad_any (s : ByteArray) (hs : s.size ≤ 1000000000) (w : World) :
    Calls Tryz.prog 37 #[.string s] w fun e w' => e = .returned (.int .i64 (badI s.data.toList)) ∧ Below w.heap.size w w' := by
  refine (callsIn_wide (n := 4)).1 ?_
  refine callsIn_of_wp_marks Tryz.func37 rfl trivial ?_ rfl
  simp only [Tryz.ntmps37, List.size_toArray, List.length_cons, List.length_nil, Nat.reduceAdd, Nat.reduceSub, Array.replicate_succ, Array.replicate_zero, List.push_toArray, List.append_toArray, List.nil_append, List.cons_append]
  gi_wp2_with fail
  refine ⟨trivial, ?_⟩
  refine (callsIn_wide.2 (chars_any _ _)).mono ?_
  rintro e w' ⟨rfl, rfl⟩
  gi_wp2_with fail
  have hsn := cell_new_l w (.int .i64 0) 3
  have hb := cell_new_l (w.alloc (.cells #[.int .i64 0] 3)) (.string s) 9
  rw [World.size_alloc] at hb
  have hB0 : Below w.heap.size w ((w.alloc (.cells #[.int .i64 0] 3)).alloc (.cells #[.string s] 9)) := ((Below.refl _ w).alloc (Nat.le_refl _) _).alloc (by simp) _
  have hth : lastEnd 0 (prs s.data.toList 0) = thru s.data.toList := by rw [lastEnd_prs]; simp
  refine wpIn_rangeFunc_ownF rfl (by omega) (gf := 82) (lb := #[.pointer (some ⟨w.heap.size + 1, 0, none⟩)]) rfl trivial (enters_of Tryz.func82 (by kernel_rfl) rfl)
    (chars_stops _ (by omega) (w.heap.size + 1) w.heap.size s hs _ (by simp) hb.1) kpS_t (kpS_b (by simp; omega)) (Below.refl _ _) (fun _ => rfl)
    (fun pre W => (W.cell? ⟨w.heap.size, 0, none⟩ = some (.int .i64 (lastEnd 0 (raw pre) : Nat)) ∧ W.frozen? ⟨w.heap.size, 0, none⟩ = false) ∧ Below w.heap.size w W)
    (fun _ _ _ => False)
    (OwnFrom.and (Own.from (fun s A B row hs hg hr => ⟨cell_kept hs.1 hg hr, (frozen_kept hs.1 hg hr).trans hs.2⟩) _) (ownFrom_below (Nat.le_refl _) (by simp; omega)))
    (fun _ _ _ _ _ hs _ _ => hs)
    ⟨⟨cell_alloc_l _ hsn.1, frozen_alloc_l _ hsn.1 hsn.2⟩, hB0⟩
    (fun x => { tmps := #[.string s, undef, .int .i64 0, .pointer (some ⟨w.heap.size, 0, none⟩), .int .i64 (x.1.1 : Nat), .int .i64 (x.1.2 : Nat), .string s, .func (.func 82) #[] #[.pointer (some ⟨w.heap.size + 1, 0, none⟩)], .int .i64 (x.1.1 : Nat), .int .i64 (x.1.2 : Nat), undef, undef, undef, undef, undef, undef, undef, undef], defers := [] }) ?assign ?body ?done ?stop
  case assign =>
    intro l x W K hK
    gi_wp2
    exact hK
  case body =>
    rintro l pre ⟨⟨x, y⟩, hxy⟩ W ⟨⟨hc, hf⟩, hB⟩ _
    dsimp only at hxy
    have hL : ((lastEnd 0 (raw (pre ++ [⟨(x, y), hxy⟩])) : Nat) : Int) = x + y := by rw [raw_snoc, lastEnd_snoc]; simp
    have HL := Lib.hid hL; clear hL
    gi_wp2
    refine ⟨KeepsOthers.setCell _ _ _, ⟨(Below.refl w.heap.size W).setCell (p := ⟨w.heap.size, 0, none⟩) (Nat.le_refl _) _, fun v hv => ?_⟩, ⟨?_, ?_⟩, hB.setCell (p := ⟨w.heap.size, 0, none⟩) (Nat.le_refl _) _⟩
    · rw [World.cell?_setCell_far _ _ _ _ (by show w.heap.size ≠ w.heap.size + 1; omega)]; exact hv
    · rw [HL.out]; exact World.cell?_setCell_same' _ _ _ (by rw [hc]; rfl)
    · rw [World.frozen?_setCell]; exact hf
  case done =>
    rintro D ys W hD hys ⟨⟨hc, _⟩, hB⟩ hK
    rw [hys, hth] at hc
    have hle := thru_le s.data.toList
    rw [← Lib.size_eq] at hle
    have hbd := badI_eq s
    have hB' : Below w.heap.size w (W.putObj D (.deferred none)) := hB.trans (belowK_b (w := w) (Nat.le_refl _) W D _ _ (by simp at hD; omega) hK rfl rfl)
    generalize thru s.data.toList = t at *
    clear hys hth hsn hb
    by_cases ht : t = s.size
    · have ht' : ((t : Int) == (s.size : Int)) = true := by simp [ht]
      rw [if_pos ht] at hbd
      have HBD := Lib.hid hbd
      clear hbd
      gi_wp2
      refine ⟨by simp, .inl ⟨_, _, rfl, run_takeDeferred hK, ?_⟩⟩
      exact ⟨_, results_tmp rfl _ _ _, by rw [HBD.out]; rfl, hB'⟩
    · have ht' : ((t : Int) == (s.size : Int)) = false := by simp; omega
      rw [if_neg ht] at hbd
      have HBD := Lib.hid hbd
      clear hbd
      gi_wp2
      refine ⟨by simp, .inl ⟨_, _, rfl, run_takeDeferred hK, ?_⟩⟩
      exact ⟨_, results_tmp rfl _ _ _, by rw [HBD.out]; rfl, hB'⟩
  case stop =>
    rintro D c pre W _ _ h _
    exact h.elim

def mayB (l : List UInt8) : Bool := badI l == -1

end Go.Proofs.YtpcijjdlppoblaaGreatDoor

/- The chapter's example (awake); the laws UtfOrder and UtfLong: their mathematics and walks. -/
namespace Go.Proofs.YtpcijjdlppoblaaGreatDoor
open Go.RowKit


theorem exC : nxtC ⟨#[97, 195, 169]⟩ 1 = 233 := by decide +kernel
theorem exN : nxtN ⟨#[97, 195, 169]⟩ 1 = 2 := by decide +kernel
theorem exP : putA 233 = ⟨#[195, 169]⟩ := by decide +kernel
theorem exP0 : putA 0 = ⟨#[]⟩ := by decide +kernel
theorem exP1 : putA 55296 = ⟨#[]⟩ := by decide +kernel
theorem thru_ex1 : thru [97, 195, 169] = 3 := by
  rw [thru_go (by decide +kernel), show (nxt [97, 195, 169]).2 = 1 by decide +kernel]
  show 1 + thru [195, 169] = 3
  rw [thru_go (by decide +kernel), show (nxt [195, 169]).2 = 2 by decide +kernel]
  show 1 + (2 + thru []) = 3
  rw [thru_stop (by decide +kernel)]
theorem thru_ex2 : thru [97, 195] = 1 := by
  rw [thru_go (by decide +kernel), show (nxt [97, 195]).2 = 1 by decide +kernel]
  show 1 + thru [195] = 1
  rw [thru_stop (by decide +kernel)]
theorem exM : mayB [97, 195, 169] = true := by simp [mayB, badI, thru_ex1]
theorem exB : badI [97, 195] = 1 := by simp [badI, thru_ex2]

/-! ### UtfOrder -/
theorem bl_cons (a b : UInt8) (x y : List UInt8) : Op.bytesLess (a :: x) (b :: y) = true ↔ a.toNat < b.toNat ∨ (a.toNat = b.toNat ∧ Op.bytesLess x y = true) := by
  simp [Op.bytesLess, UInt8.lt_iff_toNat_lt, ← UInt8.toNat_inj]
theorem bl_nil (x : List UInt8) : Op.bytesLess x [] = true ↔ False := by cases x <;> simp [Op.bytesLess]

theorem enc_less {c d : Nat} (hc : srcB c = true) (hd : srcB d = true) : Op.bytesLess (enc c) (enc d) = true ↔ c < d := by
  rw [srcB_iff] at hc hd
  have k1 : c / 4096 = c / 64 / 64 := by omega
  have k2 : c / 262144 = c / 64 / 64 / 64 := by omega
  have k3 : d / 4096 = d / 64 / 64 := by omega
  have k4 : d / 262144 = d / 64 / 64 / 64 := by omega
  have t : ∀ n : Nat, n < 256 → (UInt8.ofNat n).toNat = n := fun n h => toNat_ofNat h
  by_cases c1 : c < 128
  · rw [enc1 c1]
    by_cases d1 : d < 128
    · rw [enc1 d1, bl_cons, bl_nil, t _ (by omega), t _ (by omega)]; (try simp only [and_false, or_false]); (try omega)
    · by_cases d2 : d < 2048
      · rw [enc2 (by omega) d2, bl_cons, t _ (by omega), t _ (by omega)]; (try simp only [and_false, or_false]); (try omega)
      · by_cases d3 : d < 65536
        · rw [enc3 (by omega) d3, bl_cons, t _ (by omega), t _ (by omega)]; (try simp only [and_false, or_false]); (try omega)
        · rw [enc4 (by omega), bl_cons, t _ (by omega), t _ (by omega)]; (try simp only [and_false, or_false]); (try omega)
  · by_cases c2 : c < 2048
    · rw [enc2 (by omega) c2]
      by_cases d1 : d < 128
      · rw [enc1 d1, bl_cons, bl_nil, t _ (by omega), t _ (by omega)]; (try simp only [and_false, or_false]); (try omega)
      · by_cases d2 : d < 2048
        · rw [enc2 (by omega) d2, bl_cons, bl_cons, bl_nil, t _ (by omega), t _ (by omega), t _ (by omega), t _ (by omega)]; (try simp only [and_false, or_false]); (try omega)
        · by_cases d3 : d < 65536
          · rw [enc3 (by omega) d3, bl_cons, t _ (by omega), t _ (by omega)]; (try simp only [and_false, or_false]); (try omega)
          · rw [enc4 (by omega), bl_cons, t _ (by omega), t _ (by omega)]; (try simp only [and_false, or_false]); (try omega)
    · by_cases c3 : c < 65536
      · rw [enc3 (by omega) c3]
        by_cases d1 : d < 128
        · rw [enc1 d1, bl_cons, bl_nil, t _ (by omega), t _ (by omega)]; (try simp only [and_false, or_false]); (try omega)
        · by_cases d2 : d < 2048
          · rw [enc2 (by omega) d2, bl_cons, t _ (by omega), t _ (by omega)]; (try simp only [and_false, or_false]); (try omega)
          · by_cases d3 : d < 65536
            · rw [enc3 (by omega) d3, bl_cons, bl_cons, bl_cons, bl_nil, t _ (by omega), t _ (by omega), t _ (by omega), t _ (by omega), t _ (by omega), t _ (by omega)]; (try simp only [and_false, or_false]); (try omega)
            · rw [enc4 (by omega), bl_cons, t _ (by omega), t _ (by omega)]; (try simp only [and_false, or_false]); (try omega)
      · rw [enc4 (by omega)]
        by_cases d1 : d < 128
        · rw [enc1 d1, bl_cons, bl_nil, t _ (by omega), t _ (by omega)]; (try simp only [and_false, or_false]); (try omega)
        · by_cases d2 : d < 2048
          · rw [enc2 (by omega) d2, bl_cons, t _ (by omega), t _ (by omega)]; (try simp only [and_false, or_false]); (try omega)
          · by_cases d3 : d < 65536
            · rw [enc3 (by omega) d3, bl_cons, t _ (by omega), t _ (by omega)]; (try simp only [and_false, or_false]); (try omega)
            · rw [enc4 (by omega), bl_cons, bl_cons, bl_cons, bl_cons, bl_nil, t _ (by omega), t _ (by omega), t _ (by omega), t _ (by omega), t _ (by omega), t _ (by omega), t _ (by omega), t _ (by omega)]; (try simp only [and_false, or_false]); (try omega)

theorem enc_inj {c d : Nat} (hc : srcB c = true) (hd : srcB d = true) (h : enc c = enc d) : c = d :=
  Is.one (l := enc c) ⟨hc, List.prefix_refl _⟩ ⟨hd, by rw [h]; exact List.prefix_refl _⟩

theorem putA_list (r : Int) : (putA r).toList = putL r := by simp [putA, ByteArray.toList_eq]
theorem putA_no {r : Int} (h : srcB r = false) : putA r = ⟨#[]⟩ := by simp [putA, putL_no h]
theorem putA_size (r : Int) : (putA r).size = (putL r).length := by simp [putA, lenA]
theorem src_nat {r : Int} (h : srcB r = true) : ((r.toNat : Nat) : Int) = r ∧ srcB ((r.toNat : Nat) : Int) = true := by
  have := (srcB_iff r).1 h
  have e : ((r.toNat : Nat) : Int) = r := by omega
  exact ⟨e, by rw [e]; exact h⟩
theorem put_ne {r : Int} (h : srcB r = true) : (putA r).toList.isEmpty = false ∧ ¬ (putA r).toList = [] := by
  have := enc_ne r.toNat
  rw [putA_list, putL_yes h]
  exact ⟨by simpa using this, this⟩

/-! ### UtfLong -/
def lenI (r : Int) : Int := if r < 128 then 1 else if r < 2048 then 2 else if r < 65536 then 3 else 4
theorem put_len {r : Int} (h : srcB r = true) : ((putA r).size : Int) = lenI r := by
  have := (srcB_iff r).1 h
  rw [putA_size, putL_yes h, enc_len]
  unfold lenI
  by_cases h1 : r < 128
  · rw [if_pos h1, if_pos (by omega)]; rfl
  · rw [if_neg h1, if_neg (by omega)]
    by_cases h2 : r < 2048
    · rw [if_pos h2, if_pos (by omega)]; rfl
    · rw [if_neg h2, if_neg (by omega)]
      by_cases h3 : r < 65536
      · rw [if_pos h3, if_pos (by omega)]; rfl
      · rw [if_neg h3, if_neg (by omega)]; rfl

/-- Bytes of a character: the first one, and the others. -/
theorem enc_bytes (c : Nat) (h : srcB c = true) : (c < 128 → ∀ k (hk : k < (enc c).length), ((enc c)[k]).toNat = c) ∧
    (128 ≤ c → ∀ k (hk : k < (enc c).length), (k = 0 → 192 ≤ ((enc c)[k]).toNat) ∧ (1 ≤ k → 128 ≤ ((enc c)[k]).toNat ∧ ((enc c)[k]).toNat < 192)) := by
  rw [srcB_iff] at h
  have t : ∀ n : Nat, n < 256 → (UInt8.ofNat n).toNat = n := fun n h => toNat_ofNat h
  refine ⟨fun h1 k hk => ?_, fun h1 k hk => ?_⟩
  · simp only [enc1 h1, List.length_cons, List.length_nil] at hk ⊢
    obtain rfl : k = 0 := by omega
    simp; omega
  · by_cases h2 : c < 2048
    · simp only [enc2 h1 h2, List.length_cons, List.length_nil] at hk ⊢
      match k, hk with
      | 0, _ => simp only [List.getElem_cons_zero]; rw [t _ (by omega)]; omega
      | 1, _ => simp only [List.getElem_cons_zero, List.getElem_cons_succ]; rw [t _ (by omega)]; omega
    · by_cases h3 : c < 65536
      · simp only [enc3 (c := c) (by omega) h3, List.length_cons, List.length_nil] at hk ⊢
        match k, hk with
        | 0, _ => simp only [List.getElem_cons_zero]; rw [t _ (by omega)]; omega
        | 1, _ => simp only [List.getElem_cons_zero, List.getElem_cons_succ]; rw [t _ (by omega)]; omega
        | 2, _ => simp only [List.getElem_cons_zero, List.getElem_cons_succ]; rw [t _ (by omega)]; omega
      · simp only [enc4 (c := c) (by omega), List.length_cons, List.length_nil] at hk ⊢
        match k, hk with
        | 0, _ => simp only [List.getElem_cons_zero]; rw [t _ (by omega)]; omega
        | 1, _ => simp only [List.getElem_cons_zero, List.getElem_cons_succ]; rw [t _ (by omega)]; omega
        | 2, _ => simp only [List.getElem_cons_zero, List.getElem_cons_succ]; rw [t _ (by omega)]; omega
        | 3, _ => simp only [List.getElem_cons_zero, List.getElem_cons_succ]; rw [t _ (by omega)]; omega

theorem putA_get {r : Int} (h : srcB r = true) (k : Nat) (hk : k < (putA r).size) : ((putA r)[k]'hk).toNat = ((enc r.toNat)[k]'(by rw [putA_size, putL_yes h] at hk; exact hk)).toNat := by
  have : ∀ (l l' : List UInt8) (e : l = l') (hk : k < (⟨l.toArray⟩ : ByteArray).size) (hk' : k < l'.length), ((⟨l.toArray⟩ : ByteArray)[k]'hk).toNat = (l'[k]'hk').toNat := by
    intro l l' e hk hk'; subst e; rfl
  exact this _ _ (putL_yes h) _ _

theorem long_math {r : Int} (h : srcB r = true) :
    (r < 128 → ∀ k (hk : k < (putA r).size), ((putA r)[k]'hk).toNat = r.toNat) ∧
    (128 ≤ r → ∀ k (hk : k < (putA r).size), (k = 0 → 192 ≤ ((putA r)[k]'hk).toNat) ∧ (1 ≤ k → 128 ≤ ((putA r)[k]'hk).toNat ∧ ((putA r)[k]'hk).toNat < 192)) := by
  obtain ⟨n, sn⟩ := src_nat h
  obtain ⟨p, q⟩ := enc_bytes r.toNat sn
  exact ⟨fun h1 k hk => by rw [putA_get h]; exact p (by omega) k _, fun h1 k hk => by rw [putA_get h]; exact q (by omega) k _⟩

end Go.Proofs.YtpcijjdlppoblaaGreatDoor
