/- What a string tells: characters, and bytes below 32. (The mathematics of TextH, for seats that lack layer 6's laws.) -/
import Derived.Test.YtpcijjdlppoblaaGreatDoorTextE
namespace Go.Proofs.YtpcijjdlppoblaaGreatDoor
set_option linter.unusedVariables false

/-- Characters, and bytes below 32. -/
inductive Ch : List UInt8 → Prop
  | nil : Ch []
  | chr {c : Nat} {v : List UInt8} : srcB c = true → Ch v → Ch (enc c ++ v)
  | low {b : UInt8} {v : List UInt8} : b.toNat < 32 → Ch v → Ch (b :: v)
theorem Ch.append {a b : List UInt8} (h : Ch a) (k : Ch b) : Ch (a ++ b) := by
  induction h with
  | nil => exact k
  | chr hs _ ih => rw [List.append_assoc]; exact .chr hs ih
  | low hb _ ih => exact .low hb ih
theorem ch_one {c : Nat} (h : srcB c = true) : Ch (enc c) := by have := Ch.chr h .nil; rwa [List.append_nil] at this
theorem ch_byte {b : UInt8} (h : b.toNat < 128) (hs : srcB b.toNat = true) : Ch [b] := by
  have := ch_one hs
  rw [enc1 h] at this
  simpa using this
theorem ch_sh {c b : UInt8} (h : shB c = some b) : Ch [b] := by
  unfold shB at h
  split at h
  · rename_i h9
    cases h
    rcases h9 with rfl | rfl | rfl
    · exact ch_byte (by decide) (by decide)
    · exact ch_byte (by decide) (by decide)
    · exact ch_byte (by decide) (by decide)
  · split at h
    · cases h; exact .low (by decide) .nil
    · split at h
      · cases h; exact .low (by decide) .nil
      · split at h
        · cases h; exact .low (by decide) .nil
        · split at h
          · cases h; exact .low (by decide) .nil
          · split at h
            · cases h; exact .low (by decide) .nil
            · cases h
theorem ch_pce {l t : List UInt8} {k : Nat} (h : pce l = some (t, k)) : Ch t := by
  by_cases h92 : l.head? = some 92
  · rw [pce_esc h92] at h
    match l, h, h92 with
    | a :: c :: r, h, hh =>
      obtain rfl : a = 92 := by simpa using hh
      by_cases hc : c = 117
      · subst hc
        rw [esc_uni] at h
        rcases uni_some h with ⟨n, hn, h1, h2, rfl, -⟩ | ⟨n, m, hn, h2, hm, h3, ht, -⟩
        · obtain ⟨q, _, hx⟩ := cod_some hn
          have hb := hx4_lt hx
          unfold putC
          split
          · rename_i h9; exact .low (by rw [toNat_ofNat (by omega)]; exact h9) .nil
          · rename_i h9; exact ch_one (put_src hb h1 h2 (by omega))
        · rw [ht]; exact ch_one (two_bd h2 h3).2.2
      · rw [esc_sh hc, Option.bind_eq_some_iff] at h
        obtain ⟨b, hb, h⟩ := h
        cases h
        exact ch_sh hb
  · unfold pce at h
    rw [if_neg h92] at h
    split at h
    · cases h
    · rename_i hn
      rcases nxt_cases l with ⟨c, hc, e⟩ | ⟨_, e⟩
      · rw [e] at h
        cases h
        obtain ⟨hs, r, hr⟩ := hc
        show Ch (l.take (enc c).length)
        rw [← hr, List.take_left]; exact ch_one hs
      · rw [e] at hn; exact absurd (.inl rfl) hn
theorem Bd.ch {p v : List UInt8} (h : Bd p v) : Ch v := by
  induction h with
  | nil => exact .nil
  | @cons p t q v hp _ ih =>
    have := hp.is []
    exact (ch_pce this).append ih
end Go.Proofs.YtpcijjdlppoblaaGreatDoor
