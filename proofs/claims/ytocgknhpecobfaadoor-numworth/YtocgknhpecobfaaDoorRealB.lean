/- What a number's text tells (plain definitions), and contracts of TrimLeft, floatOf, tenTo, powerOf, size. -/
import Derived.Test.YtocgknhpecobfaaDoorRealA
namespace Go.Proofs.YtocgknhpecobfaaDoor
open Go.RowKit

theorem bel_trans {a b c : World} (h : Below a.heap.size a b) (k : Below b.heap.size b c) : Below a.heap.size a c := h.trans (k.mono h.size)
theorem bel_alloc {a b : World} (h : Below a.heap.size a b) (o : Obj) : Below a.heap.size a (b.alloc o) := h.alloc h.size o
theorem take_snoc (s : ByteArray) (k : Nat) (h : k < s.size) : s.data.toList.take (k + 1) = s.data.toList.take k ++ [s[k]] := by
  rw [List.take_succ_eq_append_getElem (by simpa using h)]; rfl
theorem ret_int {k : IntKind} {a b : Int} (h : a = b) : Ending.returned (.int k a) = .returned (.int k b) := by rw [h]

/-- A digit. -/
def isD (c : UInt8) : Bool := decide (48 ≤ c.toNat) && decide (c.toNat ≤ 57)
theorem isD_iff (c : UInt8) : isD c = true ↔ 48 ≤ c.toNat ∧ c.toNat ≤ 57 := by simp [isD]
/-- Digits as a number. -/
def dval (l : List UInt8) : Nat := l.foldl (fun a c => a * 10 + (c.toNat - 48)) 0
theorem dval_snoc (l : List UInt8) (c : UInt8) : dval (l ++ [c]) = dval l * 10 + (c.toNat - 48) := by simp [dval]
theorem dval_from (l : List UInt8) : ∀ a : Nat, l.foldl (fun a c => a * 10 + (c.toNat - 48)) a = a * 10 ^ l.length + dval l := by
  induction l with
  | nil => intro a; simp [dval]
  | cons c l ih =>
    intro a
    have e : dval (c :: l) = (0 * 10 + (c.toNat - 48)) * 10 ^ l.length + dval l := by
      show List.foldl _ 0 (c :: l) = _
      rw [List.foldl_cons, ih]
    rw [List.foldl_cons, ih, e, List.length_cons, Nat.pow_succ]
    rw [Nat.add_mul, Nat.zero_mul, Nat.zero_add, Nat.mul_assoc, Nat.mul_comm 10]
    omega
theorem dval_app (l m : List UInt8) : dval (l ++ m) = dval l * 10 ^ m.length + dval m := by
  rw [dval, List.foldl_append, dval_from]; rfl
theorem dval_lt (l : List UInt8) (h : l.all isD = true) : dval l < 10 ^ l.length := by
  induction l with
  | nil => simp [dval]
  | cons c l ih =>
    simp only [List.all_cons, Bool.and_eq_true, isD_iff] at h
    have := ih h.2
    have e : dval (c :: l) = dval [c] * 10 ^ l.length + dval l := dval_app [c] l
    have e1 : dval [c] = c.toNat - 48 := by simp [dval]
    rw [e, e1, List.length_cons, Nat.pow_succ]
    have : (c.toNat - 48) * 10 ^ l.length ≤ 9 * 10 ^ l.length := Nat.mul_le_mul_right _ (by omega)
    omega
theorem pow10_15 : (10:Nat)^15 = 1000000000000000 := by decide
theorem dval_lt15 (l : List UInt8) (h : l.all isD = true) (hl : l.length ≤ 15) : dval l < 1000000000000000 := by
  have := dval_lt l h
  have h2 : (10:Nat) ^ l.length ≤ 10 ^ 15 := Nat.pow_le_pow_right (by decide) hl
  rw [pow10_15] at h2
  omega

set_option maxHeartbeats 2000000 in
theorem trimByte_any (s : ByteArray) (c : UInt8) (w : World) :
    Calls Tryd.prog 38 #[.string s, .int .u8 c.toNat] w fun e w' => e = .returned (.string ⟨(Lib.trimLeftB s.data.toList c).toArray⟩) ∧ w = w' := by
  go_enter Tryd.func38, Tryd.ntmps38
  go_wp2
  go_loop [0] (fun v => ∃ k : Nat, k ≤ s.size ∧ v = .string ⟨(s.data.toList.drop k).toArray⟩ ∧ ∀ (j : Nat) b, j < k → s.data.toList[j]? = some b → b = c) (fun v => Lib.strSize v)
  case atStart => exact ⟨0, Nat.zero_le _, by simp, fun j b hj => absurd hj (Nat.not_lt_zero _)⟩
  case round =>
    obtain ⟨k, hk, rfl, hc⟩ := hrel
    have hts : (⟨(s.data.toList.drop k).toArray⟩ : ByteArray).size = s.size - k := by rw [Lib.size_mk, List.length_drop, ← Lib.size_eq]
    have hb0 : ∀ h, s.data.toList[k]? = some ((⟨(s.data.toList.drop k).toArray⟩ : ByteArray)[0]'h) := by
      intro h
      rw [← Lib.getElem_mk (s.data.toList.drop k) 0 h, List.getElem?_drop]
      rfl
    have hx1 : (⟨(s.data.toList.drop k).toArray⟩ : ByteArray).extract 1 (s.size - k) = ⟨(s.data.toList.drop (k + 1)).toArray⟩ := by
      rw [Lib.extract_mk, List.drop_drop, List.take_of_length_le (by simp; omega)]
    have hK := Lib.hid hc
    clear hc
    generalize ht : (⟨(s.data.toList.drop k).toArray⟩ : ByteArray) = t at hts hb0 hx1 ⊢
    have hK3 := Lib.hid ht
    clear ht
    have hkl := Lib.hid (show k ≤ s.data.toList.length by rw [← Lib.size_eq]; exact hk)
    by_cases h0 : 0 < t.size
    · have hbk := hb0 h0
      clear hb0
      by_cases heq : t[0]'h0 = c
      · have heq' : ((t[0]'h0).toNat : Int) = (c.toNat : Int) := by rw [heq]
        have hK2 := Lib.hid hbk
        clear hbk
        go_wp2
        refine ⟨⟨k + 1, by omega, rfl, fun j b hj hb => ?_⟩, ?_⟩
        · by_cases e : j = k
          · subst e
            have h2 := hK2.out
            have h3 : s.data.toList[j]? = some b := by simpa using hb
            rw [h2] at h3
            rw [← Option.some.inj h3, heq]
          · exact hK.out j b (by omega) (by simpa using hb)
        · rw [Lib.strSize_string, Lib.strSize_string, Lib.size_mk, List.length_drop, ← Lib.size_eq]
          omega
      · have hne' : ¬ ((t[0]'h0).toNat : Int) = (c.toNat : Int) := by
          intro e
          exact heq (UInt8.toNat_inj.1 (by exact_mod_cast e))
        have hbeq : (((t[0]'h0).toNat : Int) == (c.toNat : Int)) = false := by simpa using hne'
        have hK2 := Lib.hid hbk
        clear hbk
        go_wp2
        go_ret
        refine ⟨?_, rfl⟩
        have ht' := hK3.out
        show Ending.returned (Value.string t) = _
        rw [Lib.trimLeftB_drop s.data.toList c k hkl.out hK.out (fun b hb => by
          have h2 := hK2.out
          rw [h2] at hb
          rw [← Option.some.inj hb]
          exact heq), ht']
    · clear hb0
      go_wp2
      go_ret
      refine ⟨?_, rfl⟩
      have ht' := hK3.out
      show Ending.returned (Value.string t) = _
      rw [Lib.trimLeftB_drop s.data.toList c k hkl.out hK.out (fun b hb => by
        have : s.data.toList.length ≤ k := by rw [← Lib.size_eq]; omega
        simp [List.getElem?_eq_none this] at hb), ht']

set_option maxHeartbeats 1000000 in
set_option maxRecDepth 1000000 in
theorem trim_any (s : ByteArray) (w : World) :
    Calls Tryd.prog 29 #[.string s, .string ⟨#[48]⟩] w fun e w' => e = .returned (.string ⟨(Lib.trimLeftB s.data.toList 48).toArray⟩) ∧ w = w' := by
  by_cases h : s.toList = []
  · have hl : s.data.toList = [] := by rw [← Lib.toList_data]; exact h
    have hs0 : s = ⟨#[]⟩ := by rw [← Lib.mk_data s, hl]
    have HL := Lib.hid hl
    have HS := Lib.hid hs0
    clear hs0 hl
    go_enter Tryd.func29, Tryd.ntmps29
    go_wp2
    go_ret
    refine ⟨?_, rfl⟩
    show Ending.returned (Value.string s) = _
    rw [HL.out]
    simp [Lib.trimLeftB, HS.out]
  · have he : s.toList.isEmpty = false := by simpa using h
    go_enter Tryd.func29, Tryd.ntmps29
    go_wp2_with (go_at_call 38; refine (trimByte_any s 48 _).mono ?_; rintro e w' ⟨rfl, rfl⟩)
    go_ret
    exact ⟨rfl, rfl⟩

theorem ten_W : (4621819117588971520 : Nat) = W 10 := by decide +kernel
theorem mul_ten_run (a : Nat) (h : a < 900719925474099) (t : TypeId) (w : World) : (binOp .mul t (.float .f64 (W a)) (.float .f64 4621819117588971520)).run Tryd.prog w = .ok (.float .f64 (W (a * 10))) w :=
  run_float_arith w _ _ _ _ _ _ (by rw [ten_W]; exact mul_W a 10 (by omega) (by omega) (by omega))
theorem add_run (a b : Nat) (h : a + b < 9007199254740992) (t : TypeId) (w : World) : (binOp .add t (.float .f64 (W a)) (.float .f64 (W b))).run Tryd.prog w = .ok (.float .f64 (W (a + b))) w :=
  run_float_arith w _ _ _ _ _ _ (add_W a b (by omega) (by omega) h)

theorem all_take {l : List UInt8} (h : l.all isD = true) (k : Nat) : (l.take k).all isD = true := by
  rw [List.all_eq_true] at h ⊢
  exact fun x hx => h x (List.mem_of_mem_take hx)
theorem all_at {s : ByteArray} (h : s.data.toList.all isD = true) (k : Nat) (hk : k < s.size) : 48 ≤ s[k].toNat ∧ s[k].toNat ≤ 57 := by
  rw [List.all_eq_true] at h
  exact (isD_iff _).1 (h s[k] (by have : s[k] = s.data.toList[k]'(by simpa using hk) := rfl; rw [this]; exact List.getElem_mem _))

set_option maxHeartbeats 1000000 in
theorem floatOf_any (s : ByteArray) (w : World) (hd : s.data.toList.all isD = true) (hs : s.size ≤ 15) :
    Calls Tryd.prog 32 #[.string s] w fun e w' => e = .returned (.float .f64 (W (dval s.data.toList))) ∧ w = w' := by
  have HD := Lib.hid hd
  clear hd
  go_enter Tryd.func32, Tryd.ntmps32
  go_wp2
  go_loop [3, 4] (fun f i => ∃ k : Nat, k ≤ s.size ∧ i = .int .i64 k ∧ f = .float .f64 (W (dval (s.data.toList.take k)))) (fun _ i => s.size - (intOf i).toNat)
  case atStart => exact ⟨0, Nat.zero_le _, rfl, rfl⟩
  case round =>
    obtain ⟨k, hk, rfl, rfl⟩ := hrel
    by_cases hlt : k < s.size
    · have hb := all_at HD.out k hlt
      have hb1 := hb.1
      have hb2 := hb.2
      clear hb
      have ht := take_snoc s k hlt
      have hv : dval (s.data.toList.take (k + 1)) = dval (s.data.toList.take k) * 10 + (s[k].toNat - 48) := by rw [ht, dval_snoc]
      have HV := Lib.hid hv
      clear hv ht
      have hbd : dval (s.data.toList.take k) < 100000000000000 := by
        have := dval_lt (s.data.toList.take k) (all_take HD.out k)
        have h2 : (10:Nat) ^ (s.data.toList.take k).length ≤ 10 ^ 14 := Nat.pow_le_pow_right (by decide) (by have := List.length_take_le k s.data.toList; omega)
        have e14 : (10:Nat)^14 = 100000000000000 := by decide
        omega
      have hm := mul_ten_run (dval (s.data.toList.take k)) (by omega)
      have ha := add_run (dval (s.data.toList.take k) * 10) (s[k].toNat - 48) (by omega)
      have hw : IntKind.u8.wrap ((s[k].toNat : Int) - 48) = ((s[k].toNat - 48 : Nat) : Int) := by
        unfold IntKind.wrap; simp [IntKind.bits, IntKind.signed]; omega
      have hf : floatOfInt .f64 ((s[k].toNat - 48 : Nat) : Int) = W (s[k].toNat - 48) := floatOfInt_W _ (by omega)
      go_wp2
      go_round
      case rel => exact ⟨k + 1, by omega, by go_num, by rw [HV.out]⟩
      case measure => simp [intOf]; omega
    · have e : s.data.toList.take k = s.data.toList := List.take_of_length_le (by simp; omega)
      go_wp2
      go_ret
      exact ⟨rfl, rfl⟩

/-- 10 to a power, as a float. -/
def tenB : Nat → Nat
  | 0 => 4607182418800017408
  | k + 1 => (Ieee.double.mul (tenB k) 4621819117588971520).getD 0
theorem tenB_step : ∀ k, k < 22 → Ieee.double.mul (tenB k) 4621819117588971520 = some (tenB (k + 1)) := by decide +kernel
theorem tenB_fin : ∀ k, k < 23 → tenB k < 18446744073709551616 ∧ rg (tenB k) < 9218868437227405312 ∧ rg (tenB k) ≠ 0 := by decide +kernel
theorem tenB_W : ∀ k, k < 16 → tenB k = W (10 ^ k) := by decide +kernel

set_option maxHeartbeats 1000000 in
theorem tenTo_any (n : Nat) (w : World) (hn : n ≤ 22) :
    Calls Tryd.prog 33 #[.int .i64 n] w fun e w' => e = .returned (.float .f64 (tenB n)) ∧ w = w' := by
  go_enter Tryd.func33, Tryd.ntmps33
  go_wp2
  go_loop [3, 5] (fun f i => ∃ k : Nat, k ≤ n ∧ i = .int .i64 k ∧ f = .float .f64 (tenB k)) (fun _ i => n - (intOf i).toNat)
  case atStart => exact ⟨0, Nat.zero_le _, rfl, rfl⟩
  case round =>
    obtain ⟨k, hk, rfl, rfl⟩ := hrel
    by_cases hlt : k < n
    · have hm : ∀ (t : TypeId) (w : World), (binOp .mul t (.float .f64 (tenB k)) (.float .f64 4621819117588971520)).run Tryd.prog w = .ok (.float .f64 (tenB (k + 1))) w :=
        fun t w => run_float_arith w _ _ _ _ _ _ (tenB_step k (by omega))
      go_wp2
      go_round
      case rel => exact ⟨k + 1, by omega, by go_num, rfl⟩
      case measure => simp [intOf]; omega
    · obtain rfl : k = n := by omega
      go_wp2
      go_ret
      exact ⟨rfl, rfl⟩

/-- The number behind the e, with its sign. -/
def sgnd (g : List UInt8) (n : Nat) : Int := if g = [45] then -(n : Int) else n
/-- The number behind the e, at most 1000000. -/
def pw (l : List UInt8) : Nat := l.foldl (fun a c => min (a * 10 + (c.toNat - 48)) 1000000) 0
theorem pw_snoc (l : List UInt8) (c : UInt8) : pw (l ++ [c]) = min (pw l * 10 + (c.toNat - 48)) 1000000 := by simp [pw]
theorem pw_le (l : List UInt8) : pw l ≤ 1000000 := by
  rcases List.eq_nil_or_concat l with rfl | ⟨m, c, rfl⟩
  · simp [pw]
  · rw [List.concat_eq_append, pw_snoc]; omega

set_option maxHeartbeats 1000000 in
theorem powerOf_any (g s : ByteArray) (w : World) (hd : s.data.toList.all isD = true) (hs : s.size ≤ 1000000000) :
    Calls Tryd.prog 28 #[.string g, .string s] w fun e w' => e = .returned (.int .i64 (sgnd g.data.toList (pw s.data.toList))) ∧ w = w' := by
  have HD := Lib.hid hd
  clear hd
  go_enter Tryd.func28, Tryd.ntmps28
  go_wp2
  go_loop [5, 6] (fun f i => ∃ k : Nat, k ≤ s.size ∧ i = .int .i64 k ∧ f = .int .i64 (pw (s.data.toList.take k))) (fun _ i => s.size - (intOf i).toNat)
  case atStart => exact ⟨0, Nat.zero_le _, rfl, rfl⟩
  case round =>
    obtain ⟨k, hk, rfl, rfl⟩ := hrel
    by_cases hlt : k < s.size
    · have hb := all_at HD.out k hlt
      have hb1 := hb.1
      have hb2 := hb.2
      clear hb
      have ht := take_snoc s k hlt
      have hv : pw (s.data.toList.take (k + 1)) = min (pw (s.data.toList.take k) * 10 + (s[k].toNat - 48)) 1000000 := by rw [ht, pw_snoc]
      have HV := Lib.hid hv
      clear hv ht
      have hbd := pw_le (s.data.toList.take k)
      have hw : IntKind.u8.wrap ((s[k].toNat : Int) - 48) = ((s[k].toNat - 48 : Nat) : Int) := by
        unfold IntKind.wrap; simp [IntKind.bits, IntKind.signed]; omega
      go_wp2
      all_goals
        go_round
        case rel => exact ⟨k + 1, by omega, by go_num, by rw [HV.out]; congr 1; omega⟩
        case measure => simp [intOf]; omega
    · have e : s.data.toList.take k = s.data.toList := List.take_of_length_le (by simp; omega)
      have hbd := pw_le s.data.toList
      by_cases hg : g.toList = [45]
      · have hg' : g.data.toList = [45] := by rw [← Lib.toList_data]; exact hg
        have HG := Lib.hid hg'
        clear hg'
        go_wp2
        go_ret
        exact ⟨ret_int (by unfold sgnd; rw [if_pos HG.out]), rfl⟩
      · have hg' : ¬ g.data.toList = [45] := by rw [← Lib.toList_data]; exact hg
        have HG := Lib.hid hg'
        have hgb : (g.toList == [45]) = false := by simpa using hg
        clear hg' hg
        go_wp2
        go_ret
        exact ⟨ret_int (by unfold sgnd; rw [if_neg HG.out]), rfl⟩
end Go.Proofs.YtocgknhpecobfaaDoor
