/- The law MarkWords' mathematics: what a token shows is that token alone. No program. -/
import Derived.Test.YtpcijjdlppoblaaGreatDoorLexN
import Derived.Test.YtpcijjdlppoblaaGreatDoorLexB
import Derived.Test.YtpcijjdlppoblaaGreatDoorQuoE
import Derived.Test.YtpcijjdlppoblaaGreatDoorTxtR
namespace Go.Proofs.YtpcijjdlppoblaaGreatDoor
open Go.RowKit
set_option linter.unusedVariables false

/-- A byte that a word has. -/
def wdI (x : Int) : Bool := decide (33 ≤ x ∧ x < 128)
theorem wd_of {p : Int → Bool} {S : List UInt8} (h : ∀ c ∈ S, wdI c.toNat = true) : ∀ x, Sc.inS S x = true → wdI x = true := fun x hx => by
  rw [Sc.inS, List.any_eq_true] at hx
  obtain ⟨c, hc, e⟩ := hx
  rw [beq_iff_eq] at e
  rw [← e]; exact h c hc
theorem wd_dg : ∀ x, Sc.dgI x = true → wdI x = true := fun x hx => by
  have : 48 ≤ x ∧ x ≤ 57 := by simpa [Sc.dgI] using hx
  simp [wdI]; omega
theorem wd_bg : ∀ x, Sc.bgI x = true → wdI x = true := fun x hx => by
  have : (97 ≤ x ∧ x ≤ 122) ∨ (65 ≤ x ∧ x ≤ 90) ∨ x = 95 := by simpa [Sc.bgI] using hx
  simp [wdI]; omega
theorem fin_by {k : Int} {l : List UInt8} {j : Int} (h : (Sc.finA k l j).b = true) : (Sc.finA k l j).e = j := by
  cases hm : Sc.sd Sc.moreI l j
  · rw [Sc.finA_f hm]
  · rw [Sc.finA_t hm] at h; cases h
theorem sign_by {l : List UInt8} {j i : Int} (h1 : j ≤ i) (h2 : i < Sc.signA l j) : Sc.sd wdI l i = true := by
  unfold Sc.signA at h2
  cases hs : Sc.sd (Sc.inS Sc.signB) l j
  · rw [hs] at h2; change i < j at h2; omega
  · rw [hs] at h2
    change i < j + 1 at h2
    obtain rfl : i = j := by omega
    exact Sc.sd_imp (wd_of (p := wdI) (by decide)) hs
theorem dg_by {l : List UInt8} {j i : Int} (h1 : j ≤ i) (h2 : i < Sc.dgE l j) : Sc.sd wdI l i = true := Sc.sd_imp wd_dg (Sc.dgE_go h1 h2)
theorem exp_by {k : Int} {l : List UInt8} {j i : Int} (hb : (Sc.expA k l j).b = true) (h1 : j ≤ i) (h2 : i < (Sc.expA k l j).e) : Sc.sd wdI l i = true := by
  cases he : Sc.sd (Sc.inS Sc.eB) l j
  · rw [Sc.expA_n he] at hb h2
    rw [fin_by hb] at h2; omega
  · cases hd : Sc.sd Sc.dgI l (Sc.signA l (j + 1))
    · rw [Sc.expA_w he hd] at hb; cases hb
    · rw [Sc.expA_y he hd] at hb h2
      rw [fin_by hb] at h2
      by_cases e : i = j
      · subst e; exact Sc.sd_imp (wd_of (p := wdI) (by decide)) he
      · by_cases e2 : i < Sc.signA l (j + 1)
        · exact sign_by (by omega) e2
        · exact dg_by (by omega) h2
theorem frac_by {l : List UInt8} {j i : Int} (hb : (Sc.fracA l j).b = true) (h1 : j ≤ i) (h2 : i < (Sc.fracA l j).e) : Sc.sd wdI l i = true := by
  cases he : Sc.sd (Sc.inS Sc.dotB) l j
  · rw [Sc.fracA_n he] at hb h2
    exact exp_by hb h1 h2
  · cases hd : Sc.sd Sc.dgI l (j + 1)
    · rw [Sc.fracA_w he hd] at hb; cases hb
    · rw [Sc.fracA_y he hd] at hb h2
      by_cases e : i = j
      · subst e; exact Sc.sd_imp (wd_of (p := wdI) (by decide)) he
      · by_cases e2 : i < Sc.dgE l (j + 1)
        · exact dg_by (by omega) e2
        · exact exp_by hb (by omega) h2
theorem body_by {l : List UInt8} {j i : Int} (hb : (Sc.bodyA l j).b = true) (h1 : j ≤ i) (h2 : i < (Sc.bodyA l j).e) : Sc.sd wdI l i = true := by
  cases he : Sc.sd (Sc.inS Sc.zeroB) l j
  · cases hd : Sc.sd Sc.dgI l j
    · rw [Sc.bodyA_w he hd] at hb; cases hb
    · rw [Sc.bodyA_y he hd] at hb h2
      by_cases e2 : i < Sc.dgE l j
      · exact dg_by h1 e2
      · exact frac_by hb (by omega) h2
  · rw [Sc.bodyA_z he] at hb h2
    by_cases e : i = j
    · subst e; exact Sc.sd_imp (wd_of (p := wdI) (by decide)) he
    · exact frac_by hb (by omega) h2
theorem num_by {l : List UInt8} {i : Int} (hb : (Sc.numA l 0).b = true) (h1 : 0 ≤ i) (h2 : i < (Sc.numA l 0).e) : Sc.sd wdI l i = true := by
  unfold Sc.numA at hb h2
  by_cases e : i < Sc.minusA l 0
  · unfold Sc.minusA at e
    cases hs : Sc.sd (Sc.inS Sc.minusB) l 0
    · rw [hs] at e; change i < 0 at e; omega
    · rw [hs] at e
      change i < 0 + 1 at e
      obtain rfl : i = 0 := by omega
      exact Sc.sd_imp (wd_of (p := wdI) (by decide)) hs
  · exact body_by hb (by omega) h2
theorem wd_byte {b : UInt8} (h : wdI b.toNat = true) : 32 ≤ b.toNat ∧ b.toNat < 128 := by
  have : (33 : Int) ≤ b.toNat ∧ (b.toNat : Int) < 128 := by simpa [wdI] using h
  omega
/-- The text of a token that is no string: bytes from 33 to 127. -/
theorem tk_bytes {l : List UInt8} (he : (tk l).e = 0) (hk : (tk l).k ≠ 5) : ∀ b ∈ (tk l).v, 32 ≤ b.toNat ∧ b.toNat < 128 := by
  cases l with
  | nil => cases he
  | cons c t =>
    change (tkC c (c :: t)).e = 0 at he
    change (tkC c (c :: t)).k ≠ 5 at hk
    show ∀ b ∈ (tkC c (c :: t)).v, 32 ≤ b.toNat ∧ b.toNat < 128
    have hw := way c (c :: t)
    revert he hk hw
    generalize tkC c (c :: t) = r
    intro he hk hw
    cases hw with
    | dots h1 h2 => exact fun b hb => (by decide : ∀ b ∈ d3, 32 ≤ b.toNat ∧ b.toNat < 128) b hb
    | dot h1 h2 => cases he
    | sign h1 h2 =>
      intro b hb
      obtain rfl : b = c := by simpa using hb
      have : b ∈ sgL := by simpa using h2
      exact (by decide : ∀ b ∈ sgL, 32 ≤ b.toNat ∧ b.toNat < 128) b this
    | name h1 h2 h3 =>
      intro b hb
      have e0 : Sc.nmT (c :: t) = Sc.rn Sc.nmI (c :: t) := by rw [Sc.nmT_cons, if_pos h3]
      change b ∈ (c :: t).take (Sc.nmT (c :: t)) at hb
      rw [e0] at hb
      obtain ⟨j, hj, rfl⟩ := List.getElem_of_mem hb
      rw [List.getElem_take]
      rw [List.length_take] at hj
      obtain ⟨hl, hp⟩ := Sc.rn_lt (p := Sc.nmI) (l := c :: t) (n := j) (by omega)
      refine wd_byte ?_
      unfold Sc.nmI at hp
      rw [Bool.or_eq_true] at hp
      rcases hp with hp | hp
      · exact wd_bg _ hp
      · exact wd_dg _ hp
    | num h1 h2 h3 h4 =>
      unfold tkNum at he hk ⊢
      cases hb : (Sc.numA (c :: t) 0).b
      · rw [if_neg (by rw [hb]; decide)] at he; cases he
      · rw [if_pos rfl]
        intro b hmem
        change b ∈ (c :: t).take (Sc.numA (c :: t) 0).e.toNat at hmem
        obtain ⟨j, hj, rfl⟩ := List.getElem_of_mem hmem
        rw [List.getElem_take]
        rw [List.length_take] at hj
        have h := num_by hb (i := (j : Int)) (by omega) (by omega)
        rw [Sc.sd_true] at h
        have h3 := h.2.2
        rw [Int.toNat_natCast, List.getD_eq_getElem?_getD, List.getElem?_eq_getElem (by omega)] at h3
        exact wd_byte h3
    | raw h1 h2 =>
      unfold tkRaw at he hk
      cases hb : (Fo.rawA (c :: t) 0).b
      · rw [if_neg (by rw [hb]; decide)] at he; cases he
      · rw [if_pos hb] at hk; exact absurd rfl hk
    | str h1 h2 =>
      unfold tkStr at he hk
      cases hb : (strA (c :: t) 0).b
      · rw [if_neg (by rw [hb]; decide)] at he; cases he
      · rw [if_pos hb] at hk; exact absurd rfl hk
    | bad h1 h2 h3 h4 h5 => cases he
theorem tok_lenM (l : List UInt8) : (tk l).v.length ≤ l.length := by
  cases l with
  | nil => exact Nat.le_refl _
  | cons c t =>
    show (tkC c (c :: t)).v.length ≤ _
    have hw := way c (c :: t)
    revert hw
    generalize tkC c (c :: t) = r
    intro hw
    cases hw with
    | dots h1 h2 => exact Fo.pre_len h2
    | dot h1 h2 => exact Nat.zero_le _
    | sign h1 h2 => simp
    | name h1 h2 h3 => exact List.length_take_le' _ _
    | num h1 h2 h3 h4 => unfold tkNum; split; exact List.length_take_le' _ _; exact Nat.zero_le _
    | raw h1 h2 =>
      unfold tkRaw; split
      · exact Nat.le_trans (Fo.fld_len _) (Fo.rawA_n (c :: t) 0).2.2.2.2
      · exact Nat.zero_le _
    | str h1 h2 =>
      unfold tkStr; split
      · exact (str_bd (c :: t)).2.2.1
      · exact Nat.zero_le _
    | bad h1 h2 h3 h4 h5 => exact Nat.zero_le _
/-- Each token that is handed on is told where nothing stands. -/
theorem ylds_at (r : List UInt8) (o : Nat) : ∀ y ∈ ylds r o, ∃ q : List UInt8, y.t = tk q ∧ Sc.st q = 0 ∧ q ≠ [] ∧ q.length ≤ r.length := by
  refine ylds_ind (M := fun r o => ∀ y ∈ ylds r o, ∃ q : List UInt8, y.t = tk q ∧ Sc.st q = 0 ∧ q ≠ [] ∧ q.length ≤ r.length) ?_ ?_ ?_ r o
  · intro r o h y hy
    rw [ylds_stop o h] at hy; cases hy
  · intro r o h he y hy
    rw [ylds_err o h rfl he] at hy
    obtain rfl : y = ⟨tk (r.drop (Sc.blT r)), o + Sc.blT r⟩ := by simpa using hy
    exact ⟨r.drop (Sc.blT r), rfl, Sc.blT_end r, fun e => by have := congrArg List.length e; rw [List.length_drop] at this; simp at this; omega, by rw [List.length_drop]; omega⟩
  · intro r o h he ih y hy
    rw [ylds_go o h rfl he, List.mem_cons] at hy
    rcases hy with rfl | hy
    · exact ⟨r.drop (Sc.blT r), rfl, Sc.blT_end r, fun e => by have := congrArg List.length e; rw [List.length_drop] at this; simp at this; omega, by rw [List.length_drop]; omega⟩
    · obtain ⟨q, h1, h2, h3, h4⟩ := ih y hy
      exact ⟨q, h1, h2, h3, by rw [List.length_drop] at h4; omega⟩
theorem st_same {c : UInt8} {t : List UInt8} (h : Sc.st (c :: t) = 0) (hc : c.toNat < 128) (t' : List UInt8) : Sc.st (c :: t') = 0 := by
  rw [Sc.st_cons] at h ⊢
  by_cases h1 : Sc.wsI c.toNat = true
  · rw [if_pos h1] at h; cases h
  rw [if_neg h1] at h ⊢
  by_cases h2 : c = 35
  · rw [if_pos h2] at h
    subst h2
    rw [Sc.rn_yes t (by decide)] at h
    omega
  rw [if_neg h2]
  rw [if_neg]
  intro h3
  have : Sc.mkL.isPrefixOf (c :: t') = ((239 : UInt8) == c && _) := rfl
  rw [this, Bool.and_eq_true, beq_iff_eq] at h3
  rw [← h3.1] at hc
  exact absurd hc (by decide)
/-- One token alone. -/
theorem ylds_one {v : List UInt8} {t : Tk} (h0 : Sc.st v = 0) (hv : v ≠ []) (ht : tk v = t) (he : t.e = 0) (hn : t.n = v.length) : ylds v 0 = [⟨t, 0⟩] := by
  rw [ylds_step 0 h0 (List.length_pos_iff.2 hv) ht he, hn, List.drop_length, ylds_stop _ (by simp)]
/-- What a token shows, is that token alone. -/
theorem shown_alone {q : List UInt8} (he : (tk q).e = 0) (h0 : Sc.st q = 0) (hq : q.length ≤ 600) : ∃ (sv : List UInt8) (t : Tk), shQ ⟨(tk q).k, mkb (tk q).v, (0 : Int), (0 : Int)⟩ = some (mkb sv) ∧ sv.length ≤ 100000 ∧ thru sv = sv.length ∧ ylds sv 0 = [⟨t, 0⟩] ∧ t.e = 0 ∧ t.k = (tk q).k ∧ t.v = (tk q).v := by
  have hl := tok_lenM q
  have hok := tk_ok q
  by_cases h5 : (tk q).k = 5
  · obtain ⟨cs, hc⟩ := tk_qt he h5
    have hz := hc.len
    refine ⟨quo cs, ⟨5, (tk q).v, (quo cs).length, 0⟩, ?_, ?_, hc.quo.1, ?_, rfl, h5.symm, rfl⟩
    · rw [shQ, if_pos h5]
      show (qtA (mkb (tk q).v).data.toList).map _ = _
      rw [mkb_data, qtA_iff.2 hc]; rfl
    · rw [quo_len]; omega
    · refine ylds_one ?_ (fun e => by have := congrArg List.length e; rw [quo_len] at this; simp at this) (tk_quo hc) rfl rfl
      show Sc.st (34 :: (qb cs ++ [34])) = 0
      exact st_same (t := []) (by decide) (by decide) _
  · obtain ⟨a1, a2⟩ := tk_alone he h5
    have hb := tk_bytes he h5
    have hn := hok.ok he
    have hle := hok.le
    refine ⟨(tk q).v, tk q, by rw [shQ, if_neg h5], by omega, thru_ascii hb, ?_, he, rfl, rfl⟩
    have hvl : (tk q).v.length = (tk q).n := by
      have := congrArg List.length a2
      rw [List.length_take] at this; omega
    refine ylds_one ?_ (fun e => by rw [e] at hvl; simp at hvl; omega) (by rw [← a2] at a1; exact a1) he hvl.symm
    cases q with
    | nil => cases he
    | cons c t =>
      obtain ⟨m, hm⟩ : ∃ m, (tk (c :: t)).n = m + 1 := ⟨(tk (c :: t)).n - 1, by omega⟩
      have hb' := hb c (by rw [a2, hm, List.take_succ_cons]; exact List.mem_cons_self)
      rw [a2, hm, List.take_succ_cons]
      exact st_same h0 hb'.2 _
theorem errOf_neM {ys : List Yl} (h : allOk ys = false) : (errOf ys).1 ≠ 0 := by
  induction ys with
  | nil => cases h
  | cons y ys ih =>
    show (if y.t.e = 0 then errOf ys else _).1 ≠ 0
    by_cases he : y.t.e = 0
    · rw [if_pos he]; exact ih (by simpa [allOk_cons, he] using h)
    · rw [if_neg he]; exact he
end Go.Proofs.YtpcijjdlppoblaaGreatDoor
