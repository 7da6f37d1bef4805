/- Mathematics of the law LexText: what a block string tells may be quoted; a token alone. No program. -/
import Derived.Test.YtpcijjdlppoblaaGreatDoorLexF
import Derived.Test.YtpcijjdlppoblaaGreatDoorNumG
import Derived.Test.YtpcijjdlppoblaaGreatDoorQuoE
import Derived.Test.YtpcijjdlppoblaaGreatDoorTextN
namespace Go.Proofs.YtpcijjdlppoblaaGreatDoor
set_option linter.unusedVariables false

theorem enc_asc {d : Nat} {c : UInt8} (hd : srcB d = true) (hc : c.toNat < 128) (hm : c ∈ enc d) : enc d = [c] := by
  by_cases h : d < 128
  · rw [enc1 h] at hm ⊢
    rw [List.mem_singleton] at hm; rw [hm]
  · have hb : d ≤ 1114111 := by have := (srcB_iff d).1 hd; omega
    have := enc_all (by omega) hb c hm
    omega
/-- A byte below 128 parts characters. -/
theorem Ch.part {l : List UInt8} (h : Ch l) : ∀ {x y : List UInt8} {c : UInt8}, c.toNat < 128 → l = x ++ c :: y → Ch x ∧ Ch y := by
  induction h with
  | nil => intro x y c _ e; simp at e
  | @chr d v hs hv ih =>
    intro x y c hc e
    rcases List.append_eq_append_iff.1 e with ⟨a', h1, h2⟩ | ⟨c', h1, h2⟩
    · obtain ⟨i1, i2⟩ := ih hc h2
      exact ⟨by rw [h1]; exact .chr hs i1, i2⟩
    · cases c' with
      | nil =>
        rw [List.append_nil] at h1
        rw [List.nil_append] at h2
        obtain ⟨_, i2⟩ := ih (x := []) hc h2.symm
        exact ⟨by rw [← h1]; exact ch_one hs, i2⟩
      | cons c0 c' =>
        injection h2 with h3 h4
        subst h3
        have he := enc_asc hs hc (by rw [h1]; simp)
        rw [he] at h1
        cases x with
        | nil =>
          injection h1 with _ h5
          obtain rfl : c' = [] := h5.symm
          rw [h4]; exact ⟨.nil, hv⟩
        | cons x0 x => simp at h1
  | @low b v hb hv ih =>
    intro x y c hc e
    cases x with
    | nil => injection e with _ h2; rw [← h2]; exact ⟨.nil, hv⟩
    | cons x0 x =>
      injection e with h1 h2
      subst h1
      obtain ⟨i1, i2⟩ := ih hc h2
      exact ⟨.low hb i1, i2⟩
theorem Ch.tail {c : UInt8} {t : List UInt8} (h : Ch (c :: t)) (hc : c.toNat < 128) : Ch t := (h.part (x := []) hc rfl).2
theorem Ch.drops {l : List UInt8} {k : Nat} (h : Ch l) (hk : k ≤ Fo.mg l) : Ch (l.drop k) := by
  induction k generalizing l with
  | zero => exact h
  | succ k ih =>
    cases l with
    | nil => exact h
    | cons c t =>
      cases hb : Fo.blB c
      · rw [Fo.mg_n hb] at hk; omega
      · rw [Fo.mg_y hb] at hk
        have hc : c.toNat < 128 := by
          simp only [Fo.blB, Bool.or_eq_true, beq_iff_eq] at hb
          rcases hb with rfl | rfl <;> decide
        exact ih (h.tail hc) (by omega)
theorem noE_enc {d : Nat} (hs : srcB d = true) (h10 : d ≠ 10) (h13 : d ≠ 13) : Fo.noE (enc d) := by
  intro b hb
  have key : ∀ n : Nat, n < 128 → d ≠ n → b ≠ UInt8.ofNat n := by
    intro n hn hd e
    have hbn : b.toNat = n := by rw [e, toNat_ofNat (by omega)]
    have he := enc_asc hs (by omega) hb
    by_cases h : d < 128
    · rw [enc1 h] at he
      have : UInt8.ofNat d = b := by simpa using he
      rw [← this, toNat_ofNat (by omega)] at hbn
      exact hd hbn
    · have hl := enc_len d
      rw [he, if_neg h] at hl
      simp only [List.length_singleton] at hl
      split at hl
      · omega
      · split at hl <;> omega
  exact ⟨key 10 (by decide) h10, key 13 (by decide) h13⟩
theorem lnA_seg {s : List UInt8} (h : Fo.noE s) (hs : s ≠ []) (p : Bool) (t : List UInt8) : Fo.lnA p (s ++ t) = Fo.addL s (Fo.lnA false t) := by
  obtain ⟨c, r, rfl⟩ := List.exists_cons_of_ne_nil hs
  have hc := h c (by simp)
  have e := Fo.lns_seg h t
  rw [Fo.lns, List.cons_append, Fo.lnA_c hc.1 hc.2] at e
  rw [List.cons_append, Fo.lnA_c hc.1 hc.2]
  exact e
theorem Ch.lines {l : List UInt8} (h : Ch l) : ∀ p, ∀ x ∈ Fo.lnA p l, Ch x := by
  induction h with
  | nil => intro p x hx; simp [Fo.lnA] at hx; rw [hx]; exact .nil
  | @chr d v hs hv ih =>
    intro p x hx
    by_cases h10 : d = 10
    · subst h10
      rw [enc1 (by decide)] at hx
      cases p
      · change x ∈ [] :: Fo.lnA false v at hx
        rcases List.mem_cons.1 hx with rfl | hx
        · exact .nil
        · exact ih _ _ hx
      · exact ih _ _ hx
    · by_cases h13 : d = 13
      · subst h13
        rw [enc1 (by decide)] at hx
        change x ∈ Fo.lnA p (13 :: v) at hx
        rw [Fo.lnA_13] at hx
        rcases List.mem_cons.1 hx with rfl | hx
        · exact .nil
        · exact ih _ _ hx
      · rw [lnA_seg (noE_enc hs h10 h13) (enc_ne d)] at hx
        cases e : Fo.lnA false v with
        | nil => exact absurd e (Fo.lnA_ne _ _)
        | cons y r =>
          rw [e] at hx
          change x ∈ (enc d ++ y) :: r at hx
          have hi := ih false
          rw [e] at hi
          rcases List.mem_cons.1 hx with rfl | hx
          · exact .chr hs (hi y (by simp))
          · exact hi x (List.mem_cons_of_mem _ hx)
  | @low b v hb hv ih =>
    intro p x hx
    by_cases h10 : b = 10
    · subst h10
      cases p
      · change x ∈ [] :: Fo.lnA false v at hx
        rcases List.mem_cons.1 hx with rfl | hx
        · exact .nil
        · exact ih _ _ hx
      · exact ih _ _ hx
    · by_cases h13 : b = 13
      · subst h13
        rw [Fo.lnA_13] at hx
        rcases List.mem_cons.1 hx with rfl | hx
        · exact .nil
        · exact ih _ _ hx
      · rw [Fo.lnA_c h10 h13] at hx
        cases e : Fo.lnA false v with
        | nil => exact absurd e (Fo.lnA_ne _ _)
        | cons y r =>
          rw [e] at hx
          change x ∈ (b :: y) :: r at hx
          have hi := ih false
          rw [e] at hi
          rcases List.mem_cons.1 hx with rfl | hx
          · exact .low hb (hi y (by simp))
          · exact hi x (List.mem_cons_of_mem _ hx)
theorem Ch.cut {ls : List (List UInt8)} (h : ∀ x ∈ ls, Ch x) : ∀ x ∈ Fo.cutL (Fo.ind ls) ls, Ch x := by
  cases ls with
  | nil => intro x hx; simp [Fo.cutL] at hx
  | cons y t =>
    intro x hx
    by_cases hn : Fo.ind (y :: t) ≤ 0
    · rw [Fo.cut_no hn] at hx; exact h x hx
    · change x ∈ y :: t.map _ at hx
      rcases List.mem_cons.1 hx with rfl | hx
      · exact h _ (by simp)
      · obtain ⟨z, hz, rfl⟩ := List.mem_map.1 hx
        have hcz := h z (List.mem_cons_of_mem _ hz)
        rcases Fo.indT_is t with ⟨e, _⟩ | ⟨x0, hx0, _, e, hmin⟩
        · exact absurd (show Fo.ind (y :: t) ≤ 0 by show Fo.indT t ≤ 0; rw [e]; decide) hn
        · have hi : (Fo.ind (y :: t)).toNat = Fo.mg x0 := by show (Fo.indT t).toNat = _; rw [e]; simp
          rw [hi]
          cases hb : Fo.blk z
          · exact hcz.drops (hmin z hz hb)
          · have hm := (Fo.blk_mg z).1 hb
            by_cases hle : Fo.mg x0 ≤ z.length
            · exact hcz.drops (by omega)
            · rw [List.drop_eq_nil_of_le (by omega)]; exact .nil
theorem Ch.joins {ls : List (List UInt8)} (h : ∀ x ∈ ls, Ch x) : Ch (Lib.join ls [10]) := by
  induction ls with
  | nil => exact .nil
  | cons x ls ih =>
    cases ls with
    | nil => rw [Lib.join_one]; exact h x (by simp)
    | cons y r =>
      have := ih (fun z hz => h z (List.mem_cons_of_mem _ hz))
      have e : Lib.join (x :: y :: r) [10] = x ++ ([10] ++ Lib.join (y :: r) [10]) := by rw [Lib.join_cons, Lib.join_cons]; simp [Lib.joinTail]
      rw [e]
      exact (h x (by simp)).append (.low (by decide) this)
theorem Ch.fold {l : List UInt8} (h : Ch l) : Ch (Fo.fld l) := Ch.joins fun x hx => Ch.cut (fun y hy => h.lines false y hy) x ((Fo.trm_sub _).mem hx)
theorem pcR_ch {l t : List UInt8} {k : Nat} (h : Fo.pcR l = some (t, k)) : Ch t := by
  cases hb : Fo.b3.isPrefixOf l
  · by_cases h0 : (nxt l).2 = 0
    · rw [Fo.pcR_n hb h0] at h; cases h
    · rw [Fo.pcR_c hb h0] at h
      have e := (Prod.mk.inj (Option.some.inj h)).1
      rcases nxt_cases l with ⟨c, hc, e2⟩ | ⟨_, e2⟩
      · rw [← e, e2]
        obtain ⟨x, hx⟩ := hc.2
        have : l.take (enc c).length = enc c := by rw [← hx]; simp
        show Ch (l.take (enc c).length)
        rw [this]; exact ch_one hc.1
      · rw [e2] at h0; exact absurd rfl h0
  · rw [Fo.pcR_b hb] at h
    have e := (Prod.mk.inj (Option.some.inj h)).1
    rw [← e]
    exact (ch_byte (b := 34) (by decide) (by decide)).append ((ch_byte (b := 34) (by decide) (by decide)).append (ch_byte (b := 34) (by decide) (by decide)))
theorem rw_ch (l : List UInt8) : Ch (Fo.rwB l).v := by
  induction hn : l.length using Nat.strongRecOn generalizing l with
  | _ n ih =>
    subst hn
    cases hq : Fo.q3.isPrefixOf l
    · cases hp : Fo.pcR l with
      | none => rw [Fo.rwB_n hq hp]; exact .nil
      | some r =>
        obtain ⟨t, k⟩ := r
        have hb := Fo.pcR_bd hp
        rw [Fo.rwB_s hq hp]
        show Ch (if (Fo.rwB (l.drop k)).b = true then t ++ (Fo.rwB (l.drop k)).v else [])
        split
        · exact (pcR_ch hp).append (ih _ (by rw [List.length_drop]; omega) _ rfl)
        · exact .nil
    · rw [Fo.rwB_q hq]; exact .nil
theorem raw_ch (l : List UInt8) : Ch (Fo.rawA l 0).v := by
  unfold Fo.rawA
  split
  · exact rw_ch _
  · exact .nil
theorem str_ch' (l : List UInt8) : Ch (strA l 0).v := by
  unfold strA
  split
  · rename_i h
    obtain ⟨p, u, x, hx, hb, ⟨y, rfl, e⟩ | ⟨_, _, e⟩⟩ := bod_cut (l.drop ((0 : Int).toNat + 1))
    · show Ch (bod (l.drop ((0 : Int).toNat + 1))).v
      rw [e]; exact hb.ch
    · show Ch (bod (l.drop ((0 : Int).toNat + 1))).v
      rw [e]; exact .nil
  · exact .nil
theorem Ch.qt' {v : List UInt8} (h : Ch v) : ∃ cs, Qt cs v := by
  induction h with
  | nil => exact ⟨[], .nil⟩
  | @chr c v hs _ ih => obtain ⟨cs, hc⟩ := ih; exact ⟨c :: cs, .cons (.inr hs) hc⟩
  | @low b v hb _ ih =>
    obtain ⟨cs, hc⟩ := ih
    have := Qt.cons (c := b.toNat) (.inl hb) hc
    rw [enc1 (by omega)] at this
    exact ⟨b.toNat :: cs, by simpa using this⟩

/-! ### A token alone -/
theorem quo_pre {cs : List Nat} {v : List UInt8} (h : Qt cs v) : Fo.q3.isPrefixOf (quo cs) = false := by
  cases h with
  | nil => decide
  | @cons c cs l hc hq =>
    have hp := (pc_qp hc).head (qb cs ++ [34])
    have e : quo (c :: cs) = 34 :: (qp c ++ (qb cs ++ [34])) := by unfold quo; rw [qb_cons, List.append_assoc]
    rw [e]
    cases hx : qp c ++ (qb cs ++ [34]) with
    | nil => rfl
    | cons y r =>
      rw [hx] at hp
      have hy : y ≠ 34 := fun e => hp (by rw [e]; rfl)
      show ((34 : UInt8) == 34 && (((34 : UInt8) == y) && _)) = false
      rw [show ((34 : UInt8) == y) = false by simpa using fun e => hy e.symm]; rfl
theorem tk_quo {cs : List Nat} {v : List UInt8} (h : Qt cs v) : tk (quo cs) = ⟨5, v, (quo cs).length, 0⟩ := by
  have hs := str_quo h []
  rw [List.append_nil] at hs
  have := way_eq (Way.str (c := 34) (l := quo cs) rfl (quo_pre h))
  show tkC 34 (quo cs) = _
  rw [this]
  unfold tkStr
  rw [hs]; rfl
/-- What a string token tells may be quoted. -/
theorem tk_qt {l : List UInt8} (he : (tk l).e = 0) (hk : (tk l).k = 5) : ∃ cs, Qt cs (tk l).v := by
  cases l with
  | nil => cases he
  | cons c t =>
    change (tkC c (c :: t)).e = 0 at he
    change (tkC c (c :: t)).k = 5 at hk
    show ∃ cs, Qt cs (tkC c (c :: t)).v
    have hw := way c (c :: t)
    revert he hk hw
    generalize tkC c (c :: t) = r
    intro he hk hw
    cases hw with
    | dots h1 h2 => cases hk
    | dot h1 h2 => cases he
    | sign h1 h2 => cases hk
    | name h1 h2 h3 => cases hk
    | num h1 h2 h3 h4 =>
      unfold tkNum at he hk
      cases hb : (Sc.numA (c :: t) 0).b
      · rw [if_neg (by rw [hb]; decide)] at he; cases he
      · rw [if_pos hb] at hk
        have := (Sc.num_yes hb).2.2.2
        dsimp at hk
        omega
    | raw h1 h2 =>
      unfold tkRaw at he ⊢
      cases hb : (Fo.rawA (c :: t) 0).b
      · rw [if_neg (by rw [hb]; decide)] at he; cases he
      · rw [if_pos rfl]; exact (raw_ch _).fold.qt'
    | str h1 h2 =>
      unfold tkStr at he ⊢
      cases hb : (strA (c :: t) 0).b
      · rw [if_neg (by rw [hb]; decide)] at he; cases he
      · rw [if_pos rfl]; exact (str_ch' _).qt'
    | bad h1 h2 h3 h4 h5 => cases he
theorem rn_take {p : Int → Bool} (l : List UInt8) : Sc.rn p (l.take (Sc.rn p l)) = Sc.rn p l := by
  have hl : (l.take (Sc.rn p l)).length = Sc.rn p l := by rw [List.length_take]; have := Sc.rn_le p l; omega
  rw [Sc.rn_all, hl]
  intro c hc
  obtain ⟨j, hj, rfl⟩ := List.getElem_of_mem hc
  rw [List.getElem_take]
  exact (Sc.rn_lt (by omega)).2
theorem tk_alone {l : List UInt8} (he : (tk l).e = 0) (hk : (tk l).k ≠ 5) : tk (l.take (tk l).n) = tk l ∧ (tk l).v = l.take (tk l).n := by
  cases l with
  | nil => cases he
  | cons c t =>
    change (tkC c (c :: t)).e = 0 at he
    change (tkC c (c :: t)).k ≠ 5 at hk
    show tk ((c :: t).take (tkC c (c :: t)).n) = tkC c (c :: t) ∧ (tkC c (c :: t)).v = (c :: t).take (tkC c (c :: t)).n
    have hw := way c (c :: t)
    revert he hk hw
    generalize tkC c (c :: t) = r
    intro he hk hw
    have red : ∀ n, 0 < n → tk ((c :: t).take n) = tkC c ((c :: t).take n) := by
      intro n hn
      obtain ⟨m, rfl⟩ : ∃ m, n = m + 1 := ⟨n - 1, by omega⟩
      rw [List.take_succ_cons]; rfl
    cases hw with
    | dots h1 h2 =>
      have e : (c :: t).take 3 = d3 := Fo.pre_take.1 h2
      refine ⟨?_, e.symm⟩
      rw [red 3 (by decide)]
      show tkC c ((c :: t).take 3) = _
      rw [e]
      exact way_eq (.dots h1 (by decide))
    | dot h1 h2 => cases he
    | sign h1 h2 =>
      refine ⟨?_, rfl⟩
      rw [red 1 (by decide)]
      exact way_eq (.sign h1 h2)
    | name h1 h2 h3 =>
      have hp := nm_pos t h3
      refine ⟨?_, rfl⟩
      show tk ((c :: t).take (Sc.nmT (c :: t))) = _
      rw [red _ hp]
      have e0 : Sc.nmT (c :: t) = Sc.rn Sc.nmI (c :: t) := by rw [Sc.nmT_cons, if_pos h3]
      have e : Sc.nmT ((c :: t).take (Sc.nmT (c :: t))) = Sc.nmT (c :: t) := by
        obtain ⟨m, hm⟩ : ∃ m, Sc.nmT (c :: t) = m + 1 := ⟨Sc.nmT (c :: t) - 1, by omega⟩
        have h5 := rn_take (p := Sc.nmI) (c :: t)
        rw [← e0, hm, List.take_succ_cons] at h5
        rw [hm, List.take_succ_cons, Sc.nmT_cons, if_pos h3, h5]
      have := way_eq (Way.name (l := (c :: t).take (Sc.nmT (c :: t))) h1 h2 h3)
      rw [e, List.take_take, Nat.min_self] at this
      exact this
    | num h1 h2 h3 h4 =>
      have h0 := num0 (c :: t)
      unfold tkNum at he hk ⊢
      cases hb : (Sc.numA (c :: t) 0).b
      · rw [if_neg (by rw [hb]; decide)] at he; cases he
      · rw [if_pos rfl]
        refine ⟨?_, rfl⟩
        show tk ((c :: t).take (Sc.numA (c :: t) 0).e.toNat) = _
        have hpos : 0 < (Sc.numA (c :: t) 0).e.toNat := by have := h0.2.2 hb; omega
        rw [red _ hpos]
        have hr : Sc.numA (c :: t) 0 = ⟨(Sc.numA (c :: t) 0).k, (((Sc.numA (c :: t) 0).e.toNat : Nat) : Int), true⟩ := by
          have e1 : (((Sc.numA (c :: t) 0).e.toNat : Nat) : Int) = (Sc.numA (c :: t) 0).e := by omega
          rw [e1, ← hb]
        have ho := Sc.own_yes (t := []) hr (by decide) (by decide)
        rw [List.append_nil] at ho
        rw [way_eq (Way.num (l := (c :: t).take (Sc.numA (c :: t) 0).e.toNat) h1 h2 h3 h4)]
        unfold tkNum
        rw [ho, if_pos rfl]
        simp only [Int.toNat_natCast, List.take_take, Nat.min_self]
    | raw h1 h2 =>
      unfold tkRaw at he hk
      cases hb : (Fo.rawA (c :: t) 0).b
      · rw [if_neg (by rw [hb]; decide)] at he; cases he
      · rw [if_pos hb] at hk; exact absurd rfl hk
    | str h1 h2 =>
      unfold tkStr at he hk
      cases hb : (strA (c :: t) 0).b
      · rw [if_neg (by rw [hb]; decide)] at he; cases he
      · rw [if_pos hb] at hk; exact absurd rfl hk
    | bad h1 h2 h3 h4 h5 => cases he
end Go.Proofs.YtpcijjdlppoblaaGreatDoor
