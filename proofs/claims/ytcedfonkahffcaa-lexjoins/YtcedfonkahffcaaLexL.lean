/- The law LexJoins: its walk. -/
import Derived.Test.YtcedfonkahffcaaLexI
import Derived.Test.YtcedfonkahffcaaLexJ
import Derived.Test.YtcedfonkahffcaaLexR
import Derived.Laws.AppendOwnNone
namespace Go.Proofs.Ytcedfonkahffcaa
open Go.RowKit Go.Shelf
set_option linter.unusedVariables false

theorem lex_yes2 {s : ByteArray} {Y : List Yl} (hs : s.size ≤ 1000000) (hm : thru s.data.toList = s.data.toList.length) (hY : ylds s.data.toList 0 = Y) (ho : allOk Y = true) (w : World) :
    Calls Try.prog 9 #[.string s] w fun e w' => ∃ A c, e = .returned (.tuple #[.slice A Y.length c, .int .i64 0, .int .i64 s.size]) ∧ Below w.heap.size w w' ∧ Tr w' A (Y.map Yl.q) ∧ (A = none → Y.length = 0 ∧ c = 0) := by
  refine (lex_in s hs w (badI_all' hm)).mono ?_
  rintro e w' ⟨v, er, p, rfl, hb, ⟨h1, rfl, rfl, h4⟩ | ⟨h1, _⟩⟩
  · rw [hY] at h4
    obtain ⟨A, c, rfl⟩ := row_slice h4
    refine ⟨A, c, rfl, hb, (tr_row h4).2, fun hA => ?_⟩
    rcases h4.2 with ⟨h5, h6⟩ | ⟨g, cap, cur, h5, _⟩
    · injection h5 with _ h7 h8; exact ⟨h6, h8⟩
    · injection h5 with h7; rw [hA] at h7; cases h7
  · rw [hY, ho] at h1; cases h1

/-- A row's cells. -/
def clq (ts : List Tq) : List Value := ts.flatMap fun t => [.int .i64 t.k, .string t.v, .int .i64 t.a, .int .i64 t.z]
theorem clq_len (ts : List Tq) : (clq ts).length = ts.length * 4 := by
  induction ts with
  | nil => rfl
  | cons t ts ih => rw [clq, List.flatMap_cons, List.length_append]; change 4 + (clq ts).length = _; rw [ih, List.length_cons]; omega
theorem clq_append (a b : List Tq) : clq (a ++ b) = clq a ++ clq b := by simp [clq]
theorem clq_one (ts : List Tq) : ∀ u ∈ clq ts, u.oneCell' = true := by
  intro u hu
  simp only [clq, List.mem_flatMap] at hu
  obtain ⟨t, _, hu⟩ := hu
  simp at hu
  rcases hu with rfl | rfl | rfl | rfl <;> rfl
theorem clq_at {ts : List Tq} {j : Nat} {t : Tq} (h : ts[j]? = some t) : (clq ts)[j * 4]? = some (.int .i64 t.k) ∧ (clq ts)[j * 4 + 1]? = some (.string t.v) ∧ (clq ts)[j * 4 + 2]? = some (.int .i64 t.a) ∧ (clq ts)[j * 4 + 3]? = some (.int .i64 t.z) := by
  induction ts generalizing j with
  | nil => simp at h
  | cons x ts ih =>
    have e : clq (x :: ts) = .int .i64 x.k :: .string x.v :: .int .i64 x.a :: .int .i64 x.z :: clq ts := rfl
    rw [e]
    cases j with
    | zero =>
      obtain rfl : x = t := by simpa using h
      exact ⟨rfl, rfl, rfl, rfl⟩
    | succ j =>
      have := ih (j := j) (by simpa using h)
      rw [show (j + 1) * 4 = j * 4 + 4 by omega]
      exact this
theorem tr_news {w : World} {ad : Addr} {ts : List Tq} (h : Tr w (some ad) ts) : ∀ j u, (clq ts)[j]? = some u → w.cell? (ad.add j) = some u := fun j u hj => by
  have hl := (List.getElem?_eq_some_iff.1 hj).1
  rw [clq_len] at hl
  have hd : j / 4 < ts.length := by omega
  obtain ⟨t, ht⟩ : ∃ t, ts[j / 4]? = some t := ⟨_, List.getElem?_eq_getElem hd⟩
  obtain ⟨b, o, e, c0, c1, c2, c3⟩ := h (j / 4) t ht
  obtain rfl : ad = ⟨b, o, none⟩ := Option.some.inj e
  obtain ⟨e0, e1, e2, e3⟩ := clq_at ht
  rw [Addr.add_lit]
  have hm : j % 4 = 0 ∨ j % 4 = 1 ∨ j % 4 = 2 ∨ j % 4 = 3 := by omega
  rcases hm with hm | hm | hm | hm
  · have ej : j = j / 4 * 4 := by omega
    rw [ej] at hj ⊢; rw [e0] at hj; rw [← hj]; exact c0
  · have ej : j = j / 4 * 4 + 1 := by omega
    rw [ej] at hj ⊢; rw [e1] at hj; rw [← hj, ← Nat.add_assoc]; exact c1
  · have ej : j = j / 4 * 4 + 2 := by omega
    rw [ej] at hj ⊢; rw [e2] at hj; rw [← hj, ← Nat.add_assoc]; exact c2
  · have ej : j = j / 4 * 4 + 3 := by omega
    rw [ej] at hj ⊢; rw [e3] at hj; rw [← hj, ← Nat.add_assoc]; exact c3
theorem tr_rowq {w : World} {base n c : Nat} {A : Option Addr} {ts : List Tq} (h : w.ownsRow base 28 4 (.slice A n c) ts.length (clq ts)) : n = ts.length ∧ Tr w A ts := by
  obtain ⟨hl, ⟨h1, h2⟩ | ⟨g, cap, cur, h1, h3, h4, h5, h6, h7, h8⟩⟩ := h
  · injection h1 with h1 h1' h1''
    have hy : ts = [] := List.length_eq_zero_iff.1 h2
    subst hy
    exact ⟨by rw [h1', List.length_nil], Tr.nil _ _⟩
  · injection h1 with h1 h1' h1''
    refine ⟨h1', fun j t ht => ?_⟩
    obtain ⟨e0, e1, e2, e3⟩ := clq_at ht
    have hj : j < ts.length := (List.getElem?_eq_some_iff.1 ht).1
    have key : ∀ (m : Nat) (v : Value), m < ts.length * 4 → (clq ts)[m]? = some v → w.cell? ⟨g, m, none⟩ = some v := by
      intro m v hm hv
      rw [← h8, List.getElem?_take_of_lt hm] at hv
      simp [World.cell?, h4]
      simpa using hv
    refine ⟨g, 0, h1, ?_, ?_, ?_, ?_⟩
    · rw [Nat.zero_add]; exact key _ _ (by omega) e0
    · rw [Nat.zero_add]; exact key _ _ (by omega) e1
    · rw [Nat.zero_add]; exact key _ _ (by omega) e2
    · rw [Nat.zero_add]; exact key _ _ (by omega) e3
theorem grown_refl (w : World) (row : Option Nat) : w.grownBy w row := ⟨rfl, rfl, rfl, Nat.le_refl _, fun _ _ _ => rfl⟩
/-- 'append(l, ts...)', l the call's own. -/
theorem app_own {w : World} {ops : Array Oper} {rest : List Oper} {o : Oper} {a : Act} {Q : Exit → Act → World → Prop} (hgd : o.guard = none) (s x : Operand)
    (ho : o.op = .call { callee := .builtin .append, args := #[s, x], argTypes := #[23, 23] })
    (base : Nat) (v : Value) (n : Nat) (qs : List Tq) (hs : a.eval s = v) (hown : w.ownsRow base 28 4 v n (clq qs))
    {A : Option Addr} {m c : Nat} {ts : List Tq} (hx : a.eval x = .slice A m c) (htr : Tr w A ts) (hm : ts.length = m) (hA : A = none → m = 0 ∧ c = 0)
    (hb : n + m ≤ 1000000) (hbase : base ≤ w.heap.size)
    (h : ∀ v' w', w'.ownsRow base 28 4 v' (n + m) (clq (qs ++ ts)) → w.grownBy w' v.ownBlock → wpList Try.prog ops Q rest (a.put o.dst v') w') : wpList Try.prog ops Q (o :: rest) a w := by
  obtain ⟨i0, hi, hz0, hz1, hz2⟩ := info_parts infoT
  cases A with
  | none =>
    obtain ⟨rfl, rfl⟩ := hA rfl
    have hts : ts = [] := List.length_eq_zero_iff.1 hm
    subst hts
    refine wpList_append_own_none hgd s x 23 ho base 28 i0 4 Try.underlying23 hi v n (clq qs) hs hown hx ?_
    exact h v w (by rw [List.append_nil]; exact hown) (grown_refl w _)
  | some ad =>
    refine wpList_append_own _ hgd s x 23 ho base 28 i0 (.agg #[.int .i64 0, .string ⟨#[]⟩, .int .i64 0, .int .i64 0]) 4 40 Try.underlying23 hi hz0 hz1 hz2 rfl (by decide) v n (clq qs) hs hown ad m c (clq ts) hx (by rw [clq_len, hm]) (tr_news htr) (clq_one ts) (by unfold maxLen; omega) (by omega) hbase ?_
    intro v' w' h1 h2 _
    exact h v' w' (by rw [clq_append]; exact h1) h2

set_option maxHeartbeats 4000000 in
set_option maxRecDepth 100000 in
theorem joins_any (a b : ByteArray) (w : World) (za : a.size ≤ 9223372036854775807) (zb : b.size ≤ 9223372036854775807) :
    Calls Try.prog 4 #[.string a, .string b] w fun e w' => e = .returned (.bool true) ∧ Below w.heap.size w w' := by
  by_cases ha : 300 < a.size
  · have ga : (300 : Int) < (a.size : Int) := by omega
    clear ha
    go_enter Try.func4, Try.ntmps4
    (try simp only [List.append_eq, List.cons_append, List.nil_append])
    go_wp2_with fail
    (with_reducible refine (awake_any _).mono ?_)
    rintro e w1 ⟨rfl, hb1⟩
    go_wp2_with fail
    go_ret
    exact ⟨by first | (simp; done) | (simp; omega), hb1⟩
  have ga : ¬ (300 : Int) < (a.size : Int) := by omega
  by_cases hb : 300 < b.size
  · have gb : (300 : Int) < (b.size : Int) := by omega
    clear ha hb
    go_enter Try.func4, Try.ntmps4
    (try simp only [List.append_eq, List.cons_append, List.nil_append])
    go_wp2_with fail
    (with_reducible refine (awake_any _).mono ?_)
    rintro e w1 ⟨rfl, hb1⟩
    go_wp2_with fail
    go_ret
    exact ⟨by first | (simp; done) | (simp; omega), hb1⟩
  have gb : ¬ (300 : Int) < (b.size : Int) := by omega
  have la : a.data.toList.length = a.size := (Lib.size_eq a).symm
  have lb : b.data.toList.length = b.size := (Lib.size_eq b).symm
  -- what Lex answers: an error, or tokens
  have key : ∀ s : ByteArray, s.size ≤ 300 → (∃ er p, er ≠ 0 ∧ ∀ w, Calls Try.prog 9 #[.string s] w fun e w' => e = .returned (.tuple #[.slice none 0 0, .int .i64 er, .int .i64 p]) ∧ Below w.heap.size w w') ∨ (thru s.data.toList = s.data.toList.length ∧ allOk (ylds s.data.toList 0) = true) := by
    intro s hs
    by_cases hth : thru s.data.toList = s.data.toList.length
    · cases ho : allOk (ylds s.data.toList 0)
      · obtain ⟨⟨er, p⟩, hE⟩ : ∃ r, errOf (ylds s.data.toList 0) = r := ⟨_, rfl⟩
        exact .inl ⟨er, p, by have := errOf_ne ho; rw [hE] at this; exact this, fun w => lex_no (s := s) (by omega) hth rfl ho hE w⟩
      · exact .inr ⟨hth, rfl⟩
    · exact .inl ⟨2, (thru s.data.toList : Int), by decide, fun w => lex_bad (s := s) (b := (thru s.data.toList : Int)) (by omega) (by rw [badI, if_neg hth]) (by omega) w⟩
  rcases key a (by omega) with ⟨er, p, hne, r1⟩ | ⟨hta, hoa⟩
  · have e1 : (er != 0) = true := by simpa using hne
    rcases key b (by omega) with ⟨er', p', hne', r2⟩ | ⟨htb, hob⟩
    · clear ha hb la lb key hne hne'
      go_enter Try.func4, Try.ntmps4
      (try simp only [List.append_eq, List.cons_append, List.nil_append])
      go_wp2_with fail
      (with_reducible refine (awake_any _).mono ?_)
      rintro e w1 ⟨rfl, hb1⟩
      go_wp2_with fail
      (with_reducible refine (r1 _).mono ?_)
      rintro e w2 ⟨rfl, hb2⟩
      go_wp2_with fail
      (with_reducible refine (r2 _).mono ?_)
      rintro e w3 ⟨rfl, hb3⟩
      go_wp2_with fail
      go_ret
      exact ⟨by first | (simp; done) | (simp; omega), (bel_trans (bel_trans hb1 hb2) hb3)⟩
    · have r2 := fun w => lex_yes (s := b) (by omega) htb rfl hob w
      generalize (ylds b.data.toList 0).length = n at *
      generalize ylds b.data.toList 0 = Y at *
      clear ha hb la lb key hne htb hob
      go_enter Try.func4, Try.ntmps4
      (try simp only [List.append_eq, List.cons_append, List.nil_append])
      go_wp2_with fail
      (with_reducible refine (awake_any _).mono ?_)
      rintro e w1 ⟨rfl, hb1⟩
      go_wp2_with fail
      (with_reducible refine (r1 _).mono ?_)
      rintro e w2 ⟨rfl, hb2⟩
      go_wp2_with fail
      (with_reducible refine (r2 _).mono ?_)
      rintro e w3 ⟨A, c, rfl, hb3, -⟩
      go_wp2
      go_ret
      exact ⟨by simp, bel_trans (bel_trans hb1 hb2) hb3⟩
  rcases key b (by omega) with ⟨er', p', hne', r2⟩ | ⟨htb, hob⟩
  · have e1 : (er' != 0) = true := by simpa using hne'
    have r1 := fun w => lex_yes (s := a) (by omega) hta rfl hoa w
    generalize (ylds a.data.toList 0).length = n at *
    generalize ylds a.data.toList 0 = Y at *
    clear ha hb la lb key hne' hta hoa
    go_enter Try.func4, Try.ntmps4
    (try simp only [List.append_eq, List.cons_append, List.nil_append])
    go_wp2_with fail
    (with_reducible refine (awake_any _).mono ?_)
    rintro e w1 ⟨rfl, hb1⟩
    go_wp2_with fail
    (with_reducible refine (r1 _).mono ?_)
    rintro e w3 ⟨A, c, rfl, hb3, -⟩
    go_wp2_with fail
    (with_reducible refine (r2 _).mono ?_)
    rintro e w4 ⟨rfl, hb4⟩
    go_wp2
    go_ret
    exact ⟨by simp, bel_trans (bel_trans hb1 hb3) hb4⟩
  · obtain ⟨S1, hS1, s1⟩ := sadd' (A := a) (B := ⟨#[10]⟩) (a := a.data.toList) (b := [10]) (mkb_of a).symm rfl (by simp; omega)
    obtain ⟨S, hS, s2⟩ := sadd' (A := S1) (B := b) hS1 (mkb_of b).symm (by simp; omega)
    have hL : S.data.toList = a.data.toList ++ 10 :: b.data.toList := by rw [hS, mkb_data, List.append_assoc]; rfl
    have hSz : S.size ≤ 1000000 := by rw [hS, mkb_size]; simp; omega
    have htS : thru S.data.toList = S.data.toList.length := by rw [hL]; exact thru_nl hta htb
    have hZ : ylds S.data.toList 0 = ylds a.data.toList 0 ++ (ylds b.data.toList 0).map (Yl.by (a.data.toList.length + 1)) := by
      rw [hL, ylds_nl _ _ 0 hoa, ylds_by]
    have hoz : allOk (ylds a.data.toList 0 ++ (ylds b.data.toList 0).map (Yl.by (a.data.toList.length + 1))) = true := by rw [allOk_append, hoa, allOk_by, hob]; rfl
    have r1 := fun w => lex_yes2 (s := a) (by omega) hta rfl hoa w
    have r2 := fun w => lex_yes2 (s := b) (by omega) htb rfl hob w
    have r3 := fun w => lex_yes2 (s := S) hSz htS hZ hoz w
    have hsm : sameT ((ylds a.data.toList 0 ++ (ylds b.data.toList 0).map (Yl.by (a.data.toList.length + 1))).map Yl.q) ((ylds a.data.toList 0).map Yl.q ++ (ylds b.data.toList 0).map Yl.q) = true := by
      rw [List.map_append]
      exact sameT_append (sameT_refl _) (sameT_by _ _)
    have hya := ylds_bd a.data.toList 0
    have hyb := ylds_bd b.data.toList 0
    rw [← Lib.size_eq] at hya hyb
    generalize hZZ : ylds a.data.toList 0 ++ (ylds b.data.toList 0).map (Yl.by (a.data.toList.length + 1)) = Z at *
    have hzl : Z.length = (ylds a.data.toList 0).length + (ylds b.data.toList 0).length := by rw [← hZZ]; simp
    generalize ylds a.data.toList 0 = X at *
    generalize ylds b.data.toList 0 = Y at *
    have HSM := Lib.hid hsm
    obtain ⟨nx, hnx⟩ : ∃ n, X.length = n := ⟨_, rfl⟩
    obtain ⟨ny, hny⟩ : ∃ n, Y.length = n := ⟨_, rfl⟩
    obtain ⟨nz, hnz⟩ : ∃ n, Z.length = n := ⟨_, rfl⟩
    rw [hnx] at r1 hya hzl
    rw [hny] at r2 hyb hzl
    rw [hnz] at r3 hzl
    subst hzl
    have HX := Lib.hid hnx
    have HY := Lib.hid hny
    have HZ := Lib.hid hnz
    clear ha hb la lb key hta hoa htb hob hS hS1 hL hSz htS hZ hoz hsm hZZ hnx hny hnz
    go_enter Try.func4, Try.ntmps4
    (try simp only [List.append_eq, List.cons_append, List.nil_append])
    go_wp2_with fail
    (with_reducible refine (awake_any _).mono ?_)
    rintro e w1 ⟨rfl, hb1⟩
    go_wp2_with fail
    (with_reducible refine (r1 _).mono ?_)
    rintro e w2 ⟨A, c, rfl, hb2, tr2, hA⟩
    go_wp2_with fail
    (with_reducible refine (r2 _).mono ?_)
    rintro e w3 ⟨B, d, rfl, hb3, tr3, hB⟩
    go_wp2_with fail
    (with_reducible refine (r3 _).mono ?_)
    rintro e w4 ⟨C, f, rfl, hb4, tr4, -⟩
    have HA := Lib.hid hA
    have HB := Lib.hid hB
    have T2 := Lib.hid ((tr2.below hb3).below hb4)
    have T3 := Lib.hid (tr3.below hb4)
    have T4 := Lib.hid tr4
    have hb0 := bel_trans (bel_trans (bel_trans hb1 hb2) hb3) hb4
    clear hA hB tr2 tr3 tr4 hb1 hb2 hb3 hb4 r1 r2 r3
    go_wp2_with (at_builtin; refine app_own rfl _ _ rfl w4.heap.size (.slice none 0 0) 0 [] rfl (World.ownsRow_nil _ _ _ _) rfl T2.out (by rw [List.length_map]; exact HX.out) HA.out (by omega) (Nat.le_refl _) ?_)
    intro v5 w5 hown5 hgrow5
    have hB5 : Below w4.heap.size w4 w5 := (Below.refl _ w4).grown hgrow5 (Nat.le_refl _) (fun k e => by cases e)
    have hs5 := hB5.size
    go_wp2_with (at_builtin; refine app_own rfl _ _ rfl w4.heap.size v5 nx (X.map Yl.q) rfl hown5 rfl (T3.out.below hB5) (by rw [List.length_map]; exact HY.out) HB.out (by omega) hs5 ?_)
    intro v6 w6 hown6 hgrow6
    have hB6 : Below w4.heap.size w4 w6 := hB5.grown hgrow6 hs5 (fun k e => (hown5.lt k e).1)
    obtain ⟨D, g, rfl⟩ := row_slice hown6
    have hl6 : (X.map Yl.q ++ Y.map Yl.q).length = nx + ny := by rw [List.length_append, List.length_map, List.length_map, HX.out, HY.out]
    have T6 : Tr w6 D (X.map Yl.q ++ Y.map Yl.q) := by
      rw [← hl6] at hown6
      exact (tr_rowq hown6).2
    have r4 := rsame_any (c := f) (d := g) (n := nx + ny) (m := nx + ny) (T4.out.below hB6) T6 (by rw [List.length_map]; exact HZ.out) hl6 (by omega) (by omega)
    rw [HSM.out] at r4
    have hb6 := hb0.trans (hB6.mono hb0.size)
    clear hown5 hgrow5 hown6 hgrow6 hB5 hB6 T6 hl6 hs5 hb0
    go_wp2_with fail
    (with_reducible refine r4.mono ?_)
    rintro e w7 ⟨rfl, hb7⟩
    go_wp2
    go_ret
    exact ⟨by simp, bel_trans hb6 hb7⟩
end Go.Proofs.Ytcedfonkahffcaa
