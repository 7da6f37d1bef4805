/- One bit printed as it comes (plain mathematics). -/
import Derived.Test.YtfcjihfnimefhaaFloC
import Derived.Test.YtfcjihfnimefhaaFloN
namespace Go.Proofs.Ytfcjihfnimefhaa
set_option linter.unusedVariables false
set_option maxRecDepth 100000

theorem putF_fl2 (p : Pg) (s : ByteArray) : (putF p s).fl = p.fl := by unfold putF; split <;> rfl
theorem flV_none {b : Bq} (h : b.m = 6 ∨ b.m = 7) : (flV b).size = 0 := by
  obtain ⟨bm, bv⟩ := b
  rcases h with h | h <;> (dsimp only at h; subst h; rfl)
theorem prF_open {t : Bq} (h : t.m = 6 ∨ t.m = 7) (q : Bool) (p : Pg) : prF t q p = p := by
  have hb : brF t.m = false := by rcases h with h | h <;> rw [h] <;> rfl
  rw [prF, if_neg (by omega), if_neg (by omega), if_neg (by rw [hb]; exact fun e => by cases e.1), putF, if_pos (flV_none h)]
/-- What one bit makes, where nothing is to decide. -/
theorem pr_else {l : List Bq} {w n m : Int} {a : Nat} {t : Bq} {p : Pg} (ht : l[a]? = some t) (hp : PgI l a p) (hne : t.m = 6 → p.fl ≠ -1) :
    bitF w n m a t p = ⟨(prF t (decide (p.fl ≠ -1)) p).out, (prF t (decide (p.fl ≠ -1)) p).ind, (prF t (decide (p.fl ≠ -1)) p).col, (prF t (decide (p.fl ≠ -1)) p).due, if (a : Int) = p.fl then -1 else p.fl⟩ := by
  have hcl := fun e => hp.close ht e
  have hhd := fun e => hp.hard ht e
  rcases bitF_ways w n m a t p with ⟨e, g, h⟩ | ⟨e, g, h⟩ | ⟨e, g, h⟩ | ⟨e, g, h⟩ | ⟨e, h⟩ | ⟨e, h⟩ | ⟨e, g, h⟩ | ⟨e6, e7, e8, e9, g, h⟩
  · exact absurd g.1 (hne e)
  · rw [h, prF_open (.inl e), if_neg (fun x => by have := hcl x.symm; omega)]
  · rw [h, prF_open (.inr e), if_pos g.symm]
  · rw [h, prF_open (.inr e), if_neg (fun x => g x.symm)]
  · rw [h, prF, if_pos e, if_neg (fun x => by have := hcl x.symm; omega)]
  · rw [h, prF, if_neg (by omega), if_pos e, if_neg (fun x => by have := hcl x.symm; omega)]
  · have hf : p.fl = -1 := g.elim id hhd
    have := (brF_iff _).1 e
    rw [h, prF, if_neg (by omega), if_neg (by omega), if_pos ⟨e, by rw [hf]; rfl⟩, if_neg (by omega)]; rfl
  · rw [h, prF, if_neg e8, if_neg e9, if_neg (fun x => g ⟨x.1, .inl (by have := of_decide_eq_false x.2; omega)⟩), if_neg (fun x => by have := hcl x.symm; omega)]
    rw [← putF_fl2 p (flV t)]
/-- .. and where a group is decided. -/
theorem pr_dec {l : List Bq} {w : Int} {c a : Nat} {t : Bq} {p : Pg} {q : Bool} {m' : Int} (hm : mayF 0 0 l = true) (ht : l[a]? = some t) (h6 : t.m = 6) (hac : a < c) (hc : c ≤ l.length) (hfl : p.fl = -1)
    (hd : decF l w c a p.col = some q) (h1 : q = true → m' = mtc l a) (h2 : q = false → m' = -1) (z : Bool) :
    bitF w (nec l a) (mtc l a) a t p = ⟨(prF t z p).out, (prF t z p).ind, (prF t z p).col, (prF t z p).due, m'⟩ ∧ (a : Int) ≠ m' := by
  have hf := dec_fits hm ht h6 hac hc hd
  obtain ⟨m, hmt⟩ := may_mt hm ht h6
  have hmc := (mtc_spec l a).is hmt
  have hlt := hmt.lt
  rw [prF_open (.inl h6)]
  cases q
  · rw [bitF_open_no h6 (fun x => by have := hf.2 x.2; cases this), h2 rfl]
    exact ⟨by rw [← hfl], by omega⟩
  · obtain ⟨g1, g2⟩ := hf.1 rfl
    rw [bitF_open h6 hfl g1 g2, h1 rfl, hmc]
    exact ⟨rfl, by omega⟩
/-- Where it is not decided, printing stops. -/
theorem st_und {l : List Bq} {w : Int} {c a : Nat} {t : Bq} (h : a ≤ stF l w c) (ht : l[a]? = some t) (h6 : t.m = 6) (hfl : (pgs l w a).fl = -1) (hd : decF l w c a (pgs l w a).col = none) : stF l w c = a := by
  rcases Nat.lt_or_ge a (stF l w c) with hlt | hge
  · exact absurd ⟨t, ht, h6, hfl, hd⟩ ((stF_spec l w c).no a hlt)
  · omega
theorem st_next {l : List Bq} {w : Int} {c a : Nat} (h : a ≤ stF l w c) (hac : a < c) (hn : ¬ undF l w c a) : a + 1 ≤ stF l w c := by
  rcases Nat.lt_or_ge a (stF l w c) with hlt | hge
  · exact hlt
  · obtain rfl : a = stF l w c := by omega
    exact absurd ((stF_spec l w c).un hac) hn
theorem st_more {l : List Bq} {w : Int} {c a : Nat} {t : Bq} (h : a ≤ stF l w c) (hac : a < c) (ht : l[a]? = some t) (hn : ¬ (t.m = 6 ∧ (pgs l w a).fl = -1 ∧ decF l w c a (pgs l w a).col = none)) : a + 1 ≤ stF l w c := by
  refine st_next h hac fun ⟨b, e1, e2, e3, e4⟩ => hn ?_
  rw [ht] at e1
  obtain rfl := Option.some.inj e1
  exact ⟨e2, e3, e4⟩
theorem st_end {l : List Bq} {w : Int} {c : Nat} (h : c ≤ stF l w c) : stF l w c = c := by
  have := (stF_spec l w c).le
  omega
theorem mostN_end {l : List Bq} {w : Int} {c : Nat} (h : stF l w c = c) : mostN l w c = mostN l w (c - 1) := by
  cases c with
  | zero => rfl
  | succ c =>
    rw [mostN, Nat.add_sub_cancel]
    have : hldN l w (c + 1) = 0 := by unfold hldN; omega
    omega
theorem mostN_stop {l : List Bq} {w : Int} {c : Nat} (h : 0 < c) : mostN l w c = max (mostN l w (c - 1)) (hldN l w c) := by
  cases c with
  | zero => omega
  | succ c => rw [mostN, Nat.add_sub_cancel]
/-- The answer at a place, of the first k, tells it of all. -/
theorem dc_all {l : List Bq} {w : Int} {k c a : Nat} {t : Bq} {col : Int} (hm : mayF 0 0 l = true) (ht : l[a]? = some t) (h6 : t.m = 6) (hac : a < c) (hck : c ≤ k) (hk : k ≤ l.length) :
    dcF (l.take k) w c a col = decF l w c a col ∧ (decF l w c a col = some true → ((mtN (l.take k) a : Nat) : Int) = mtc l a) := by
  have hl : (l.take k).length = k := by rw [List.length_take]; omega
  have h1 := dc_is (w := w) (col := col) hac (show c ≤ (l.take k).length by omega)
  rw [dec_take hck] at h1
  refine ⟨h1.1, fun h => ?_⟩
  have h2 := h1.2 h
  exact ((mtc_spec l a).is (mtN_take (by omega) hk)).symm
end Go.Proofs.Ytfcjihfnimefhaa
