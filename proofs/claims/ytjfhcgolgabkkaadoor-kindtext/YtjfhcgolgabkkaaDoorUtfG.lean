/- The law UtfParts: its mathematics and its walk. -/
import Derived.Test.YtjfhcgolgabkkaaDoorUtfF
namespace Go.Proofs.YtjfhcgolgabkkaaDoor
open Go.RowKit

theorem bad_of (s : ByteArray) (v : Int) (hs : s.size ≤ 1000000000) (h : badI s.data.toList = v) (w : World) :
    Calls Tryd.prog 25 #[.string s] w fun e w' => e = .returned (.int .i64 v) ∧ Below w.heap.size w w' := by rw [← h]; exact bad_any s hs w

theorem badI_all {l : List UInt8} (h : thru l = l.length) : badI l = -1 := by rw [badI, if_pos h]
theorem badI_at {l : List UInt8} (h : thru l ≠ l.length) : badI l = thru l := by rw [badI, if_neg h]
theorem mayB_all {l : List UInt8} (h : thru l = l.length) : mayB l = true := by rw [mayB, badI_all h]; rfl
theorem mayB_at {l : List UInt8} (h : thru l ≠ l.length) : mayB l = false := by rw [mayB, badI_at h]; simp

/-- Where the sum of both stops, if the first stops ahead of its end. -/
theorem thru_stay {l : List UInt8} (t : List UInt8) (h : thru l + 3 < l.length) : thru (l ++ t) = thru l := by
  rw [thru_more]
  have h0 := thru_end l
  have := nxt_stay h0 (by simp; omega) t
  rw [thru_stop this]; rfl

end Go.Proofs.YtjfhcgolgabkkaaDoor
