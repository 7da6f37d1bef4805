/- Rows of ints of the call's own that grow. -/
import Derived.Test.YtfcjihfnimefhaaIntR
namespace Go.Proofs.Ytfcjihfnimefhaa
open Go.RowKit
set_option linter.unusedVariables false
set_option maxRecDepth 100000

/-- A row of the call's own, and what was there is as it was. -/
structure Rn (w : World) (X : List Int) (v : Value) (W : World) : Prop where
  own : W.ownsRow w.heap.size 3 1 v X.length (X.map iv)
  bel : Below w.heap.size w W
theorem Rn.start (w : World) : Rn w [] (.slice none 0 0) w := ⟨World.ownsRow_nil _ _ _ _, Below.refl _ _⟩
theorem Rn.alloc {w : World} {X : List Int} {v : Value} {W : World} (h : Rn w X v W) (o : Obj) : Rn w X v (W.alloc o) := ⟨h.own.alloc o, bel_alloc h.bel o⟩
theorem Rn.next {w : World} {X : List Int} {x : Int} {v v' : Value} {W W' : World} (h : Rn w X v W) (ho : W'.ownsRow w.heap.size 3 1 v' (X.length + 1) ((X ++ [x]).map iv)) (hg : W.grownBy W' v.ownBlock) : Rn w (X ++ [x]) v' W' :=
  ⟨by rw [List.length_append]; exact ho, h.bel.grown hg h.bel.size (fun k hk => (h.own.lt k hk).1)⟩
/-- 'append(l, x)', l a row of ints of the call's own. -/
theorem app_rn {w0 w : World} {ops : Array Oper} {rest : List Oper} {o : Oper} {a : Act} {Q : Exit → Act → World → Prop} (hgd : o.guard = none) (s x : Operand)
    (ho : o.op = .call { callee := .builtin .append, args := #[s, x], argTypes := #[81, 81] })
    (v : Value) (X : List Int) (i : Int) (hs : a.eval s = v) (hown : Rn w0 X v w) {ad : Addr} {c : Nat} (hx : a.eval x = .slice (some ad) 1 c) (htr : Ri w (some ad) [i]) (hb : X.length + 1 ≤ 1000000)
    (h : ∀ v' w', Rn w0 (X ++ [i]) v' w' → wpList Try.prog ops Q rest (a.put o.dst v') w') : wpList Try.prog ops Q (o :: rest) a w :=
  app_ints hgd s x ho w0.heap.size v X.length X hs hown.own (A := some ad) (m := 1) (c := c) (ts := [i]) hx htr rfl (fun e => by cases e) hb hown.bel.size fun v' w' h1 h2 => h v' w' (hown.next h1 h2)
end Go.Proofs.Ytfcjihfnimefhaa
