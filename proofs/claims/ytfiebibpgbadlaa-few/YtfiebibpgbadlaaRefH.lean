import Derived.Test.YtfiebibpgbadlaaRefG
import Derived.Test.YtfiebibpgbadlaaProgO
namespace Go.Proofs.Ytfiebibpgbadlaa
open Go.RowKit
set_option linter.unusedVariables false
set_option linter.unusedSimpArgs false

structure RI (w wr : World) (L M : Nat) (xs : List Nat) (k : Nat) (ov : Value) (l : List Hw.Rl) : Prop where
  below : Below w.heap.size w wr
  rows : RulesAt wr w.heap.size ov l
  ref : Hw.RefRules L M xs k l
  len : l.length ≤ k

theorem RI.skip {w wr : World} {L M : Nat} {xs : List Nat} {k : Nat} {ov : Value} {l : List Hw.Rl} (h : RI w wr L M xs k ov l) (hc : ¬ Hw.RefCond L M xs k) : RI w wr L M xs (k + 1) ov l :=
  ⟨h.below, h.rows, h.ref.skip hc, by have := h.len; omega⟩

theorem RulesAt.below {w w' : World} {B : Nat} {rv : Value} {R : List Hw.Rl} (h : RulesAt w B rv R) (hb : Below w.heap.size w w') : RulesAt w' B rv R := h.kept (S := []) (Kept.of_below_size hb) (by simp)

theorem RulesAt.lower {w : World} {B B' : Nat} {rv : Value} {R : List Hw.Rl} (h : RulesAt w B rv R) (hB : B' ≤ B) : RulesAt w B' rv R := by
  refine ⟨h.1, ?_⟩
  rcases h.2 with h1 | ⟨g, cap, cur, h1, h2, r⟩
  · exact .inl h1
  · exact .inr ⟨g, cap, cur, h1, Nat.le_trans hB h2, r⟩

theorem below_draw {w : World} (n : Nat) : Below w.heap.size w (w.drewN n) := (Kept.of_drewN [] w n).below (Nat.le_refl _) (by simp)

theorem RI.drewN {w wr : World} {L M : Nat} {xs : List Nat} {k : Nat} {ov : Value} {l : List Hw.Rl} (h : RI w wr L M xs k ov l) (n : Nat) : RI w (wr.drewN n) L M xs k ov l :=
  ⟨h.below.trans ((below_draw n).mono h.below.size), h.rows.below (below_draw n), h.ref, h.len⟩

theorem RI.more {w W w0 w1 : World} {L M : Nat} {xs : List Nat} {k cap : Nat} {sa : Option Addr} {v' : Value} {l : List Hw.Rl} {o : Obj} (hL : L ≤ 3) (h : RI w W L M xs k (.slice sa l.length cap) l) (h0 : SameW (W.alloc o) w0) (hi : k < (Hw.upTo L M).length) (hc : Hw.RefCond L M xs k)
    (hown : w1.ownsRow w.heap.size 42 2 v' (l.length + 1) (rcells l ++ [.string ⟨(Hw.wordAt L M k).toArray⟩, .string ⟨(Hw.wordAt L M (Hw.of xs k)).toArray⟩])) (hgrow : w0.grownBy w1 (Value.slice sa l.length cap).ownBlock) :
    RI w w1 L M xs (k + 1) v' (l ++ [(Hw.wordAt L M k, Hw.wordAt L M (Hw.of xs k))]) := by
  have hK : Kept (Value.slice sa l.length cap).ownBlock.toList W w1 := (((Kept.refl _ W).alloc _).trans (h0.kept _)).trans (Kept.of_grown hgrow (fun k hk => by simp [hk]))
  refine ⟨h.below.trans (hK.below h.below.size ?_), ?_, h.ref.more hL hi hc, by have := h.len; simp; omega⟩
  · intro k hk
    simp at hk
    rcases h.rows.2 with ⟨h1, _⟩ | ⟨g, cap2, cur, h1, hb2, hg, _⟩
    · rw [h1] at hk; simp [Value.ownBlock] at hk
    · rw [h1] at hk; simp [Value.ownBlock] at hk; omega
  · unfold RulesAt
    rw [show rcells (l ++ [(Hw.wordAt L M k, Hw.wordAt L M (Hw.of xs k))]) = rcells l ++ [.string ⟨(Hw.wordAt L M k).toArray⟩, .string ⟨(Hw.wordAt L M (Hw.of xs k)).toArray⟩] by simp [rcells], show (l ++ [(Hw.wordAt L M k, Hw.wordAt L M (Hw.of xs k))]).length = l.length + 1 by simp]
    exact hown

end Go.Proofs.Ytfiebibpgbadlaa
