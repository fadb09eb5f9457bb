import Derived.Test.YtfiebibpgbadlaaGreatProgT
import Derived.Test.YtfiebibpgbadlaaGreatRefG
import Derived.Test.YtfiebibpgbadlaaGreatDw
namespace Go.Proofs.YtfiebibpgbadlaaGreat
open Go.RowKit
set_option linter.unusedVariables false
set_option linter.unusedSimpArgs false

def lcell (n : Hw.Ln) : List Value := [.int .i64 n.how, .string ⟨n.left.toArray⟩, .string ⟨n.right.toArray⟩, .int .i64 n.said, .int .i64 n.a, .int .i64 n.b, .string ⟨n.ahead.toArray⟩, .string ⟨n.behind.toArray⟩]
def lcells (ls : List Hw.Ln) : List Value := ls.flatMap lcell
theorem length_lcells (ls : List Hw.Ln) : (lcells ls).length = ls.length * 8 := by
  induction ls with
  | nil => rfl
  | cons r R ih => simp [lcells, lcell, List.flatMap_cons] at *; omega
theorem lcells_at (ls : List Hw.Ln) (i : Nat) (n : Hw.Ln) (h : ls[i]? = some n) (j : Nat) (hj : j < 8) : (lcells ls)[i * 8 + j]? = (lcell n)[j]? := by
  induction ls generalizing i with
  | nil => simp at h
  | cons r R ih =>
    have e : lcells (r :: R) = lcell r ++ lcells R := rfl
    have hl : (lcell r).length = 8 := rfl
    cases i with
    | zero =>
      simp at h; subst h
      rw [e, Nat.zero_mul, Nat.zero_add, List.getElem?_append_left (by omega)]
    | succ i =>
      rw [e, List.getElem?_append_right (by omega), hl, show (i + 1) * 8 + j - 8 = i * 8 + j by omega]
      exact ih i (by simpa using h)

/-- Lines, as a slice keeps them. -/
def LinesAt (w : World) (base : Nat) (rv : Value) (ls : List Hw.Ln) : Prop := w.ownsRow base 54 8 rv ls.length (lcells ls)

theorem LinesAt.shape {w : World} {base : Nat} {rv : Value} {ls : List Hw.Ln} (h : LinesAt w base rv ls) : ∃ sa cap, rv = .slice sa ls.length cap := by
  rcases h.2 with ⟨h1, h2⟩ | ⟨g, cap, cur, h1, _⟩
  · exact ⟨none, 0, by rw [h1, h2]⟩
  · exact ⟨_, _, h1⟩

theorem LinesAt.le {w : World} {base : Nat} {rv : Value} {ls : List Hw.Ln} (h : LinesAt w base rv ls) : ls.length ≤ maxLen := by
  rcases h.2 with ⟨h1, h2⟩ | ⟨g, cap, cur, h1, hb, hg, hn, hm, _⟩
  · omega
  · omega

/-- the cells of one line. -/
structure LineAt (w : World) (g i : Nat) (n : Hw.Ln) : Prop where
  c0 : w.cell? ⟨g, i * 8, none⟩ = some (.int .i64 n.how)
  c1 : w.cell? ⟨g, i * 8 + 1, none⟩ = some (.string ⟨n.left.toArray⟩)
  c2 : w.cell? ⟨g, i * 8 + 2, none⟩ = some (.string ⟨n.right.toArray⟩)
  c3 : w.cell? ⟨g, i * 8 + 3, none⟩ = some (.int .i64 n.said)
  c4 : w.cell? ⟨g, i * 8 + 4, none⟩ = some (.int .i64 n.a)
  c5 : w.cell? ⟨g, i * 8 + 5, none⟩ = some (.int .i64 n.b)
  c6 : w.cell? ⟨g, i * 8 + 6, none⟩ = some (.string ⟨n.ahead.toArray⟩)
  c7 : w.cell? ⟨g, i * 8 + 7, none⟩ = some (.string ⟨n.behind.toArray⟩)

theorem LinesAt.read {w : World} {base : Nat} {rv : Value} {ls : List Hw.Ln} (h : LinesAt w base rv ls) (hpos : 0 < ls.length) :
    ∃ g cap, rv = .slice (some ⟨g, 0, none⟩) ls.length cap ∧ g < w.heap.size ∧ base ≤ g ∧ ∀ i n, ls[i]? = some n → LineAt w g i n := by
  rcases h.2 with ⟨h1, h2⟩ | ⟨g, cap, cur, h1, hb, hg, hn, _, hsz, ht⟩
  · omega
  · refine ⟨g, cap, h1, lt_of_block hg, hb, fun i n hi => ?_⟩
    have hlt : i < ls.length := (List.getElem?_eq_some_iff.1 hi).1
    have key : ∀ j, j < 8 → w.cell? ⟨g, i * 8 + j, none⟩ = (lcell n)[j]? := by
      intro j hj
      rw [cell_of_row w g _ cur _ _ hg]
      have e := lcells_at ls i n hi j hj
      rw [← ht, List.getElem?_take, if_pos (by omega)] at e
      simpa using e
    exact ⟨key 0 (by omega), key 1 (by omega), key 2 (by omega), key 3 (by omega), key 4 (by omega), key 5 (by omega), key 6 (by omega), key 7 (by omega)⟩

theorem LineAt.below {w w' : World} {g i : Nat} {n : Hw.Ln} (h : LineAt w g i n) (hb : Below w.heap.size w w') : LineAt w' g i n := by
  have hl := lt_of_cell h.c0
  exact ⟨(hb.cell (p := ⟨g, i * 8, none⟩) hl).trans h.c0, (hb.cell (p := ⟨g, i * 8 + 1, none⟩) hl).trans h.c1, (hb.cell (p := ⟨g, i * 8 + 2, none⟩) hl).trans h.c2, (hb.cell (p := ⟨g, i * 8 + 3, none⟩) hl).trans h.c3,
    (hb.cell (p := ⟨g, i * 8 + 4, none⟩) hl).trans h.c4, (hb.cell (p := ⟨g, i * 8 + 5, none⟩) hl).trans h.c5, (hb.cell (p := ⟨g, i * 8 + 6, none⟩) hl).trans h.c6, (hb.cell (p := ⟨g, i * 8 + 7, none⟩) hl).trans h.c7⟩

/-- What Why answers. -/
def WhyAns (L M : Nat) (said : List Hw.Rl) (s t : Hw.Wd) (ls : List Hw.Ln) (c : Nat) : Prop :=
  ∃ bv c0, SameAns L M said s t bv c0 ∧ (c0 = 2 → c = 2 ∧ ls = []) ∧ (c0 = 0 → bv = false → c = 4 ∧ ls = []) ∧
    (c0 = 0 → bv = true → c = 0 ∧ Hw.Lines L M said ls ∧ ∃ ls0 n, ls = ls0 ++ [n] ∧ n.left = s ∧ n.right = t)
def WhyC : Prop := ∀ (s t : ByteArray) (w : World) (bb L M : Nat) (rv : Value) (said R : List Hw.Rl), s.size ≤ maxLen → t.size ≤ maxLen → BookR w bb L M rv said R →
  Calls Tryz.prog 17 #[.pointer (some ⟨bb, 0, none⟩), .string s, .string t] w fun e w' => ∃ ls ov c, e = .returned (.tuple #[ov, .int .i64 ((c : Nat) : Int)]) ∧ WhyAns L M said s.data.toList t.data.toList ls c ∧ LinesAt w' w.heap.size ov ls ∧ Below w.heap.size w w'

def lbox (n : Hw.Ln) : Obj := .cells #[.int .i64 n.how, .string ⟨n.left.toArray⟩, .string ⟨n.right.toArray⟩, .int .i64 n.said, .int .i64 n.a, .int .i64 n.b, .string ⟨n.ahead.toArray⟩, .string ⟨n.behind.toArray⟩] 54 (0, 0)

theorem boxAt (w : World) (n : Hw.Ln) : (w.alloc (lbox n)).cell? ⟨w.heap.size, 0, none⟩ = some (.int .i64 n.how) ∧ (w.alloc (lbox n)).cell? ⟨w.heap.size, 1, none⟩ = some (.string ⟨n.left.toArray⟩) ∧ (w.alloc (lbox n)).cell? ⟨w.heap.size, 2, none⟩ = some (.string ⟨n.right.toArray⟩) ∧
    (w.alloc (lbox n)).cell? ⟨w.heap.size, 3, none⟩ = some (.int .i64 n.said) ∧ (w.alloc (lbox n)).cell? ⟨w.heap.size, 4, none⟩ = some (.int .i64 n.a) ∧ (w.alloc (lbox n)).cell? ⟨w.heap.size, 5, none⟩ = some (.int .i64 n.b) ∧ (w.alloc (lbox n)).cell? ⟨w.heap.size, 6, none⟩ = some (.string ⟨n.ahead.toArray⟩) ∧ (w.alloc (lbox n)).cell? ⟨w.heap.size, 7, none⟩ = some (.string ⟨n.behind.toArray⟩) := by
  have h := heap_alloc_new w (lbox n)
  exact ⟨cellAt h rfl, cellAt h rfl, cellAt h rfl, cellAt h rfl, cellAt h rfl, cellAt h rfl, cellAt h rfl, cellAt h rfl⟩

theorem isWord_true (s : Hw.Wd) (L M b : Nat) (w : World) (hL1 : 1 ≤ L) (hL3 : L ≤ 3) (hM6 : M ≤ 6) (hw : Hw.isWord L M s = true)
    (cL : w.cell? ⟨b, 0, none⟩ = some (.int .i64 L)) (cM : w.cell? ⟨b, 1, none⟩ = some (.int .i64 M)) :
    Calls Tryz.prog 64 #[.pointer (some ⟨b, 0, none⟩), .string ⟨s.toArray⟩] w fun e w' => e = .returned (.bool true) ∧ ∃ n, w' = w.drewN n := by
  have hl := Hw.isWord_len hw
  refine (isWord_any ⟨s.toArray⟩ L M b w (by simp [ByteArray.size, maxLen]; omega) hL1 hL3 hM6 cL cM).mono ?_
  rintro e w' ⟨rfl, h⟩
  exact ⟨by show _ = Ending.returned (.bool true); rw [← hw], h⟩

theorem below_dd {w w1 : World} (h : Below w.heap.size w w1) (a b : Nat) : Below w.heap.size w ((w1.drewN a).drewN b) :=
  h.trans (((below_draw a).mono h.size).trans ((below_draw b).mono h.size))
theorem no_letters : ((⟨#[]⟩ : ByteArray) ++ (⟨#[]⟩ : ByteArray)).toList = [] := by rw [ByteArray.toList_eq]; rfl
theorem add3 (u x v : Hw.Wd) : (⟨u.toArray⟩ : ByteArray) ++ (⟨x.toArray⟩ : ByteArray) ++ (⟨v.toArray⟩ : ByteArray) = ⟨(u ++ x ++ v).toArray⟩ := by
  rw [ByteArray.mk_append_mk, ByteArray.mk_append_mk]

set_option maxRecDepth 4000 in
set_option maxHeartbeats 1600000 in
theorem drawn_self (i : Nat) (g cap N : Nat) (w : World) (xb rb L M : Nat) (x : Hw.Wd) (hL1 : 1 ≤ L) (hL3 : L ≤ 3) (hM6 : M ≤ 6) (hN : N ≤ 100000) (hi : i < N) (hx : Hw.isWord L M (x) = true) (hy : Hw.isWord L M (x) = true)
    (x1 : w.cell? ⟨xb, 1, none⟩ = some (.pointer (some ⟨rb, 0, none⟩))) (cL : w.cell? ⟨rb, 0, none⟩ = some (.int .i64 L)) (cM : w.cell? ⟨rb, 1, none⟩ = some (.int .i64 M)) (hn : LineAt w g i ⟨0, x, x, 0, 0, 0, [], []⟩)  :
    Calls Tryz.prog 48 #[.pointer (some ⟨xb, 0, none⟩), .slice (some ⟨g, 0, none⟩) N cap, .int .i64 (i : Int)] w fun e w' => e = .returned (.bool true) ∧ Below w.heap.size w w' := by
  obtain ⟨c0, c1, c2, c3, c4, c5, c6, c7⟩ := hn
  have hx6 := Hw.isWord_len hx
  have hy6 := Hw.isWord_len hy
  have HX := hide hx
  have HY := hide hy
  clear hx hy
  have hno := no_letters
  go_enter Tryz.func48, Tryz.ntmps48
  go_wp2_with fail
  have HB := hide (below_alloc w (lbox ⟨0, x, x, 0, 0, 0, [], []⟩))
  have y1 := (HB.out.cell (p := ⟨xb, 1, none⟩) (lt_of_cell x1)).trans x1
  have yL := (HB.out.cell (p := ⟨rb, 0, none⟩) (lt_of_cell cL)).trans cL
  have yM := (HB.out.cell (p := ⟨rb, 1, none⟩) (lt_of_cell cM)).trans cM
  have hb := boxAt w ⟨0, x, x, 0, 0, 0, [], []⟩
  obtain ⟨b0, b1, b2, b3, b4, b5, b6, b7⟩ := hb
  unfold lbox at *
  simp only at *
  generalize w.alloc _ = w1 at *
  clear c0 c1 c2 c3 c4 c5 c6 c7 x1 cL cM
  go_quiet ((go_at_call 64; refine Calls.quiet_of (isWord_true _ L M rb _ hL1 hL3 hM6 (by exact HX.out) (by exact yL) (by exact yM))))
  go_wp2_with fail
  go_quiet ((go_at_call 64; refine quiet_of2 (isWord_true _ L M rb _ hL1 hL3 hM6 (by exact HY.out) (by exact yL) (by exact yM))))
  go_wp2
  go_ret
  exact ⟨ret_bool (by simp), HB.out.trans ((below_draw _).mono HB.out.size)⟩

set_option maxRecDepth 4000 in
set_option maxHeartbeats 1600000 in
theorem drawn_back (i : Nat) (g cap N : Nat) (w : World) (xb rb L M : Nat) (j : Nat) (p q : Hw.Wd) (hL1 : 1 ≤ L) (hL3 : L ≤ 3) (hM6 : M ≤ 6) (hN : N ≤ 100000) (hi : i < N) (hx : Hw.isWord L M (q) = true) (hy : Hw.isWord L M (p) = true)
    (x1 : w.cell? ⟨xb, 1, none⟩ = some (.pointer (some ⟨rb, 0, none⟩))) (cL : w.cell? ⟨rb, 0, none⟩ = some (.int .i64 L)) (cM : w.cell? ⟨rb, 1, none⟩ = some (.int .i64 M)) (hn : LineAt w g i ⟨2, q, p, 0, (j : Int), 0, [], []⟩) (hj : j < i) (d1 : w.cell? ⟨g, j * 8 + 1, none⟩ = some (.string ⟨p.toArray⟩)) (d2 : w.cell? ⟨g, j * 8 + 2, none⟩ = some (.string ⟨q.toArray⟩))  :
    Calls Tryz.prog 48 #[.pointer (some ⟨xb, 0, none⟩), .slice (some ⟨g, 0, none⟩) N cap, .int .i64 (i : Int)] w fun e w' => e = .returned (.bool true) ∧ Below w.heap.size w w' := by
  obtain ⟨c0, c1, c2, c3, c4, c5, c6, c7⟩ := hn
  have hx6 := Hw.isWord_len hx
  have hy6 := Hw.isWord_len hy
  have HX := hide hx
  have HY := hide hy
  clear hx hy
  have hno := no_letters
  go_enter Tryz.func48, Tryz.ntmps48
  go_wp2_with fail
  have HB := hide (below_alloc w (lbox ⟨2, q, p, 0, (j : Int), 0, [], []⟩))
  have y1 := (HB.out.cell (p := ⟨xb, 1, none⟩) (lt_of_cell x1)).trans x1
  have yL := (HB.out.cell (p := ⟨rb, 0, none⟩) (lt_of_cell cL)).trans cL
  have yM := (HB.out.cell (p := ⟨rb, 1, none⟩) (lt_of_cell cM)).trans cM
  have d1' := (HB.out.cell (p := ⟨g, j * 8 + 1, none⟩) (lt_of_cell d1)).trans d1
  have d2' := (HB.out.cell (p := ⟨g, j * 8 + 2, none⟩) (lt_of_cell d2)).trans d2
  have hb := boxAt w ⟨2, q, p, 0, (j : Int), 0, [], []⟩
  obtain ⟨b0, b1, b2, b3, b4, b5, b6, b7⟩ := hb
  unfold lbox at *
  simp only at *
  generalize w.alloc _ = w1 at *
  clear c0 c1 c2 c3 c4 c5 c6 c7 x1 cL cM
  go_quiet ((go_at_call 64; refine Calls.quiet_of (isWord_true _ L M rb _ hL1 hL3 hM6 (by exact HX.out) (by exact yL) (by exact yM))))
  go_wp2_with fail
  go_quiet ((go_at_call 64; refine quiet_of2 (isWord_true _ L M rb _ hL1 hL3 hM6 (by exact HY.out) (by exact yL) (by exact yM))))
  go_wp2
  go_quiet (fail)
  go_wp2
  go_ret
  exact ⟨ret_bool (by simp), below_dd HB.out _ _⟩

set_option maxRecDepth 4000 in
set_option maxHeartbeats 1600000 in
theorem drawn_thn (i : Nat) (g cap N : Nat) (w : World) (xb rb L M : Nat) (j k : Nat) (p q r : Hw.Wd) (hL1 : 1 ≤ L) (hL3 : L ≤ 3) (hM6 : M ≤ 6) (hN : N ≤ 100000) (hi : i < N) (hx : Hw.isWord L M (p) = true) (hy : Hw.isWord L M (r) = true)
    (x1 : w.cell? ⟨xb, 1, none⟩ = some (.pointer (some ⟨rb, 0, none⟩))) (cL : w.cell? ⟨rb, 0, none⟩ = some (.int .i64 L)) (cM : w.cell? ⟨rb, 1, none⟩ = some (.int .i64 M)) (hn : LineAt w g i ⟨3, p, r, 0, (j : Int), (k : Int), [], []⟩) (hj : j < i) (hk : k < i) (d1 : w.cell? ⟨g, j * 8 + 1, none⟩ = some (.string ⟨p.toArray⟩)) (d2 : w.cell? ⟨g, j * 8 + 2, none⟩ = some (.string ⟨q.toArray⟩)) (d3 : w.cell? ⟨g, k * 8 + 1, none⟩ = some (.string ⟨q.toArray⟩)) (d4 : w.cell? ⟨g, k * 8 + 2, none⟩ = some (.string ⟨r.toArray⟩))  :
    Calls Tryz.prog 48 #[.pointer (some ⟨xb, 0, none⟩), .slice (some ⟨g, 0, none⟩) N cap, .int .i64 (i : Int)] w fun e w' => e = .returned (.bool true) ∧ Below w.heap.size w w' := by
  obtain ⟨c0, c1, c2, c3, c4, c5, c6, c7⟩ := hn
  have hx6 := Hw.isWord_len hx
  have hy6 := Hw.isWord_len hy
  have HX := hide hx
  have HY := hide hy
  clear hx hy
  have hno := no_letters
  go_enter Tryz.func48, Tryz.ntmps48
  go_wp2_with fail
  have HB := hide (below_alloc w (lbox ⟨3, p, r, 0, (j : Int), (k : Int), [], []⟩))
  have y1 := (HB.out.cell (p := ⟨xb, 1, none⟩) (lt_of_cell x1)).trans x1
  have yL := (HB.out.cell (p := ⟨rb, 0, none⟩) (lt_of_cell cL)).trans cL
  have yM := (HB.out.cell (p := ⟨rb, 1, none⟩) (lt_of_cell cM)).trans cM
  have d1' := (HB.out.cell (p := ⟨g, j * 8 + 1, none⟩) (lt_of_cell d1)).trans d1
  have d2' := (HB.out.cell (p := ⟨g, j * 8 + 2, none⟩) (lt_of_cell d2)).trans d2
  have d3' := (HB.out.cell (p := ⟨g, k * 8 + 1, none⟩) (lt_of_cell d3)).trans d3
  have d4' := (HB.out.cell (p := ⟨g, k * 8 + 2, none⟩) (lt_of_cell d4)).trans d4
  have hb := boxAt w ⟨3, p, r, 0, (j : Int), (k : Int), [], []⟩
  obtain ⟨b0, b1, b2, b3, b4, b5, b6, b7⟩ := hb
  unfold lbox at *
  simp only at *
  generalize w.alloc _ = w1 at *
  clear c0 c1 c2 c3 c4 c5 c6 c7 x1 cL cM
  go_quiet ((go_at_call 64; refine Calls.quiet_of (isWord_true _ L M rb _ hL1 hL3 hM6 (by exact HX.out) (by exact yL) (by exact yM))))
  go_wp2_with fail
  go_quiet ((go_at_call 64; refine quiet_of2 (isWord_true _ L M rb _ hL1 hL3 hM6 (by exact HY.out) (by exact yL) (by exact yM))))
  go_wp2
  go_quiet (fail)
  go_wp2
  go_ret
  exact ⟨ret_bool (by simp), below_dd HB.out _ _⟩

set_option maxRecDepth 4000 in
set_option maxHeartbeats 1600000 in
theorem drawn_said (i : Nat) (g cap N : Nat) (w : World) (xb rb L M : Nat) (k n sg sc kg : Nat) (p q : Hw.Wd) (hL1 : 1 ≤ L) (hL3 : L ≤ 3) (hM6 : M ≤ 6) (hN : N ≤ 100000) (hi : i < N) (hx : Hw.isWord L M (p) = true) (hy : Hw.isWord L M (q) = true)
    (x1 : w.cell? ⟨xb, 1, none⟩ = some (.pointer (some ⟨rb, 0, none⟩))) (cL : w.cell? ⟨rb, 0, none⟩ = some (.int .i64 L)) (cM : w.cell? ⟨rb, 1, none⟩ = some (.int .i64 M)) (hn : LineAt w g i ⟨1, p, q, (k : Int), 0, 0, [], []⟩) (hk : k < n) (hn12 : n ≤ 12) (d1 : w.cell? ⟨rb, 2, none⟩ = some (.slice (some ⟨sg, 0, none⟩) n sc)) (d2 : w.cell? ⟨sg, k, none⟩ = some (.slice (some ⟨kg, 0, none⟩) 2 2)) (d3 : w.cell? ⟨kg, 0, none⟩ = some (.string ⟨p.toArray⟩)) (d4 : w.cell? ⟨kg, 1, none⟩ = some (.string ⟨q.toArray⟩))  :
    Calls Tryz.prog 48 #[.pointer (some ⟨xb, 0, none⟩), .slice (some ⟨g, 0, none⟩) N cap, .int .i64 (i : Int)] w fun e w' => e = .returned (.bool true) ∧ Below w.heap.size w w' := by
  obtain ⟨c0, c1, c2, c3, c4, c5, c6, c7⟩ := hn
  have hx6 := Hw.isWord_len hx
  have hy6 := Hw.isWord_len hy
  have HX := hide hx
  have HY := hide hy
  clear hx hy
  have hno := no_letters
  go_enter Tryz.func48, Tryz.ntmps48
  go_wp2_with fail
  have HB := hide (below_alloc w (lbox ⟨1, p, q, (k : Int), 0, 0, [], []⟩))
  have y1 := (HB.out.cell (p := ⟨xb, 1, none⟩) (lt_of_cell x1)).trans x1
  have yL := (HB.out.cell (p := ⟨rb, 0, none⟩) (lt_of_cell cL)).trans cL
  have yM := (HB.out.cell (p := ⟨rb, 1, none⟩) (lt_of_cell cM)).trans cM
  have d1' := (HB.out.cell (p := ⟨rb, 2, none⟩) (lt_of_cell d1)).trans d1
  have d2' := (HB.out.cell (p := ⟨sg, k, none⟩) (lt_of_cell d2)).trans d2
  have d3' := (HB.out.cell (p := ⟨kg, 0, none⟩) (lt_of_cell d3)).trans d3
  have d4' := (HB.out.cell (p := ⟨kg, 1, none⟩) (lt_of_cell d4)).trans d4
  have hb := boxAt w ⟨1, p, q, (k : Int), 0, 0, [], []⟩
  obtain ⟨b0, b1, b2, b3, b4, b5, b6, b7⟩ := hb
  unfold lbox at *
  simp only at *
  generalize w.alloc _ = w1 at *
  clear c0 c1 c2 c3 c4 c5 c6 c7 x1 cL cM
  go_quiet ((go_at_call 64; refine Calls.quiet_of (isWord_true _ L M rb _ hL1 hL3 hM6 (by exact HX.out) (by exact yL) (by exact yM))))
  go_wp2_with fail
  go_quiet ((go_at_call 64; refine quiet_of2 (isWord_true _ L M rb _ hL1 hL3 hM6 (by exact HY.out) (by exact yL) (by exact yM))))
  go_wp2
  go_quiet (fail)
  go_wp2
  go_ret
  exact ⟨ret_bool (by simp), below_dd HB.out _ _⟩

set_option maxRecDepth 4000 in
set_option maxHeartbeats 1600000 in
theorem drawn_within (i : Nat) (g cap N : Nat) (w : World) (xb rb L M : Nat) (j : Nat) (p q u v X Y : Hw.Wd) (hX : X = u ++ p ++ v) (hY : Y = u ++ q ++ v) (hL1 : 1 ≤ L) (hL3 : L ≤ 3) (hM6 : M ≤ 6) (hN : N ≤ 100000) (hi : i < N) (hx : Hw.isWord L M X = true) (hy : Hw.isWord L M Y = true)
    (x1 : w.cell? ⟨xb, 1, none⟩ = some (.pointer (some ⟨rb, 0, none⟩))) (cL : w.cell? ⟨rb, 0, none⟩ = some (.int .i64 L)) (cM : w.cell? ⟨rb, 1, none⟩ = some (.int .i64 M)) (hn : LineAt w g i ⟨4, X, Y, 0, (j : Int), 0, u, v⟩) (hj : j < i) (d1 : w.cell? ⟨g, j * 8 + 1, none⟩ = some (.string ⟨p.toArray⟩)) (d2 : w.cell? ⟨g, j * 8 + 2, none⟩ = some (.string ⟨q.toArray⟩))  :
    Calls Tryz.prog 48 #[.pointer (some ⟨xb, 0, none⟩), .slice (some ⟨g, 0, none⟩) N cap, .int .i64 (i : Int)] w fun e w' => e = .returned (.bool true) ∧ Below w.heap.size w w' := by
  obtain ⟨c0, c1, c2, c3, c4, c5, c6, c7⟩ := hn
  have hx6 := Hw.isWord_len hx
  have hy6 := Hw.isWord_len hy
  have HX := hide hx
  have HY := hide hy
  clear hx hy
  have hp3 : (⟨u.toArray⟩ : ByteArray) ++ (⟨p.toArray⟩ : ByteArray) ++ (⟨v.toArray⟩ : ByteArray) = ⟨X.toArray⟩ := by rw [hX]; exact add3 u p v
  have hq3 : (⟨u.toArray⟩ : ByteArray) ++ (⟨q.toArray⟩ : ByteArray) ++ (⟨v.toArray⟩ : ByteArray) = ⟨Y.toArray⟩ := by rw [hY]; exact add3 u q v
  have hxl : u.length + p.length + v.length ≤ 6 := by rw [hX] at hx6; simp at hx6; omega
  have hyl : u.length + q.length + v.length ≤ 6 := by rw [hY] at hy6; simp at hy6; omega
  clear hX hY
  go_enter Tryz.func48, Tryz.ntmps48
  go_wp2_with fail
  have HB := hide (below_alloc w (lbox ⟨4, X, Y, 0, (j : Int), 0, u, v⟩))
  have y1 := (HB.out.cell (p := ⟨xb, 1, none⟩) (lt_of_cell x1)).trans x1
  have yL := (HB.out.cell (p := ⟨rb, 0, none⟩) (lt_of_cell cL)).trans cL
  have yM := (HB.out.cell (p := ⟨rb, 1, none⟩) (lt_of_cell cM)).trans cM
  have d1' := (HB.out.cell (p := ⟨g, j * 8 + 1, none⟩) (lt_of_cell d1)).trans d1
  have d2' := (HB.out.cell (p := ⟨g, j * 8 + 2, none⟩) (lt_of_cell d2)).trans d2
  have hb := boxAt w ⟨4, X, Y, 0, (j : Int), 0, u, v⟩
  obtain ⟨b0, b1, b2, b3, b4, b5, b6, b7⟩ := hb
  unfold lbox at *
  simp only at *
  generalize w.alloc _ = w1 at *
  clear c0 c1 c2 c3 c4 c5 c6 c7 x1 cL cM
  go_quiet ((go_at_call 64; refine Calls.quiet_of (isWord_true _ L M rb _ hL1 hL3 hM6 (by exact HX.out) (by exact yL) (by exact yM))))
  go_wp2_with fail
  go_quiet ((go_at_call 64; refine quiet_of2 (isWord_true _ L M rb _ hL1 hL3 hM6 (by exact HY.out) (by exact yL) (by exact yM))))
  go_wp2
  go_quiet (fail)
  go_wp2
  go_ret
  exact ⟨ret_bool (by simp), below_dd HB.out _ _⟩
end Go.Proofs.YtfiebibpgbadlaaGreat
