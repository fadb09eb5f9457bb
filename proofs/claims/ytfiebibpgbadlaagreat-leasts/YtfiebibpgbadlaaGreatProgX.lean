import Derived.Test.YtfiebibpgbadlaaGreatProgW
namespace Go.Proofs.YtfiebibpgbadlaaGreat
open Go.RowKit
set_option linter.unusedVariables false
set_option linter.unusedSimpArgs false

theorem BothR.alloc {A : Nat → Prop} {w : World} {xb bb rb gw cw L M : Nat} (h : BothR A w xb bb rb gw cw L M) (o : Obj) : BothR A (w.alloc o) xb bb rb gw cw L M ∧ BA A w (w.alloc o) := by
  obtain ⟨rv, saidV, sameV, said, R, gs, fresh, hC⟩ := h
  have hb := below_alloc w o
  exact ⟨⟨rv, saidV, sameV, said, R, gs, fresh, hC.below hb⟩, BA.of_below hb⟩

set_option maxHeartbeats 1600000 in
theorem lstep_any (kd k a b : Int) (s t : ByteArray) (A : Nat → Prop) (w : World) (xb bb rb gw cw L M : Nat) (h3 : kd ≤ 3) (hs : s.size ≤ maxLen) (ht : t.size ≤ maxLen) (h : BothR A w xb bb rb gw cw L M) :
    Calls Tryz.prog 19 #[.pointer (some ⟨xb, 0, none⟩), .agg #[.int .i64 kd, .int .i64 k, .int .i64 a, .int .i64 b, .string s, .string t]] w fun e w' => e = .returned (.bool true) ∧ BA A w w' ∧ BothR A w' xb bb rb gw cw L M := by
  have HA := hide (h.alloc (opBox kd k a b s t))
  have o0 : (w.alloc (opBox kd k a b s t)).cell? ⟨w.heap.size, 0, none⟩ = some (.int .i64 kd) := cellAt (heap_alloc_new w _) rfl
  have o1 : (w.alloc (opBox kd k a b s t)).cell? ⟨w.heap.size, 1, none⟩ = some (.int .i64 k) := cellAt (heap_alloc_new w _) rfl
  have o2 : (w.alloc (opBox kd k a b s t)).cell? ⟨w.heap.size, 2, none⟩ = some (.int .i64 a) := cellAt (heap_alloc_new w _) rfl
  have o3 : (w.alloc (opBox kd k a b s t)).cell? ⟨w.heap.size, 3, none⟩ = some (.int .i64 b) := cellAt (heap_alloc_new w _) rfl
  have o4 : (w.alloc (opBox kd k a b s t)).cell? ⟨w.heap.size, 4, none⟩ = some (.string s) := cellAt (heap_alloc_new w _) rfl
  have o5 : (w.alloc (opBox kd k a b s t)).cell? ⟨w.heap.size, 5, none⟩ = some (.string t) := cellAt (heap_alloc_new w _) rfl
  clear h
  unfold opBox at *
  by_cases h1 : kd = 1
  · subst h1
    go_enter Tryz.func19, Tryz.ntmps19
    go_wp2_with fail
    refine (lsaid_any 1 k a b s t A _ xb bb rb gw cw L M hs ht (by exact HA.out.1)).mono ?_
    rintro e w1 ⟨rfl, hb, hR⟩
    have HR := hide (And.intro hb hR)
    clear hb hR o0 o1 o2 o3 o4 o5
    go_wp2
    go_ret
    exact ⟨rfl, HA.out.2.trans HR.out.1, HR.out.2⟩
  by_cases h2 : kd = 2
  · subst h2
    clear h1
    go_enter Tryz.func19, Tryz.ntmps19
    go_wp2_with fail
    refine (lleast_any s A _ xb bb rb gw cw L M hs (by exact HA.out.1)).mono ?_
    rintro e w1 ⟨rfl, hb, hR⟩
    have HR := hide (And.intro hb hR)
    clear hb hR o0 o1 o2 o3 o4 o5
    go_wp2
    go_ret
    exact ⟨rfl, HA.out.2.trans HR.out.1, HR.out.2⟩
  by_cases h4 : kd = 3
  · subst h4
    clear h1 h2
    go_enter Tryz.func19, Tryz.ntmps19
    go_wp2_with fail
    refine (lalike_any 3 k a b s t A _ xb bb rb gw cw L M hs ht (by exact HA.out.1)).mono ?_
    rintro e w1 ⟨rfl, hb, hR⟩
    have HR := hide (And.intro hb hR)
    clear hb hR o0 o1 o2 o3 o4 o5
    go_wp2
    go_ret
    exact ⟨rfl, HA.out.2.trans HR.out.1, HR.out.2⟩
  · have e1 : (kd == 1) = false := by simpa using h1
    have e2 : (kd == 2) = false := by simpa using h2
    have e3 : (kd == 3) = false := by simpa using h4
    have e4 : (kd == 4) = false := by simp; omega
    have e5 : (kd == 5) = false := by simp; omega
    have e6 : (kd == 6) = false := by simp; omega
    clear h1 h2 h4 h3
    go_enter Tryz.func19, Tryz.ntmps19
    go_wp2
    go_ret
    exact ⟨rfl, HA.out.2, HA.out.1⟩

theorem begun_bad (l m : Int) (w : World) (h : l < 1 ∨ 3 < l ∨ m < 1 ∨ 6 < m) :
    Calls Tryz.prog 18 #[.int .i64 l, .int .i64 m] w fun e w' => e = .returned (.tuple #[.pointer none, .bool true]) ∧ Below w.heap.size w w' := by
  go_enter Tryz.func18, Tryz.ntmps18
  go_wp2_with fail
  refine (pnew_bad l m _ h).mono ?_
  rintro e w1 ⟨rfl, rfl⟩
  go_wp2_with fail
  refine (new_bad l m _ h).mono ?_
  rintro e w1 ⟨rfl, rfl⟩
  go_wp2
  go_ret2
  exact ⟨rfl, Below.refl _ _⟩

theorem fin_nil (L M : Nat) : Hw.Fin L M [] [] := by
  refine ⟨?_, by simp, List.Pairwise.nil, ?_, by simp⟩
  · constructor <;> simp
  · intro a b ha; simp at ha

theorem cnt_nil {L M : Nat} (hL : L ≤ 3) (hM : M ≤ 6) : ([] : List Hw.Rl).length + Hw.cntIrr L M [] ≤ 1093 := by
  have := upTo_small hL hM
  have h2 : Hw.cntIrr L M [] ≤ (Hw.upTo L M).length := by unfold Hw.cntIrr; exact List.countP_le_length
  simp; omega

theorem book_new {w : World} {bb L M : Nat} (hL1 : 1 ≤ L) (hL3 : L ≤ 3) (hM1 : 1 ≤ M) (hM6 : M ≤ 6) (hb : w.heap[bb]? = some (bookBlock L M (.slice none 0 0) (.slice none 0 0))) (hm : ∃ m, w.cell? ⟨0, 0, none⟩ = some (.int .i64 m)) (hpos : 0 < bb) : BookR w bb L M (.slice none 0 0) [] [] := by
  have e : sdv w bb = .slice none 0 0 := sdv_of hb
  refine ⟨hL1, hL3, hM1, hM6, by simp, by rw [e]; exact hb, ?_, fin_nil L M, cnt_nil hL3 hM6, hm, hpos, by simp, Hw.ToIrr.nil, Hw.Rises.nil L, ?_⟩
  · exact World.ownsRow_nil _ _ _ _
  · rw [e]; exact World.ownsRow_nil _ _ _ _

theorem both_start {w w2 : World} {rb gw cw L M : Nat} {m : Int} (hL1 : 1 ≤ L) (hL3 : L ≤ 3) (hM1 : 1 ≤ M) (hM6 : M ≤ 6) (hm : w.cell? ⟨0, 0, none⟩ = some (.int .i64 m))
    (hb : Below (w.alloc (bookBlock L M (.slice none 0 0) (.slice none 0 0))).heap.size (w.alloc (bookBlock L M (.slice none 0 0) (.slice none 0 0))) w2) (h1 : (w.alloc (bookBlock L M (.slice none 0 0) (.slice none 0 0))).heap.size ≤ rb) (hR : RefR w2 rb gw cw L M (.slice none 0 0) (.slice none 0 0) [] [] false) :
    Below w.heap.size w (w2.alloc (.cells #[.pointer (some ⟨w.heap.size, 0, none⟩), .pointer (some ⟨rb, 0, none⟩)] 65 (0, 0))) ∧
    BothR (Up w.heap.size) (w2.alloc (.cells #[.pointer (some ⟨w.heap.size, 0, none⟩), .pointer (some ⟨rb, 0, none⟩)] 65 (0, 0))) w2.heap.size w.heap.size rb gw cw L M := by
  have hb0 := below_alloc w (bookBlock L M (.slice none 0 0) (.slice none 0 0))
  have hb2 := below_trans hb0 hb
  have hb3 := below_trans hb2 (below_alloc w2 (.cells #[.pointer (some ⟨w.heap.size, 0, none⟩), .pointer (some ⟨rb, 0, none⟩)] 65 (0, 0)))
  have hpos : 0 < w.heap.size := lt_of_cell hm
  have hsz := hb2.size
  have hbk : (w.alloc (bookBlock L M (.slice none 0 0) (.slice none 0 0))).heap[w.heap.size]? = some (bookBlock L M (.slice none 0 0) (.slice none 0 0)) := heap_alloc_new _ _
  simp at h1
  have hB : BookR w2 w.heap.size L M (.slice none 0 0) [] [] := by
    exact book_new hL1 hL3 hM1 hM6 ((hb.block _ (by simp)).trans hbk) ⟨m, (hb2.cell (p := ⟨0, 0, none⟩) hpos).trans hm⟩ hpos
  refine ⟨hb3, _, _, _, _, _, _, _, heap_alloc_new _ _, hB.same (below_alloc _ _), hR.kept (S := []) (Kept.of_below_size (below_alloc _ _)) (by simp), by unfold Up; omega, by unfold Up; omega, by unfold Up; omega, by simp [Value.ownBlock], fun k hk => by have := hb3.size; unfold Up; omega⟩

theorem begun_any (L M : Nat) (m : Int) (w : World) (hL1 : 1 ≤ L) (hL3 : L ≤ 3) (hM1 : 1 ≤ M) (hM6 : M ≤ 6) (hm : w.cell? ⟨0, 0, none⟩ = some (.int .i64 m)) :
    Calls Tryz.prog 18 #[.int .i64 L, .int .i64 M] w fun e w' => ∃ xb bb rb gw cw, e = .returned (.tuple #[.pointer (some ⟨xb, 0, none⟩), .bool true]) ∧ Below w.heap.size w w' ∧ BothR (Up w.heap.size) w' xb bb rb gw cw L M := by
  go_enter Tryz.func18, Tryz.ntmps18
  go_wp2_with fail
  refine (pnew_any L M _ hL1 hL3 hM1 hM6).mono ?_
  rintro e w1 ⟨rfl, rfl⟩
  go_wp2_with fail
  refine (new_any L M _ hL1 hL3 hM1 hM6).mono ?_
  rintro e w2 ⟨rb, gw, cw, rfl, hb, h1, h2, hR⟩
  have HS := hide (both_start hL1 hL3 hM1 hM6 hm hb h1 hR)
  clear hb h1 h2 hR
  go_wp2
  go_ret2
  exact ⟨_, _, _, _, _, rfl, HS.out⟩

/-- A script, as it lies. -/
def ScriptAt (w : World) (sv : Option Addr) (n cap : Nat) : Prop :=
  n ≤ maxLen ∧ ∀ i, i < n → ∃ a kd k x y s t, sv = some a ∧ w.cell? (a.add (i * 6)) = some (.int .i64 kd) ∧ w.cell? ⟨(a.add (i * 6)).block, (a.add (i * 6)).off + 1, none⟩ = some (.int .i64 k) ∧ w.cell? ⟨(a.add (i * 6)).block, (a.add (i * 6)).off + 2, none⟩ = some (.int .i64 x) ∧ w.cell? ⟨(a.add (i * 6)).block, (a.add (i * 6)).off + 3, none⟩ = some (.int .i64 y) ∧
    w.cell? ⟨(a.add (i * 6)).block, (a.add (i * 6)).off + 4, none⟩ = some (.string s) ∧ w.cell? ⟨(a.add (i * 6)).block, (a.add (i * 6)).off + 5, none⟩ = some (.string t) ∧ s.size ≤ maxLen ∧ t.size ≤ maxLen

theorem below_cell {B : Nat} {w w' : World} (h : Below B w w') (hB : w.heap.size = B) {p : Addr} {v : Value} (hp : w.cell? p = some v) : w'.cell? p = some v :=
  (h.cell (by have := World.block_lt_of_cell? w p hp; omega)).trans hp

theorem ScriptAt.below {w w' : World} {sv : Option Addr} {n cap : Nat} (h : ScriptAt w sv n cap) (hb : Below w.heap.size w w') : ScriptAt w' sv n cap := by
  refine ⟨h.1, fun i hi => ?_⟩
  obtain ⟨a, kd, k, x, y, s, t, rfl, h0, h1, h2, h3, h4, h5, h6, h7⟩ := h.2 i hi
  exact ⟨a, kd, k, x, y, s, t, rfl, below_cell hb rfl h0, below_cell hb rfl h1, below_cell hb rfl h2, below_cell hb rfl h3, below_cell hb rfl h4, below_cell hb rfl h5, h6, h7⟩

theorem below_drewN {B : Nat} {w : World} (h : B ≤ w.heap.size) (n : Nat) : Below B w (w.drewN n) := ((Kept.of_drewN [] w n).below (Nat.le_refl _) (by simp)).mono h

end Go.Proofs.YtfiebibpgbadlaaGreat
