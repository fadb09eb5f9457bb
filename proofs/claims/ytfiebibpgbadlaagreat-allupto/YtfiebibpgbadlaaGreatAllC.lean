import Derived.Test.YtfiebibpgbadlaaGreatAllA
import Derived.Test.YtfiebibpgbadlaaGreatRefE
namespace Go.Proofs.YtfiebibpgbadlaaGreat
open Go.RowKit
set_option linter.unusedVariables false
set_option linter.unusedSimpArgs false

/-- what markRules and markLines do: ix is the place of the list of lists. -/
structure MarkPost (w w' : World) (wb : Nat) (blk : Value → Obj) (ty lt : TypeId) (rulV : Value) (vals : List Value) (sa : Option Addr) (n cap : Nat) (mk : List Value) (rulV' : Value) : Prop where
  blk : w'.heap[wb]? = some (blk rulV')
  own : w'.ownsRow 0 lt 1 rulV' (vals.length + 1) (vals ++ [.slice sa n cap])
  fresh : ∀ k, rulV'.ownBlock = some k → rulV.ownBlock = some k ∨ w.heap.size ≤ k
  kept : Kept (wb :: (rulV.ownBlock.toList ++ (if n = 0 then [] else (sa.map Addr.block).toList))) w w'
  row : ∀ g o cur, 0 < n → sa = some ⟨g, o, none⟩ → w.heap[g]? = some (.cells cur ty (0, 0)) → w'.heap[g]? = some (.cells (fill cur o mk n) ty (0, 0))

/-- while a list is written full. -/
structure MkI (w1 wr : World) (g o : Nat) (cur : Array Value) (mk : List Value) (ty : TypeId) (i : Nat) : Prop where
  row : wr.heap[g]? = some (.cells (fill cur o mk i) ty (0, 0))
  kept : Kept [g] w1 wr

theorem cell_some {w : World} {g j : Nat} {cs : Array Value} {ty : TypeId} (h : w.heap[g]? = some (.cells cs ty (0, 0))) (hj : j < cs.size) : ∃ u, w.cell? ⟨g, j, none⟩ = some u :=
  ⟨cs[j], cellAt h (Array.getElem?_eq_getElem hj)⟩

theorem MkI.cells2 {w1 wr : World} {g o i : Nat} {cur : Array Value} {a b : Value} {ty : TypeId} (h : MkI w1 wr g o cur [a, b] ty i) (hs : o + (i + 1) * 2 ≤ cur.size) :
    (∃ u, wr.cell? ⟨g, o + i * 2, none⟩ = some u) ∧ (∃ u, wr.cell? ⟨g, o + i * 2 + 1, none⟩ = some u) ∧ ∀ j, wr.frozen? ⟨g, j, none⟩ = false :=
  ⟨cell_some h.row (by rw [size_fill]; omega), cell_some h.row (by rw [size_fill]; omega), fun j => frozen_of_row wr _ j _ _ h.row⟩

theorem MkI.next2 {w1 wr : World} {g o i : Nat} {cur : Array Value} {a b : Value} {ty : TypeId} (h : MkI w1 wr g o cur [a, b] ty i) (hs : o + (i + 1) * 2 ≤ cur.size) :
    MkI w1 ((wr.setCell ⟨g, o + i * 2, none⟩ a).setCell ⟨g, o + i * 2 + 1, none⟩ b) g o cur [a, b] ty (i + 1) := by
  have h1 : (wr.setCell ⟨g, o + i * 2, none⟩ a).heap[g]? = some (.cells ((fill cur o [a, b] i).setIfInBounds (o + i * 2) a) ty (0, 0)) := heap_setCell_same _ _ _ _ _ _ h.row
  have h2 : ((wr.setCell ⟨g, o + i * 2, none⟩ a).setCell ⟨g, o + i * 2 + 1, none⟩ b).heap[g]? = some (.cells (((fill cur o [a, b] i).setIfInBounds (o + i * 2) a).setIfInBounds (o + i * 2 + 1) b) ty (0, 0)) := heap_setCell_same _ _ _ _ _ _ h1
  exact ⟨h2, (h.kept.setCell (Or.inl (by simp)) _).setCell (Or.inl (by simp)) _⟩

theorem Tryz.infoRs : (Tryz.prog.info? 68).map (fun i => (i.zero, i.size, i.bytes)) = some (some (.slice none 0 0), 1, 24) := by kernel_rfl
theorem one_slice (a : Option Addr) (n c : Nat) : ∀ u ∈ [Value.slice a n c], u.oneCell' = true := by intro u hu; simp at hu; subst hu; rfl
theorem newCell00 (w : World) (u : Value) (t : TypeId) : ∀ j x, [u][j]? = some x → (w.alloc (.cells #[u] t)).cell? ((⟨w.heap.size, 0, none⟩ : Addr).add j) = some x := by
  intro j x hj
  match j, hj with
  | 0, hj =>
    simp at hj; subst hj
    exact cell_of_row _ _ 0 _ _ _ (heap_alloc_new w (.cells #[u] t))

theorem own_kept {w w' : World} {base : Nat} {e : TypeId} {size : Nat} {v : Value} {n : Nat} {xs : List Value} {S : List Nat} (h : w.ownsRow base e size v n xs) (hK : Kept S w w') (hS : ∀ k, k ∈ S → v.ownBlock ≠ some k) : w'.ownsRow base e size v n xs := by
  refine ⟨h.1, ?_⟩
  rcases h.2 with h1 | ⟨g, cap, cur, rfl, hb, hg, r⟩
  · exact .inl h1
  · exact .inr ⟨g, cap, cur, rfl, hb, hK.at hg (fun hm => hS g hm rfl), r⟩
theorem own_type {w : World} {base : Nat} {e : TypeId} {size : Nat} {v : Value} {n : Nat} {xs : List Value} (h : w.ownsRow base e size v n xs) {k : Nat} (hk : v.ownBlock = some k) : ∃ cur, w.heap[k]? = some (.cells cur e (0, 0)) := by
  rcases h.2 with ⟨rfl, _⟩ | ⟨g, cap, cur, rfl, hb, hg, r⟩
  · simp [Value.ownBlock] at hk
  · simp [Value.ownBlock] at hk; subst hk; exact ⟨cur, hg⟩

theorem mark_own {w w1 wr : World} {lt ty : TypeId} {v : Value} {vals : List Value} {g : Nat} {cur : Array Value} (hown : w.ownsRow 0 lt 1 v vals.length vals) (hb : Below w.heap.size w w1) (hK : Kept [g] w1 wr) (hg : w.heap[g]? = some (.cells cur ty (0, 0))) (hne : lt ≠ ty) : wr.ownsRow 0 lt 1 v vals.length vals := by
  have h1 := own_kept (S := []) hown (Kept.of_below_size hb) (by simp)
  refine own_kept h1 hK ?_
  simp only [List.mem_singleton]
  rintro k rfl e
  obtain ⟨c, hc⟩ := own_type hown e
  rw [hg] at hc; simp at hc; exact hne hc.2.symm

theorem mark_fin {w w1 wr w3 : World} {wb g o n cap rcap g3 cap3 ix : Nat} {ra : Option Addr} (cs : Value → Array Value) {ty lt : TypeId} (wt : TypeId) {vals : List Value} {cur : Array Value} {mk mk' : List Value} {ob : Obj}
    (hblk : w.heap[wb]? = some (.cells (cs (.slice ra vals.length rcap)) wt (0, 0))) (hown0 : w.ownsRow 0 lt 1 (.slice ra vals.length rcap) vals.length vals) (hg : w.heap[g]? = some (.cells cur ty (0, 0))) (hb1 : Below w.heap.size w w1) (hI : MkI w1 wr g o cur mk ty n) (hmk : mk = mk')
    (hown : w3.ownsRow 0 lt 1 (.slice (some ⟨g3, 0, none⟩) (vals.length + 1) cap3) (vals.length + 1) (vals ++ [.slice (some ⟨g, o, none⟩) n cap])) (hgrow : (wr.alloc ob).grownBy w3 (Value.slice ra vals.length rcap).ownBlock)
    (hex : ∀ k, (Value.slice (some ⟨g3, 0, none⟩) (vals.length + 1) cap3).ownBlock = some k → (Value.slice ra vals.length rcap).ownBlock = some k ∨ wr.heap.size + 1 ≤ k)
    (hset : ∀ v v', (cs v).setIfInBounds ix v' = cs v') (h1 : wt ≠ ty) (h2 : wt ≠ lt) (h3 : lt ≠ ty) (hn0 : 0 < n) :
    w3.heap[wb]? = some (.cells (cs (.slice ra vals.length rcap)) wt (0, 0)) ∧
    MarkPost w (w3.setCell ⟨wb, ix, none⟩ (.slice (some ⟨g3, 0, none⟩) (vals.length + 1) cap3)) wb (fun v => .cells (cs v) wt (0, 0)) ty lt (.slice ra vals.length rcap) vals (some ⟨g, o, none⟩) n cap mk' (.slice (some ⟨g3, 0, none⟩) (vals.length + 1) cap3) := by
  subst hmk
  have hwg : wb ≠ g := by rintro rfl; rw [hg] at hblk; simp at hblk; exact h1 hblk.2.symm
  have hr : ∀ k, (Value.slice ra vals.length rcap).ownBlock = some k → k ≠ wb ∧ k ≠ g := by
    intro k hk
    obtain ⟨c, hc⟩ := own_type hown0 hk
    exact ⟨by rintro rfl; rw [hblk] at hc; simp at hc; exact h2 hc.2, by rintro rfl; rw [hg] at hc; simp at hc; exact h3 hc.2.symm⟩
  have hK0 : Kept [g] w wr := (Kept.of_below_size hb1).trans hI.kept
  have hK1 : Kept (Value.slice ra vals.length rcap).ownBlock.toList wr w3 := ((Kept.refl _ wr).alloc ob).trans (Kept.of_grown hgrow (fun k hk => by simp [hk]))
  have hb3 := hK1.at (hK0.at hblk (by simpa using hwg)) (by simp; intro h; exact (hr _ h).1 rfl)
  have hg3 := hK1.at hI.row (by simp; intro h; exact (hr _ h).2 rfl)
  have hs : Kept [wb] w3 (w3.setCell ⟨wb, ix, none⟩ (.slice (some ⟨g3, 0, none⟩) (vals.length + 1) cap3)) := (Kept.refl _ _).setCell (Or.inl (by simp)) _
  refine ⟨hb3, ?_, ?_, ?_, ?_, ?_⟩
  · rw [heap_setCell_same _ _ _ _ _ _ hb3, hset]
  · refine own_kept hown hs ?_
    simp only [List.mem_singleton]
    rintro k rfl e
    obtain ⟨c, hc⟩ := own_type hown e
    rw [hb3] at hc; simp at hc; exact h2 hc.2
  · intro k hk
    rcases hex k hk with h | h
    · exact .inl h
    · exact .inr (by have := hK0.size; omega)
  · refine ⟨?_, ?_, ?_, ?_, ?_⟩
    · exact hs.os.trans (hK1.os.trans hK0.os)
    · exact hs.tape.trans (hK1.tape.trans hK0.tape)
    · exact hs.output.trans (hK1.output.trans hK0.output)
    · exact Nat.le_trans hK0.size (Nat.le_trans hK1.size hs.size)
    · intro k hk hn
      rw [if_neg (by omega)] at hn
      simp at hn
      rw [hs.block k (by have := hK0.size; have := hK1.size; omega) (by simpa using hn.1), hK1.block k (by have := hK0.size; omega) (by simp; exact hn.2.1), hK0.block k hk (by simpa using hn.2.2)]
  · intro g' o' cur' h0 he hc
    simp at he
    obtain ⟨rfl, rfl⟩ := he
    rw [hg] at hc
    simp at hc
    subst hc
    exact hs.at hg3 (by simpa using Ne.symm hwg)

theorem mark_fin0 {w w1 w3 : World} {wb rcap g3 cap3 ix cap : Nat} {ra sa : Option Addr} (cs : Value → Array Value) {ty lt : TypeId} (wt : TypeId) {vals : List Value} {mk : List Value} {ob : Obj}
    (hblk : w.heap[wb]? = some (.cells (cs (.slice ra vals.length rcap)) wt (0, 0))) (hown0 : w.ownsRow 0 lt 1 (.slice ra vals.length rcap) vals.length vals) (hb1 : Below w.heap.size w w1)
    (hown : w3.ownsRow 0 lt 1 (.slice (some ⟨g3, 0, none⟩) (vals.length + 1) cap3) (vals.length + 1) (vals ++ [.slice sa 0 cap])) (hgrow : (w1.alloc ob).grownBy w3 (Value.slice ra vals.length rcap).ownBlock)
    (hex : ∀ k, (Value.slice (some ⟨g3, 0, none⟩) (vals.length + 1) cap3).ownBlock = some k → (Value.slice ra vals.length rcap).ownBlock = some k ∨ w1.heap.size + 1 ≤ k)
    (hset : ∀ v v', (cs v).setIfInBounds ix v' = cs v') (h2 : wt ≠ lt) :
    w3.heap[wb]? = some (.cells (cs (.slice ra vals.length rcap)) wt (0, 0)) ∧
    MarkPost w (w3.setCell ⟨wb, ix, none⟩ (.slice (some ⟨g3, 0, none⟩) (vals.length + 1) cap3)) wb (fun v => .cells (cs v) wt (0, 0)) ty lt (.slice ra vals.length rcap) vals sa 0 cap mk (.slice (some ⟨g3, 0, none⟩) (vals.length + 1) cap3) := by
  have hr : ∀ k, (Value.slice ra vals.length rcap).ownBlock = some k → k ≠ wb := by
    intro k hk
    obtain ⟨c, hc⟩ := own_type hown0 hk
    rintro rfl; rw [hblk] at hc; simp at hc; exact h2 hc.2
  have hK0 : Kept [] w w1 := Kept.of_below_size hb1
  have hK1 : Kept (Value.slice ra vals.length rcap).ownBlock.toList w1 w3 := ((Kept.refl _ w1).alloc ob).trans (Kept.of_grown hgrow (fun k hk => by simp [hk]))
  have hb3 := hK1.at (hK0.at hblk (by simp)) (by simp; intro h; exact (hr _ h) rfl)
  have hs : Kept [wb] w3 (w3.setCell ⟨wb, ix, none⟩ (.slice (some ⟨g3, 0, none⟩) (vals.length + 1) cap3)) := (Kept.refl _ _).setCell (Or.inl (by simp)) _
  refine ⟨hb3, ?_, ?_, ?_, ?_, ?_⟩
  · rw [heap_setCell_same _ _ _ _ _ _ hb3, hset]
  · refine own_kept hown hs ?_
    simp only [List.mem_singleton]
    rintro k rfl e
    obtain ⟨c, hc⟩ := own_type hown e
    rw [hb3] at hc; simp at hc; exact h2 hc.2
  · intro k hk
    rcases hex k hk with h | h
    · exact .inl h
    · exact .inr (by have := hK0.size; omega)
  · refine ⟨hs.os.trans (hK1.os.trans hK0.os), hs.tape.trans (hK1.tape.trans hK0.tape), hs.output.trans (hK1.output.trans hK0.output), Nat.le_trans hK0.size (Nat.le_trans hK1.size hs.size), ?_⟩
    intro k hk hn
    simp at hn
    rw [hs.block k (by have := hK0.size; have := hK1.size; omega) (by simpa using hn.1), hK1.block k (by have := hK0.size; omega) (by simp; exact hn.2), hK0.block k hk (by simp)]
  · intro g' o' cur' h0 he hc
    omega

set_option maxHeartbeats 1600000 in
theorem markRules_some (wb g o n cap : Nat) (bsV rulV linV : Value) (vals : List Value) (cur : Array Value) (w : World) (hblk : w.heap[wb]? = some (wblock bsV rulV linV)) (hown : w.ownsRow 0 68 1 rulV vals.length vals) (hvl : vals.length ≤ 10000000)
    (hg : w.heap[g]? = some (.cells cur 77 (0, 0))) (hsz : o + n * 2 ≤ cur.size) (hn : n ≤ 1000000) (h0 : 0 < n) :
    Calls Tryz.prog 46 #[.pointer (some ⟨wb, 0, none⟩), .slice (some ⟨g, o, none⟩) n cap] w fun e w' => e = .returned (.tuple #[]) ∧ ∃ rulV', MarkPost w w' wb (fun v => wblock bsV v linV) 77 68 rulV vals (some ⟨g, o, none⟩) n cap (ruleMark vals.length) rulV' := by
  obtain ⟨ra, rcap, rfl⟩ : ∃ ra rcap, rulV = .slice ra vals.length rcap := by
    rcases hown.2 with ⟨h1, h2⟩ | ⟨g, cap, cur, h1, _⟩
    · exact ⟨none, 0, by rw [h1, h2]⟩
    · exact ⟨_, _, h1⟩
  have c1 : w.cell? ⟨wb, 1, none⟩ = some (.slice ra vals.length rcap) := cellAt hblk rfl
  have HBLK := hide hblk
  have HOWN := hide hown
  have HG := hide hg
  clear hblk hown hg
  go_enter Tryz.func46, Tryz.ntmps46
  go_wp2_with fail
  refine (label_any vals.length _ (by omega)).mono ?_
  rintro e w1 ⟨rfl, hb1⟩
  have HB1 := hide hb1
  have d1 : w1.cell? ⟨wb, 1, none⟩ = some (.slice ra vals.length rcap) := (hb1.cell (p := ⟨wb, 1, none⟩) (World.block_lt_of_cell? w ⟨wb, 1, none⟩ c1)).trans c1
  clear hb1 c1
  obtain ⟨lb, hlb⟩ : ∃ lb, Hw.lab vals.length [35] = lb := ⟨_, rfl⟩
  have HLB := hide hlb
  rw [hlb]
  clear hlb
  go_wp2_with fail
  go_loopw [5] (fun iv wr => ∃ (i : Nat), i ≤ n ∧ iv = .int .i64 (i : Int) ∧ Hid (MkI w1 wr g o cur [.string ⟨lb.toArray⟩, .string ⟨#[]⟩] 77 i)) (fun iv _ => n - (intOf iv).toNat)
  case atStart => exact ⟨0, Nat.zero_le _, rfl, ⟨(HB1.out.block _ (lt_of_block HG.out)).trans HG.out, Kept.refl _ _⟩⟩
  case round =>
    obtain ⟨i, hi, rfl, hI⟩ := hrel
    by_cases hlt : i < n
    · have hltI : (i : Int) < (n : Int) := by omega
      obtain ⟨⟨u0, q0⟩, ⟨u1, q1⟩, qf⟩ := hI.out.cells2 (by omega)
      have HN := hide (hI.out.next2 (by omega))
      clear d1
      go_wp2
      go_roundw
      case rel => exact ⟨i + 1, by omega, by go_num, HN⟩
      case measure => simp [intOf]; omega
    · have hin : i = n := by omega
      subst hin
      have hwg : wb ≠ g := by rintro rfl; have := HBLK.out; rw [HG.out] at this; simp [wblock] at this
      have e1 : wr.cell? ⟨wb, 1, none⟩ = some (.slice ra vals.length rcap) := hI.out.kept.cell d1 (by simpa using hwg)
      obtain ⟨i0, hi0, hz0, hz1, hz2⟩ := info_parts Tryz.infoRs
      have HI0 := hide hi0
      have HZ0 := hide hz0
      have HZ1 := hide hz1
      have HZ2 := hide hz2
      have HOW := hide (mark_own HOWN.out HB1.out hI.out.kept HG.out (show 68 ≠ 77 by decide))
      clear d1 hi0 hz0 hz1 hz2
      go_wp2_with (at_builtin; refine wpList_append_exact _ rfl (.tmp 27) (.tmp 29) 27 rfl 0 68 i0 (.slice none 0 0) 1 24 Tryz.underlying27 HI0.out HZ0.out HZ1.out HZ2.out rfl (by decide) (.slice ra vals.length rcap) vals.length vals rfl ?c1 ⟨wr.heap.size, 0, none⟩ 1 1 [.slice (some ⟨g, o, none⟩) i cap] rfl rfl ?c2 (one_slice _ _ _) ?c3 ?c4 ?c5 ?_)
      case c1 => exact HOW.out.alloc _
      case c2 => exact newCell00 wr _ _
      case c3 => unfold maxLen; omega
      case c4 => omega
      case c5 => exact Nat.zero_le _
      intro v3 w3 hown hgrow hex
      obtain ⟨g3, cap3, rfl⟩ := own_shape hown
      have R := hide (mark_fin (ix := 1) (fun v => #[bsV, v, linV]) 30 HBLK.out HOWN.out HG.out HB1.out hI.out (show _ = ruleMark vals.length by rw [ruleMark, HLB.out]) hown hgrow hex (fun v v' => rfl) (by decide) (by decide) (by decide) h0)
      have z1 : w3.cell? ⟨wb, 1, none⟩ = some (.slice ra vals.length rcap) := cellAt R.out.1 rfl
      have zf : w3.frozen? ⟨wb, 1, none⟩ = false := frozen_of_row w3 _ 1 _ _ R.out.1
      clear hown hgrow hex
      go_wp2
      go_end0
      exact ⟨rfl, _, R.out.2⟩
set_option maxHeartbeats 1600000 in
theorem markRules_none (wb cap : Nat) (sa : Option Addr) (bsV rulV linV : Value) (vals : List Value) (w : World) (hblk : w.heap[wb]? = some (wblock bsV rulV linV)) (hown : w.ownsRow 0 68 1 rulV vals.length vals) (hvl : vals.length ≤ 10000000) :
    Calls Tryz.prog 46 #[.pointer (some ⟨wb, 0, none⟩), .slice sa 0 cap] w fun e w' => e = .returned (.tuple #[]) ∧ ∃ rulV', MarkPost w w' wb (fun v => wblock bsV v linV) 77 68 rulV vals sa 0 cap (ruleMark vals.length) rulV' := by
  obtain ⟨ra, rcap, rfl⟩ : ∃ ra rcap, rulV = .slice ra vals.length rcap := by
    rcases hown.2 with ⟨h1, h2⟩ | ⟨g, cap, cur, h1, _⟩
    · exact ⟨none, 0, by rw [h1, h2]⟩
    · exact ⟨_, _, h1⟩
  have c1 : w.cell? ⟨wb, 1, none⟩ = some (.slice ra vals.length rcap) := cellAt hblk rfl
  have HBLK := hide hblk
  have HOWN := hide hown
  clear hblk hown
  go_enter Tryz.func46, Tryz.ntmps46
  go_wp2_with fail
  refine (label_any vals.length _ (by omega)).mono ?_
  rintro e w1 ⟨rfl, hb1⟩
  have HB1 := hide hb1
  have d1 : w1.cell? ⟨wb, 1, none⟩ = some (.slice ra vals.length rcap) := (hb1.cell (p := ⟨wb, 1, none⟩) (World.block_lt_of_cell? w ⟨wb, 1, none⟩ c1)).trans c1
  clear hb1 c1
  obtain ⟨lb, hlb⟩ : ∃ lb, Hw.lab vals.length [35] = lb := ⟨_, rfl⟩
  have HLB := hide hlb
  rw [hlb]
  clear hlb
  go_wp2_with fail
  refine wp_loop_rounds 1 ?_
  rw [rounds_succ]
  obtain ⟨i0, hi0, hz0, hz1, hz2⟩ := info_parts Tryz.infoRs
  have HI0 := hide hi0
  have HZ0 := hide hz0
  have HZ1 := hide hz1
  have HZ2 := hide hz2
  have HOW := hide (own_kept (S := []) HOWN.out (Kept.of_below_size HB1.out) (by simp))
  clear hi0 hz0 hz1 hz2
  go_wp2_with (at_builtin; refine wpList_append_exact _ rfl (.tmp 27) (.tmp 29) 27 rfl 0 68 i0 (.slice none 0 0) 1 24 Tryz.underlying27 HI0.out HZ0.out HZ1.out HZ2.out rfl (by decide) (.slice ra vals.length rcap) vals.length vals rfl ?c1 ⟨w1.heap.size, 0, none⟩ 1 1 [.slice sa 0 cap] rfl rfl ?c2 (one_slice _ _ _) ?c3 ?c4 ?c5 ?_)
  case c1 => exact HOW.out.alloc _
  case c2 => exact newCell00 w1 _ _
  case c3 => unfold maxLen; omega
  case c4 => omega
  case c5 => exact Nat.zero_le _
  intro v3 w3 hown hgrow hex
  obtain ⟨g3, cap3, rfl⟩ := own_shape hown
  have R := hide (mark_fin0 (ix := 1) (ty := 77) (mk := ruleMark vals.length) (fun v => #[bsV, v, linV]) 30 HBLK.out HOWN.out HB1.out hown hgrow hex (fun v v' => rfl) (by decide))
  have z1 : w3.cell? ⟨wb, 1, none⟩ = some (.slice ra vals.length rcap) := cellAt R.out.1 rfl
  have zf : w3.frozen? ⟨wb, 1, none⟩ = false := frozen_of_row w3 _ 1 _ _ R.out.1
  clear hown hgrow hex
  go_wp2
  go_end0
  exact ⟨rfl, _, R.out.2⟩

end Go.Proofs.YtfiebibpgbadlaaGreat
namespace Go.Proofs.YtfiebibpgbadlaaGreat
open Go.RowKit
set_option linter.unusedVariables false
set_option linter.unusedSimpArgs false

theorem Tryz.infoLs : (Tryz.prog.info? 50).map (fun i => (i.zero, i.size, i.bytes)) = some (some (.slice none 0 0), 1, 24) := by kernel_rfl
theorem MkI.cells8 {w1 wr : World} {g o i : Nat} {cur : Array Value} {a0 a1 a2 a3 a4 a5 a6 a7 : Value} {ty : TypeId} (h : MkI w1 wr g o cur [a0, a1, a2, a3, a4, a5, a6, a7] ty i) (hs : o + (i + 1) * 8 ≤ cur.size) :
    (∃ u, wr.cell? ⟨g, o + i * 8, none⟩ = some u) ∧ (∃ u, wr.cell? ⟨g, o + i * 8 + 1, none⟩ = some u) ∧ (∃ u, wr.cell? ⟨g, o + i * 8 + 2, none⟩ = some u) ∧ (∃ u, wr.cell? ⟨g, o + i * 8 + 3, none⟩ = some u) ∧ (∃ u, wr.cell? ⟨g, o + i * 8 + 4, none⟩ = some u) ∧ (∃ u, wr.cell? ⟨g, o + i * 8 + 5, none⟩ = some u) ∧ (∃ u, wr.cell? ⟨g, o + i * 8 + 6, none⟩ = some u) ∧ (∃ u, wr.cell? ⟨g, o + i * 8 + 7, none⟩ = some u) ∧ ∀ j, wr.frozen? ⟨g, j, none⟩ = false :=
  ⟨cell_some h.row (by rw [size_fill]; omega), cell_some h.row (by rw [size_fill]; omega), cell_some h.row (by rw [size_fill]; omega), cell_some h.row (by rw [size_fill]; omega), cell_some h.row (by rw [size_fill]; omega), cell_some h.row (by rw [size_fill]; omega), cell_some h.row (by rw [size_fill]; omega), cell_some h.row (by rw [size_fill]; omega), fun j => frozen_of_row wr _ j _ _ h.row⟩

theorem MkI.next8 {w1 wr : World} {g o i : Nat} {cur : Array Value} {a0 a1 a2 a3 a4 a5 a6 a7 : Value} {ty : TypeId} (h : MkI w1 wr g o cur [a0, a1, a2, a3, a4, a5, a6, a7] ty i) :
    MkI w1 ((((((((wr.setCell ⟨g, o + i * 8, none⟩ a0).setCell ⟨g, o + i * 8 + 1, none⟩ a1).setCell ⟨g, o + i * 8 + 2, none⟩ a2).setCell ⟨g, o + i * 8 + 3, none⟩ a3).setCell ⟨g, o + i * 8 + 4, none⟩ a4).setCell ⟨g, o + i * 8 + 5, none⟩ a5).setCell ⟨g, o + i * 8 + 6, none⟩ a6).setCell ⟨g, o + i * 8 + 7, none⟩ a7) g o cur [a0, a1, a2, a3, a4, a5, a6, a7] ty (i + 1) := by
  have h0 := h.row
  have h1 : (wr.setCell ⟨g, o + i * 8, none⟩ a0).heap[g]? = some (.cells ((fill cur o [a0, a1, a2, a3, a4, a5, a6, a7] i).setIfInBounds (o + i * 8) a0) ty (0, 0)) := heap_setCell_same _ _ _ _ _ _ h0
  have h2 : ((wr.setCell ⟨g, o + i * 8, none⟩ a0).setCell ⟨g, o + i * 8 + 1, none⟩ a1).heap[g]? = some (.cells (((fill cur o [a0, a1, a2, a3, a4, a5, a6, a7] i).setIfInBounds (o + i * 8) a0).setIfInBounds (o + i * 8 + 1) a1) ty (0, 0)) := heap_setCell_same _ _ _ _ _ _ h1
  have h3 : (((wr.setCell ⟨g, o + i * 8, none⟩ a0).setCell ⟨g, o + i * 8 + 1, none⟩ a1).setCell ⟨g, o + i * 8 + 2, none⟩ a2).heap[g]? = some (.cells ((((fill cur o [a0, a1, a2, a3, a4, a5, a6, a7] i).setIfInBounds (o + i * 8) a0).setIfInBounds (o + i * 8 + 1) a1).setIfInBounds (o + i * 8 + 2) a2) ty (0, 0)) := heap_setCell_same _ _ _ _ _ _ h2
  have h4 : ((((wr.setCell ⟨g, o + i * 8, none⟩ a0).setCell ⟨g, o + i * 8 + 1, none⟩ a1).setCell ⟨g, o + i * 8 + 2, none⟩ a2).setCell ⟨g, o + i * 8 + 3, none⟩ a3).heap[g]? = some (.cells (((((fill cur o [a0, a1, a2, a3, a4, a5, a6, a7] i).setIfInBounds (o + i * 8) a0).setIfInBounds (o + i * 8 + 1) a1).setIfInBounds (o + i * 8 + 2) a2).setIfInBounds (o + i * 8 + 3) a3) ty (0, 0)) := heap_setCell_same _ _ _ _ _ _ h3
  have h5 : (((((wr.setCell ⟨g, o + i * 8, none⟩ a0).setCell ⟨g, o + i * 8 + 1, none⟩ a1).setCell ⟨g, o + i * 8 + 2, none⟩ a2).setCell ⟨g, o + i * 8 + 3, none⟩ a3).setCell ⟨g, o + i * 8 + 4, none⟩ a4).heap[g]? = some (.cells ((((((fill cur o [a0, a1, a2, a3, a4, a5, a6, a7] i).setIfInBounds (o + i * 8) a0).setIfInBounds (o + i * 8 + 1) a1).setIfInBounds (o + i * 8 + 2) a2).setIfInBounds (o + i * 8 + 3) a3).setIfInBounds (o + i * 8 + 4) a4) ty (0, 0)) := heap_setCell_same _ _ _ _ _ _ h4
  have h6 : ((((((wr.setCell ⟨g, o + i * 8, none⟩ a0).setCell ⟨g, o + i * 8 + 1, none⟩ a1).setCell ⟨g, o + i * 8 + 2, none⟩ a2).setCell ⟨g, o + i * 8 + 3, none⟩ a3).setCell ⟨g, o + i * 8 + 4, none⟩ a4).setCell ⟨g, o + i * 8 + 5, none⟩ a5).heap[g]? = some (.cells (((((((fill cur o [a0, a1, a2, a3, a4, a5, a6, a7] i).setIfInBounds (o + i * 8) a0).setIfInBounds (o + i * 8 + 1) a1).setIfInBounds (o + i * 8 + 2) a2).setIfInBounds (o + i * 8 + 3) a3).setIfInBounds (o + i * 8 + 4) a4).setIfInBounds (o + i * 8 + 5) a5) ty (0, 0)) := heap_setCell_same _ _ _ _ _ _ h5
  have h7 : (((((((wr.setCell ⟨g, o + i * 8, none⟩ a0).setCell ⟨g, o + i * 8 + 1, none⟩ a1).setCell ⟨g, o + i * 8 + 2, none⟩ a2).setCell ⟨g, o + i * 8 + 3, none⟩ a3).setCell ⟨g, o + i * 8 + 4, none⟩ a4).setCell ⟨g, o + i * 8 + 5, none⟩ a5).setCell ⟨g, o + i * 8 + 6, none⟩ a6).heap[g]? = some (.cells ((((((((fill cur o [a0, a1, a2, a3, a4, a5, a6, a7] i).setIfInBounds (o + i * 8) a0).setIfInBounds (o + i * 8 + 1) a1).setIfInBounds (o + i * 8 + 2) a2).setIfInBounds (o + i * 8 + 3) a3).setIfInBounds (o + i * 8 + 4) a4).setIfInBounds (o + i * 8 + 5) a5).setIfInBounds (o + i * 8 + 6) a6) ty (0, 0)) := heap_setCell_same _ _ _ _ _ _ h6
  have h8 : ((((((((wr.setCell ⟨g, o + i * 8, none⟩ a0).setCell ⟨g, o + i * 8 + 1, none⟩ a1).setCell ⟨g, o + i * 8 + 2, none⟩ a2).setCell ⟨g, o + i * 8 + 3, none⟩ a3).setCell ⟨g, o + i * 8 + 4, none⟩ a4).setCell ⟨g, o + i * 8 + 5, none⟩ a5).setCell ⟨g, o + i * 8 + 6, none⟩ a6).setCell ⟨g, o + i * 8 + 7, none⟩ a7).heap[g]? = some (.cells (((((((((fill cur o [a0, a1, a2, a3, a4, a5, a6, a7] i).setIfInBounds (o + i * 8) a0).setIfInBounds (o + i * 8 + 1) a1).setIfInBounds (o + i * 8 + 2) a2).setIfInBounds (o + i * 8 + 3) a3).setIfInBounds (o + i * 8 + 4) a4).setIfInBounds (o + i * 8 + 5) a5).setIfInBounds (o + i * 8 + 6) a6).setIfInBounds (o + i * 8 + 7) a7) ty (0, 0)) := heap_setCell_same _ _ _ _ _ _ h7
  exact ⟨h8, ((((((((h.kept.setCell (Or.inl (by simp)) _).setCell (Or.inl (by simp)) _).setCell (Or.inl (by simp)) _).setCell (Or.inl (by simp)) _).setCell (Or.inl (by simp)) _).setCell (Or.inl (by simp)) _).setCell (Or.inl (by simp)) _).setCell (Or.inl (by simp)) _)⟩

set_option maxHeartbeats 1600000 in
theorem markLines_some (wb g o n cap : Nat) (bsV rulV linV : Value) (vals : List Value) (cur : Array Value) (w : World) (hblk : w.heap[wb]? = some (wblock bsV rulV linV)) (hown : w.ownsRow 0 50 1 linV vals.length vals) (hvl : vals.length ≤ 10000000)
    (hg : w.heap[g]? = some (.cells cur 54 (0, 0))) (hsz : o + n * 8 ≤ cur.size) (hn : n ≤ 1000000) (h0 : 0 < n) :
    Calls Tryz.prog 49 #[.pointer (some ⟨wb, 0, none⟩), .slice (some ⟨g, o, none⟩) n cap] w fun e w' => e = .returned (.tuple #[]) ∧ ∃ linV', MarkPost w w' wb (fun v => wblock bsV rulV v) 54 50 linV vals (some ⟨g, o, none⟩) n cap (lineMark vals.length) linV' := by
  obtain ⟨ra, rcap, rfl⟩ : ∃ ra rcap, linV = .slice ra vals.length rcap := by
    rcases hown.2 with ⟨h1, h2⟩ | ⟨g, cap, cur, h1, _⟩
    · exact ⟨none, 0, by rw [h1, h2]⟩
    · exact ⟨_, _, h1⟩
  have c1 : w.cell? ⟨wb, 2, none⟩ = some (.slice ra vals.length rcap) := cellAt hblk rfl
  have HBLK := hide hblk
  have HOWN := hide hown
  have HG := hide hg
  have hwg : wb ≠ g := by rintro rfl; rw [hg] at hblk; simp [wblock] at hblk
  clear hblk hown hg
  go_enter Tryz.func49, Tryz.ntmps49
  go_wp2_with fail
  go_loopw [4] (fun iv wr => ∃ (i : Nat), i ≤ n ∧ iv = .int .i64 (i : Int) ∧ Hid (MkI w wr g o cur (lineMark vals.length) 54 i)) (fun iv _ => n - (intOf iv).toNat)
  case atStart => exact ⟨0, Nat.zero_le _, rfl, ⟨HG.out, Kept.refl _ _⟩⟩
  case round =>
    obtain ⟨i, hi, rfl, hI⟩ := hrel
    have e1 : wr.cell? ⟨wb, 2, none⟩ = some (.slice ra vals.length rcap) := hI.out.kept.cell c1 (by simpa using hwg)
    by_cases hlt : i < n
    · have hltI : (i : Int) < (n : Int) := by omega
      unfold lineMark at hI
      obtain ⟨⟨u0, q0⟩, ⟨u1, q1⟩, ⟨u2, q2⟩, ⟨u3, q3⟩, ⟨u4, q4⟩, ⟨u5, q5⟩, ⟨u6, q6⟩, ⟨u7, q7⟩, qf⟩ := hI.out.cells8 (by omega)
      have HN := hide hI.out.next8
      clear c1
      go_wp2
      go_roundw
      case rel => exact ⟨i + 1, by omega, by go_num, HN⟩
      case measure => simp [intOf]; omega
    · have hin : i = n := by omega
      subst hin
      clear c1
      obtain ⟨i0, hi0, hz0, hz1, hz2⟩ := info_parts Tryz.infoLs
      have HI0 := hide hi0
      have HZ0 := hide hz0
      have HZ1 := hide hz1
      have HZ2 := hide hz2
      have HOW := hide (mark_own HOWN.out (Below.refl _ _) hI.out.kept HG.out (show 50 ≠ 54 by decide))
      clear hi0 hz0 hz1 hz2
      go_wp2_with (at_builtin; refine wpList_append_exact _ rfl (.tmp 25) (.tmp 27) 28 rfl 0 50 i0 (.slice none 0 0) 1 24 Tryz.underlying28 HI0.out HZ0.out HZ1.out HZ2.out rfl (by decide) (.slice ra vals.length rcap) vals.length vals rfl ?c1 ⟨wr.heap.size, 0, none⟩ 1 1 [.slice (some ⟨g, o, none⟩) i cap] rfl rfl ?c2 (one_slice _ _ _) ?c3 ?c4 ?c5 ?_)
      case c1 => exact HOW.out.alloc _
      case c2 => exact newCell00 wr _ _
      case c3 => unfold maxLen; omega
      case c4 => omega
      case c5 => exact Nat.zero_le _
      intro v3 w3 hown hgrow hex
      obtain ⟨g3, cap3, rfl⟩ := own_shape hown
      have R := hide (mark_fin (ix := 2) (fun v => #[bsV, rulV, v]) 30 HBLK.out HOWN.out HG.out (Below.refl _ _) hI.out (show _ = lineMark vals.length from rfl) hown hgrow hex (fun v v' => rfl) (by decide) (by decide) (by decide) h0)
      have z1 : w3.cell? ⟨wb, 2, none⟩ = some (.slice ra vals.length rcap) := cellAt R.out.1 rfl
      have zf : w3.frozen? ⟨wb, 2, none⟩ = false := frozen_of_row w3 _ 2 _ _ R.out.1
      clear hown hgrow hex
      go_wp2
      go_end0
      exact ⟨rfl, _, R.out.2⟩

set_option maxHeartbeats 1600000 in
theorem markLines_none (wb cap : Nat) (sa : Option Addr) (bsV rulV linV : Value) (vals : List Value) (w : World) (hblk : w.heap[wb]? = some (wblock bsV rulV linV)) (hown : w.ownsRow 0 50 1 linV vals.length vals) (hvl : vals.length ≤ 10000000) :
    Calls Tryz.prog 49 #[.pointer (some ⟨wb, 0, none⟩), .slice sa 0 cap] w fun e w' => e = .returned (.tuple #[]) ∧ ∃ linV', MarkPost w w' wb (fun v => wblock bsV rulV v) 54 50 linV vals sa 0 cap (lineMark vals.length) linV' := by
  obtain ⟨ra, rcap, rfl⟩ : ∃ ra rcap, linV = .slice ra vals.length rcap := by
    rcases hown.2 with ⟨h1, h2⟩ | ⟨g, cap, cur, h1, _⟩
    · exact ⟨none, 0, by rw [h1, h2]⟩
    · exact ⟨_, _, h1⟩
  have c1 : w.cell? ⟨wb, 2, none⟩ = some (.slice ra vals.length rcap) := cellAt hblk rfl
  have HBLK := hide hblk
  have HOWN := hide hown
  clear hblk hown
  go_enter Tryz.func49, Tryz.ntmps49
  go_wp2_with fail
  refine wp_loop_rounds 1 ?_
  rw [rounds_succ]
  obtain ⟨i0, hi0, hz0, hz1, hz2⟩ := info_parts Tryz.infoLs
  have HI0 := hide hi0
  have HZ0 := hide hz0
  have HZ1 := hide hz1
  have HZ2 := hide hz2
  have HOW := hide (HOWN.out)
  clear hi0 hz0 hz1 hz2
  go_wp2_with (at_builtin; refine wpList_append_exact _ rfl (.tmp 25) (.tmp 27) 28 rfl 0 50 i0 (.slice none 0 0) 1 24 Tryz.underlying28 HI0.out HZ0.out HZ1.out HZ2.out rfl (by decide) (.slice ra vals.length rcap) vals.length vals rfl ?c1 ⟨w.heap.size, 0, none⟩ 1 1 [.slice sa 0 cap] rfl rfl ?c2 (one_slice _ _ _) ?c3 ?c4 ?c5 ?_)
  case c1 => exact HOW.out.alloc _
  case c2 => exact newCell00 w _ _
  case c3 => unfold maxLen; omega
  case c4 => omega
  case c5 => exact Nat.zero_le _
  intro v3 w3 hown hgrow hex
  obtain ⟨g3, cap3, rfl⟩ := own_shape hown
  have R := hide (mark_fin0 (ix := 2) (ty := 54) (mk := lineMark vals.length) (fun v => #[bsV, rulV, v]) 30 HBLK.out HOWN.out (Below.refl _ _) hown hgrow hex (fun v v' => rfl) (by decide))
  have z1 : w3.cell? ⟨wb, 2, none⟩ = some (.slice ra vals.length rcap) := cellAt R.out.1 rfl
  have zf : w3.frozen? ⟨wb, 2, none⟩ = false := frozen_of_row w3 _ 2 _ _ R.out.1
  clear hown hgrow hex
  go_wp2
  go_end0
  exact ⟨rfl, _, R.out.2⟩
end Go.Proofs.YtfiebibpgbadlaaGreat
