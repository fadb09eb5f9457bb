import Derived.Test.YtfiebibpgbadlaaGreatSh
import Derived.Deep.Cut
namespace Go.Proofs.YtfiebibpgbadlaaGreat
open Go.RowKit
set_option linter.unusedVariables false
set_option linter.unusedSimpArgs false
namespace Dr

/-- a line that says it of x and y is told, at most m lines later. -/
def ShP (w w' : World) (base d bm L M pm qb : Nat) (lv : Value) (said : List Hw.Rl) (ls : List Hw.Ln) (m : Nat) (x y : Hw.Wd) (e : Ending) : Prop :=
  ∃ (c : Nat) (lv' : Value) (ls' : List Hw.Ln), e = .returned (.int .i64 (c : Int)) ∧ ShS w w' base d bm L M pm qb lv lv' said ls ls' m ∧ Hw.Says ls' c x y

theorem self_any (w : World) (base d bm L M pm qb : Nat) (lv : Value) (said : List Hw.Rl) (ls : List Hw.Ln) (x : Hw.Wd) (hS : Sh w base d bm L M pm qb lv said ls) (hf : ls.length ≤ 60000) (hbase : base ≤ w.heap.size) (hx : Hw.isWord L M x = true) :
    Calls Tryz.prog 111 #[.pointer (some ⟨d, 0, none⟩), .string ⟨x.toArray⟩] w fun e w' => ∃ lv', e = .returned (.int .i64 (ls.length : Int)) ∧ ShS w w' base d bm L M pm qb lv lv' said ls (ls ++ [⟨0, x, x, 0, 0, 0, [], []⟩]) 1 := by
  go_enter Tryz.func111, Tryz.ntmps111
  go_wp2_with fail
  refine (add_any _ base d bm L M pm qb lv said ls ⟨0, x, x, 0, 0, 0, [], []⟩ hS hf hbase (.self x) hx hx).mono ?_
  rintro e w1 ⟨lv', rfl, hs, _⟩
  have HS := hide hs
  clear hs hS
  go_wp2
  go_ret
  exact ⟨_, rfl, HS.out⟩

set_option maxHeartbeats 1600000 in
theorem said_any (w : World) (base d bm L M pm qb : Nat) (lv : Value) (said : List Hw.Rl) (ls : List Hw.Ln) (k : Nat) (x y : Hw.Wd) (hk : said[k]? = some (x, y)) (hS : Sh w base d bm L M pm qb lv said ls) (hf : ls.length ≤ 60000) (hbase : base ≤ w.heap.size) (hx : Hw.isWord L M x = true) (hy : Hw.isWord L M y = true) :
    Calls Tryz.prog 58 #[.pointer (some ⟨d, 0, none⟩), .int .i64 (k : Int), .agg #[.string ⟨x.toArray⟩, .string ⟨y.toArray⟩]] w fun e w' => ShP w w' base d bm L M pm qb lv said ls 1 x y e := by
  have HS := hide hS
  clear hS
  go_enter Tryz.func58, Tryz.ntmps58
  go_wp2_with fail
  have HB := hide (below_alloc w (.cells #[.string ⟨x.toArray⟩, .string ⟨y.toArray⟩] 102))
  refine (add_any _ base d bm L M pm qb lv said ls ⟨1, x, y, (k : Int), 0, 0, [], []⟩ (HS.out.below HB.out) hf (by simp; omega) (.said k x y hk) hx hy).mono ?_
  rintro e w1 ⟨lv', rfl, hs, _⟩
  have H1 := hide ((ShS.of_below HS.out HB.out 0).trans hs)
  clear hs
  go_wp2
  go_ret
  exact ⟨_, _, _, rfl, H1.out, Hw.Says.last _ _⟩


theorem Sh.line {w : World} {base d bm L M pm qb : Nat} {lv : Value} {said : List Hw.Rl} {ls : List Hw.Ln} (h : Sh w base d bm L M pm qb lv said ls) {a : Nat} {x y : Hw.Wd} (ha : Hw.Says ls a x y) :
    ∃ g cap, lv = .slice (some ⟨g, 0, none⟩) ls.length cap ∧ g < w.heap.size ∧ ∀ i n, ls[i]? = some n → LineAt w g i n := by
  have hp : 0 < ls.length := by have := ha.lt; omega
  obtain ⟨g, cap, h1, h2, h3, h4⟩ := LinesAt.read h.own hp
  exact ⟨g, cap, h1, h2, h4⟩

theorem drawn_self_eq {said : List Hw.Rl} {ls : List Hw.Ln} {i : Nat} {n : Hw.Ln} (h : Hw.Drawn said ls i n) (h0 : n.how = 0) : n.left = n.right := by
  cases h with
  | self x => rfl
  | said => simp at h0
  | back => simp at h0
  | thn => simp at h0
  | within => simp at h0
theorem alloc2_cell {w : World} {g : Nat} (hg : g < w.heap.size) : ∀ o1 o2 j, ((w.alloc o1).alloc o2).cell? ⟨g, j, none⟩ = w.cell? ⟨g, j, none⟩ :=
  fun o1 o2 j => Below.cell (((Below.refl w.heap.size w).alloc (Nat.le_refl _) o1).alloc (by simp) o2) (p := ⟨g, j, none⟩) hg
theorem alloc1_cell {w : World} {g : Nat} (hg : g < w.heap.size) : ∀ o1 j, (w.alloc o1).cell? ⟨g, j, none⟩ = w.cell? ⟨g, j, none⟩ :=
  fun o1 j => Below.cell ((Below.refl w.heap.size w).alloc (Nat.le_refl _) o1) (p := ⟨g, j, none⟩) hg

/-- two lines, each in a box. -/
def Boxes (w wx : World) (B1 B2 : Nat) (n1 n2 : Hw.Ln) : Prop := Below w.heap.size w wx ∧ wx.heap[B1]? = some (lbox n1) ∧ wx.heap[B2]? = some (lbox n2)
theorem boxes_a (w : World) (n1 n2 : Hw.Ln) : Boxes w (((w.alloc (lbox n1)).alloc (lbox n2)).drew) w.heap.size (w.heap.size + 1) n1 n2 :=
  ⟨(((Below.refl w.heap.size w).alloc (Nat.le_refl _) _).alloc (by simp) _).drew, (Below.heap_alloc _ _ _ (by simp)).trans (heap_alloc_new _ _), heap_alloc2_new _ _ _⟩
theorem boxes_b (w : World) (n1 n2 : Hw.Ln) : Boxes w (((w.alloc (lbox n2)).alloc (lbox n1)).drew) (w.heap.size + 1) w.heap.size n1 n2 :=
  ⟨(((Below.refl w.heap.size w).alloc (Nat.le_refl _) _).alloc (by simp) _).drew, heap_alloc2_new _ _ _, (Below.heap_alloc _ _ _ (by simp)).trans (heap_alloc_new _ _)⟩

set_option maxRecDepth 20000 in
set_option maxHeartbeats 3200000 in
theorem then_any (w : World) (base d bm L M pm qb : Nat) (lv : Value) (said : List Hw.Rl) (ls : List Hw.Ln) (a b : Nat) (x y z : Hw.Wd) (ha : Hw.Says ls a x y) (hb : Hw.Says ls b y z) (hS : Sh w base d bm L M pm qb lv said ls) (hf : ls.length ≤ 60000) (hbase : base ≤ w.heap.size) :
    Calls Tryz.prog 87 #[.pointer (some ⟨d, 0, none⟩), .int .i64 (a : Int), .int .i64 (b : Int)] w fun e w' => ShP w w' base d bm L M pm qb lv said ls 1 x z e := by
  obtain ⟨g, cap, rfl, hgl, hline⟩ := hS.line ha
  have hal := ha.lt
  have hbl := hb.lt
  have HA := hide ha
  have HB := hide hb
  obtain ⟨n1, hn1, hx1, hy1⟩ := ha
  obtain ⟨n2, hn2, hx2, hy2⟩ := hb
  obtain ⟨a0, a1, a2, a3, a4, a5, a6, a7⟩ := hline a n1 hn1
  obtain ⟨b0, b1, b2, b3, b4, b5, b6, b7⟩ := hline b n2 hn2
  have c0 := cellAt hS.blk (j := 0) (v := .slice (some ⟨g, 0, none⟩) ls.length cap) rfl
  have hdl : d < w.heap.size := lt_of_block hS.blk
  have haI : (a : Int) < (ls.length : Int) := by omega
  have hbI : (b : Int) < (ls.length : Int) := by omega
  have q1 := alloc2_cell hgl
  have q2 := alloc1_cell hgl
  have q3 := alloc2_cell hdl
  have q4 := alloc1_cell hdl
  have HS := hide hS
  have HN1 := hide hn1
  have HN2 := hide hn2
  have HX := hide (And.intro hx1 (And.intro hy1 (And.intro hx2 hy2)))
  clear hS hline hn1 hn2 hx1 hy1 hx2 hy2
  go_enter Tryz.func87, Tryz.ntmps87
  go_wp2_with fail
  go_cut [7, 8] from 9 (fun t7 t8 wx => ∃ B1 B2 : Nat, t7 = .pointer (some ⟨B1, 0, none⟩) ∧ t8 = .pointer (some ⟨B2, 0, none⟩) ∧ Boxes w wx B1 B2 n1 n2)
  case first =>
    go_region
    all_goals
      go_wp2_with fail
      go_meet
      first
        | exact ⟨_, _, rfl, rfl, boxes_a w n1 n2⟩
        | exact ⟨_, _, rfl, rfl, boxes_b w n1 n2⟩
  case rest =>
    obtain ⟨B1, B2, rfl, rfl, hB⟩ := hcut
    have HBX := hide hB
    have k0 : wc.cell? ⟨B1, 0, none⟩ = some (.int .i64 n1.how) := cellAt hB.2.1 rfl
    have k1 : wc.cell? ⟨B1, 1, none⟩ = some (.string ⟨n1.left.toArray⟩) := cellAt hB.2.1 rfl
    have m0 : wc.cell? ⟨B2, 0, none⟩ = some (.int .i64 n2.how) := cellAt hB.2.2 rfl
    have m2 : wc.cell? ⟨B2, 2, none⟩ = some (.string ⟨n2.right.toArray⟩) := cellAt hB.2.2 rfl
    clear hB a0 a1 a2 a3 a4 a5 a6 a7 b0 b1 b2 b3 b4 b5 b6 b7 q1 q2 q3 q4 c0
    by_cases h1 : n1.how = 0
    · have h1' : (n1.how == 0) = true := by simp [h1]
      go_wp2
      go_ret
      have e1 := drawn_self_eq (HS.out.sheet.drawn a n1 HN1.out) h1
      refine ⟨b, _, ls, rfl, ShS.of_below HS.out HBX.out.1 1, ?_⟩
      obtain ⟨e2, e3, e4, e5⟩ := HX.out
      have e6 : x = y := by rw [← e2, ← e3]; exact e1
      rw [e6]; exact HB.out
    · have h1' : (n1.how == 0) = false := by simp [h1]
      by_cases h2 : n2.how = 0
      · have h2' : (n2.how == 0) = true := by simp [h2]
        go_wp2
        go_ret
        have e1 := drawn_self_eq (HS.out.sheet.drawn b n2 HN2.out) h2
        refine ⟨a, _, ls, rfl, ShS.of_below HS.out HBX.out.1 1, ?_⟩
        obtain ⟨e2, e3, e4, e5⟩ := HX.out
        have e6 : y = z := by rw [← e4, ← e5]; exact e1
        rw [← e6]; exact HA.out
      · have h2' : (n2.how == 0) = false := by simp [h2]
        go_wp2_with fail
        refine (add_any _ base d bm L M pm qb _ said ls ⟨3, n1.left, n2.right, 0, (a : Int), (b : Int), [], []⟩ (HS.out.below HBX.out.1) hf (by have := HBX.out.1.size; omega) (.thn a b n1 n2 hal hbl HN1.out HN2.out (by rw [HX.out.2.1, HX.out.2.2.1])) ?_ ?_).mono ?_
        · exact (HS.out.sheet.words n1 (List.mem_of_getElem? HN1.out)).1
        · exact (HS.out.sheet.words n2 (List.mem_of_getElem? HN2.out)).2
        rintro e w2 ⟨lv', rfl, hs, _⟩
        have H1 := hide ((ShS.of_below HS.out HBX.out.1 0).trans hs)
        clear hs
        go_wp2
        go_ret
        refine ⟨_, _, _, rfl, H1.out, ?_⟩
        have := Hw.Says.last ls ⟨3, n1.left, n2.right, 0, (a : Int), (b : Int), [], []⟩
        simp only [HX.out.1, HX.out.2.2.2] at this ⊢
        exact this
end Dr
end Go.Proofs.YtfiebibpgbadlaaGreat
namespace Go.Proofs.YtfiebibpgbadlaaGreat
open Go.RowKit
set_option linter.unusedVariables false
set_option linter.unusedSimpArgs false
namespace Dr

theorem drawn_back_eq {said : List Hw.Rl} {ls : List Hw.Ln} {i : Nat} {n : Hw.Ln} (h : Hw.Drawn said ls i n) (h0 : n.how = 2) : ∃ j : Nat, n.a = (j : Int) ∧ j < i ∧ Hw.Says ls j n.right n.left := by
  cases h with
  | self x => simp at h0
  | said => simp at h0
  | back j m hj hm => exact ⟨j, rfl, hj, m, hm, rfl, rfl⟩
  | thn => simp at h0
  | within => simp at h0

theorem int_key (a : Nat) (ha : a ≤ 100000) : keyOf Tryz.prog 3 (.int .i64 (a : Int)) = some (.int .i64 (a : Int)) :=
  Maps.keyOf_int_mk Tryz.underlying3 (WalkArith.wf_i64 (by omega))
theorem zero_int (w : World) : (zeroValue 3).run Tryz.prog w = .ok (.int .i64 0) w := by
  kernel_rfl

theorem back_fin {w w2 w3 : World} {base d bm L M pm qb a : Nat} {lv lv' : Value} {said : List Hw.Rl} {ls : List Hw.Ln} {n : Hw.Ln} {F : Lit → Option Value} {x y : Hw.Wd} (h : ShS w w2 base d bm L M pm qb lv lv' said ls (ls ++ [n]) 1)
    (hF : ∀ (a : Nat) v, F (.int .i64 a) = some v → ∃ (c : Nat) (x y : Hw.Wd), v = .int .i64 c ∧ Hw.Says (ls ++ [n]) a x y ∧ Hw.Says (ls ++ [n]) c y x) (hm : MapIs w3 3 bm (ls.length + 1) (setF F (.int .i64 (a : Int)) (.int .i64 (ls.length : Int)))) (hg : w2.grownBy w3 (some bm))
    (ha : Hw.Says ls a x y) (hl : n.left = y) (hr : n.right = x) : ShS w w3 base d bm L M pm qb lv lv' said ls (ls ++ [n]) 1 ∧ Hw.Says (ls ++ [n]) ls.length y x := by
  have hsl : Hw.Says (ls ++ [n]) ls.length y x := by have := Hw.Says.last ls n; rwa [hl, hr] at this
  obtain ⟨n1, n2, n3⟩ := h.sh.ne
  have hK : Kept [bm] w2 w3 := Kept.of_grown hg (by simp)
  refine ⟨⟨⟨hK.at h.sh.blk (by simpa using n3), LinesAt.kept h.sh.own hK (by simpa using n2), ⟨_, by simpa using hm, ?_⟩, h.sh.sheet⟩, h.kept.trans (hK.mono (by simp)), h.fresh, h.ext⟩, hsl⟩
  intro a' v hv
  unfold setF at hv
  split at hv
  · rename_i e
    simp at e
    have : a' = a := by omega
    subst this
    cases hv
    exact ⟨ls.length, x, y, rfl, (Hw.Ext.one _ _).says ha, hsl⟩
  · exact hF a' v hv

set_option maxRecDepth 20000 in
set_option maxHeartbeats 3200000 in
theorem back_any (w : World) (base d bm L M pm qb : Nat) (lv : Value) (said : List Hw.Rl) (ls : List Hw.Ln) (a : Nat) (x y : Hw.Wd) (ha : Hw.Says ls a x y) (hS : Sh w base d bm L M pm qb lv said ls) (hf : ls.length ≤ 60000) (hbase : base ≤ w.heap.size) :
    Calls Tryz.prog 86 #[.pointer (some ⟨d, 0, none⟩), .int .i64 (a : Int)] w fun e w' => ShP w w' base d bm L M pm qb lv said ls 1 y x e := by
  obtain ⟨g, cap, rfl, hgl, hline⟩ := hS.line ha
  have hal := ha.lt
  have HA := hide ha
  obtain ⟨n1, hn1, hx1, hy1⟩ := ha
  obtain ⟨a0, a1, a2, a3, a4, a5, a6, a7⟩ := hline a n1 hn1
  have c0 := cellAt hS.blk (j := 0) (v := .slice (some ⟨g, 0, none⟩) ls.length cap) rfl
  have hdl : d < w.heap.size := lt_of_block hS.blk
  have haI : (a : Int) < (ls.length : Int) := by omega
  have HS := hide hS
  have HN1 := hide hn1
  have HX := hide (And.intro hx1 hy1)
  clear hS hline hn1 hx1 hy1
  have c1 := cellAt HS.out.blk (j := 1) (v := .map (some bm)) rfl
  have q2 := alloc1_cell hgl
  have q4 := alloc1_cell hdl
  have HBX := hide (below_alloc w (lbox n1))
  have HDR := hide (HS.out.sheet.drawn a n1 HN1.out)
  by_cases h0 : n1.how = 0
  · have h0' : (n1.how == 0) = true := by simp [h0]
    go_enter Tryz.func86, Tryz.ntmps86
    go_wp2
    go_ret
    have e1 := drawn_self_eq HDR.out h0
    refine ⟨a, _, ls, rfl, ShS.of_below HS.out (below_alloc _ _) 1, ?_⟩
    have e6 : x = y := by rw [← HX.out.1, ← HX.out.2]; exact e1
    have := HA.out
    rw [e6] at this ⊢; exact this
  · have h0' : (n1.how == 0) = false := by simp [h0]
    by_cases h2 : n1.how = 2
    · have h2' : (n1.how == 2) = true := by simp [h2]
      obtain ⟨j, hj, hja, hsj⟩ := drawn_back_eq HDR.out h2
      have HSJ := hide hsj
      rw [hj] at a4
      go_enter Tryz.func86, Tryz.ntmps86
      go_wp2
      go_ret
      refine ⟨j, _, ls, rfl, ShS.of_below HS.out (below_alloc _ _) 1, ?_⟩
      have := HSJ.out
      rw [HX.out.1, HX.out.2] at this; exact this
    · have h2' : (n1.how == 2) = false := by simp [h2]
      obtain ⟨F, hF, hFb⟩ := (HS.out.below HBX.out).bk
      cases hFa : F (.int .i64 (a : Int)) with
      | some v =>
        obtain ⟨c, x', y', rfl, hs1, hs2⟩ := hFb a v hFa
        have hrun := hF.look_some (t := 112) (Maps.int_keyed Tryz.underlying3) Tryz.underlying112 (zero_int _) (int_key a (by omega)) hFa
        unfold lbox at hrun
        have HS2 := hide hs2
        have hxy := hs1.uniq HA.out
        obtain ⟨rfl, rfl⟩ := hxy
        clear hF hFb hFa hs1 hs2
        go_enter Tryz.func86, Tryz.ntmps86
        go_wp2
        go_ret
        exact ⟨c, _, ls, rfl, ShS.of_below HS.out (below_alloc _ _) 1, HS2.out⟩
      | none =>
        have hrun := hF.look_none (t := 112) (Maps.int_keyed Tryz.underlying3) Tryz.underlying112 (zero_int _) (int_key a (by omega)) hFa
        unfold lbox at hrun
        have HF := hide hF
        have HFB := hide hFb
        clear hF hFb hFa
        go_enter Tryz.func86, Tryz.ntmps86
        go_wp2_with fail
        refine (add_any _ base d bm L M pm qb _ said ls ⟨2, n1.right, n1.left, 0, (a : Int), 0, [], []⟩ (by exact HS.out.below HBX.out) hf (by simp; omega) (.back a n1 hal HN1.out) ?_ ?_).mono ?_
        · exact (HS.out.sheet.words n1 (List.mem_of_getElem? HN1.out)).2
        · exact (HS.out.sheet.words n1 (List.mem_of_getElem? HN1.out)).1
        rintro e w2 ⟨lv', rfl, hs, F2, hF2, hFp2⟩
        have H1 := hide ((ShS.of_below HS.out HBX.out 0).trans hs)
        have HF2 := hide hF2
        have HFP := hide hFp2
        clear hF2 hFp2
        have c2 := cellAt H1.out.sh.blk (j := 1) (v := .map (some bm)) rfl
        clear hs hrun a0 a1 a2 a3 a4 a5 a6 a7 q2 q4 c0 c1
        go_wp2_with (at_mapUpdate; refine wpList_mapUpdate_is _ rfl (.tmp 46) (.tmp 47) (.tmp 48) 112 rfl 3 3 (Maps.int_keyed Tryz.underlying3) Tryz.underlying112 bm ls.length F2 rfl HF2.out (by unfold maxLen; omega) (.int .i64 (a : Int)) (.int .i64 (ls.length : Int)) (.int .i64 (a : Int)) rfl rfl (int_key a (by omega)) ?_; intro w3 hm3 hg3)
        have H3 := hide (back_fin (x := x) (y := y) H1.out HFP.out hm3 hg3 HA.out (by simp [HX.out.1, HX.out.2]) (by simp [HX.out.1, HX.out.2]))
        clear hm3 hg3
        go_wp2
        go_ret
        exact ⟨_, _, _, rfl, H3.out.1, H3.out.2⟩
end Dr
end Go.Proofs.YtfiebibpgbadlaaGreat
namespace Go.Proofs.YtfiebibpgbadlaaGreat
open Go.RowKit
set_option linter.unusedVariables false
set_option linter.unusedSimpArgs false
namespace Dr

theorem drawn_within_eq {said : List Hw.Rl} {ls : List Hw.Ln} {i : Nat} {n : Hw.Ln} (h : Hw.Drawn said ls i n) (h0 : n.how = 4) : ∃ (j : Nat) (p q : Hw.Wd), n.a = (j : Int) ∧ j < i ∧ Hw.Says ls j p q ∧ n.left = n.ahead ++ p ++ n.behind ∧ n.right = n.ahead ++ q ++ n.behind := by
  cases h with
  | self x => simp at h0
  | said => simp at h0
  | back j m hj hm => simp at h0
  | thn => simp at h0
  | within j m u v hj hm => exact ⟨j, m.left, m.right, rfl, hj, ⟨m, hm, rfl, rfl⟩, rfl, rfl⟩
theorem add2 (u x : Hw.Wd) : (⟨u.toArray⟩ : ByteArray) ++ (⟨x.toArray⟩ : ByteArray) = ⟨(u ++ x).toArray⟩ := by rw [ByteArray.mk_append_mk]

set_option maxRecDepth 20000 in
set_option maxHeartbeats 3200000 in
theorem within_any (base d bm L M pm qb : Nat) (hM6 : M ≤ 6) (said : List Hw.Rl) : ∀ (a : Nat) (w : World) (lv : Value) (ls : List Hw.Ln) (x y u v : Hw.Wd) (ha : Hw.Says ls a x y) (hS : Sh w base d bm L M pm qb lv said ls) (hf : ls.length ≤ 60000) (hbase : base ≤ w.heap.size)
    (hx : Hw.isWord L M (u ++ x ++ v) = true) (hy : Hw.isWord L M (u ++ y ++ v) = true),
    Calls Tryz.prog 114 #[.pointer (some ⟨d, 0, none⟩), .int .i64 (a : Int), .string ⟨u.toArray⟩, .string ⟨v.toArray⟩] w fun e w' => ShP w w' base d bm L M pm qb lv said ls 1 (u ++ x ++ v) (u ++ y ++ v) e := by
  intro a
  induction a using Nat.strongRecOn with
  | ind a ih =>
  intro w lv ls x y u v ha hS hf hbase hx hy
  obtain ⟨g, cap, rfl, hgl, hline⟩ := hS.line ha
  have hal := ha.lt
  have HA := hide ha
  obtain ⟨n1, hn1, hx1, hy1⟩ := ha
  obtain ⟨a0, a1, a2, a3, a4, a5, a6, a7⟩ := hline a n1 hn1
  have c0 := cellAt hS.blk (j := 0) (v := .slice (some ⟨g, 0, none⟩) ls.length cap) rfl
  have hdl : d < w.heap.size := lt_of_block hS.blk
  have haI : (a : Int) < (ls.length : Int) := by omega
  have HS := hide hS
  have HN1 := hide hn1
  have HXX := hide (And.intro hx1 hy1)
  have HX := hide hx
  have HY := hide hy
  have HIH := hide ih
  have hxl := Hw.isWord_len hx
  have hyl := Hw.isWord_len hy
  simp at hxl hyl
  clear hS hline hn1 hx hy ih
  have q2 := alloc1_cell hgl
  have q4 := alloc1_cell hdl
  have HBX := hide (below_alloc w (lbox n1))
  have HDR := hide (HS.out.sheet.drawn a n1 HN1.out)
  by_cases h0 : n1.how = 4
  · have h0' : (n1.how == 4) = true := by simp [h0]
    obtain ⟨j, p, q, hj, hja, hsj, hl, hr⟩ := drawn_within_eq HDR.out h0
    rw [hj] at a4
    have e1 : u ++ n1.ahead ++ p ++ (n1.behind ++ v) = u ++ x ++ v := by rw [← hx1, hl]; simp
    have e2 : u ++ n1.ahead ++ q ++ (n1.behind ++ v) = u ++ y ++ v := by rw [← hy1, hr]; simp
    have ha1 : u.length + n1.ahead.length ≤ 6 := by have := congrArg List.length e1; simp at this; omega
    have ha2 : n1.behind.length + v.length ≤ 6 := by have := congrArg List.length e1; simp at this; omega
    have p1 := add2 u n1.ahead
    have p2 := add2 n1.behind v
    have HE1 := hide e1
    have HE2 := hide e2
    have HSJ := hide hsj
    clear e1 e2 hsj hl hr hx1 hy1
    go_enter Tryz.func114, Tryz.ntmps114
    go_wp2_with fail
    refine (HIH.out j hja _ _ ls p q (u ++ n1.ahead) (n1.behind ++ v) HSJ.out (by exact HS.out.below (below_alloc _ _)) hf (by simp; omega) (by rw [HE1.out]; exact HX.out) (by rw [HE2.out]; exact HY.out)).mono ?_
    rintro e w2 ⟨c, lv', ls', rfl, hs, hsay⟩
    rw [HE1.out, HE2.out] at hsay
    have H1 := hide ((ShS.of_below HS.out (below_alloc _ _) 0).trans hs)
    have H2 := hide hsay
    clear hs hsay
    go_wp2
    go_ret
    exact ⟨c, lv', ls', rfl, H1.out, H2.out⟩
  · have h0' : (n1.how == 4) = false := by simp [h0]
    have l1 : n1.left.length = x.length := by rw [hx1]
    have l2 : n1.right.length = y.length := by rw [hy1]
    have eX : u ++ n1.left ++ v = u ++ x ++ v := by rw [hx1]
    have eY : u ++ n1.right ++ v = u ++ y ++ v := by rw [hy1]
    have p1 : (⟨u.toArray⟩ : ByteArray) ++ (⟨n1.left.toArray⟩ : ByteArray) ++ (⟨v.toArray⟩ : ByteArray) = ⟨(u ++ x ++ v).toArray⟩ := by rw [hx1]; exact add3 u x v
    have p2 : (⟨u.toArray⟩ : ByteArray) ++ (⟨n1.right.toArray⟩ : ByteArray) ++ (⟨v.toArray⟩ : ByteArray) = ⟨(u ++ y ++ v).toArray⟩ := by rw [hy1]; exact add3 u y v
    have hDr := Hw.Drawn.within (said := said) (ls := ls) (i := ls.length) a n1 u v hal HN1.out
    rw [eX, eY] at hDr
    clear hx1 hy1 eX eY
    generalize u ++ x ++ v = X at *
    generalize u ++ y ++ v = Y at *
    have HDR2 := hide hDr
    clear hDr
    go_enter Tryz.func114, Tryz.ntmps114
    go_wp2_with fail
    refine (add_any _ base d bm L M pm qb _ said ls ⟨4, X, Y, 0, (a : Int), 0, u, v⟩ (by exact HS.out.below (below_alloc _ _)) hf (by simp; omega) HDR2.out HX.out HY.out).mono ?_
    rintro e w2 ⟨lv', rfl, hs, _⟩
    have H1 := hide ((ShS.of_below HS.out (below_alloc _ _) 0).trans hs)
    clear hs
    go_wp2
    go_ret
    exact ⟨_, _, _, rfl, H1.out, Hw.Says.last _ _⟩
end Dr
end Go.Proofs.YtfiebibpgbadlaaGreat
namespace Go.Proofs.YtfiebibpgbadlaaGreat
open Go.RowKit
set_option linter.unusedVariables false
set_option linter.unusedSimpArgs false
namespace Dr

theorem drawn_thn_eq {said : List Hw.Rl} {ls : List Hw.Ln} {i : Nat} {n : Hw.Ln} (h : Hw.Drawn said ls i n) (h0 : n.how = 3) : ∃ (j : Nat) (t : Hw.Wd), n.a = (j : Int) ∧ j < i ∧ Hw.Says ls j n.left t ∧ ∃ k : Nat, n.b = (k : Int) ∧ Hw.Says ls k t n.right := by
  cases h with
  | self x => simp at h0
  | said => simp at h0
  | back j m hj hm => simp at h0
  | thn j k m o hj hk hm ho e => exact ⟨j, m.right, rfl, hj, ⟨m, hm, rfl, rfl⟩, k, rfl, ⟨o, ho, e.symm, rfl⟩⟩
  | within j m u v hj hm => simp at h0

set_option maxRecDepth 20000 in
set_option maxHeartbeats 3200000 in
theorem meet_any (base d bm L M pm qb : Nat) (said : List Hw.Rl) : ∀ (a : Nat) (b : Nat) (w : World) (lv : Value) (ls : List Hw.Ln) (x y z : Hw.Wd) (ha : Hw.Says ls a x y) (hb : Hw.Says ls b z y) (hS : Sh w base d bm L M pm qb lv said ls) (hf : ls.length ≤ 50000) (hbase : base ≤ w.heap.size),
    Calls Tryz.prog 88 #[.pointer (some ⟨d, 0, none⟩), .int .i64 (a : Int), .int .i64 (b : Int)] w fun e w' => ShP w w' base d bm L M pm qb lv said ls 2 x z e := by
  intro a
  induction a using Nat.strongRecOn with
  | ind a ih =>
  intro b w lv ls x y z ha hb hS hf0 hbase
  have hf : ls.length ≤ 60000 := by omega
  obtain ⟨g, cap, rfl, hgl, hline⟩ := hS.line ha
  have hal := ha.lt
  have hbl := hb.lt
  have HA := hide ha
  have HB := hide hb
  obtain ⟨n1, hn1, hx1, hy1⟩ := ha
  obtain ⟨n2, hn2, hx2, hy2⟩ := hb
  obtain ⟨a0, a1, a2, a3, a4, a5, a6, a7⟩ := hline a n1 hn1
  obtain ⟨b0, b1, b2, b3, b4, b5, b6, b7⟩ := hline b n2 hn2
  have c0 := cellAt hS.blk (j := 0) (v := .slice (some ⟨g, 0, none⟩) ls.length cap) rfl
  have hdl : d < w.heap.size := lt_of_block hS.blk
  have haI : (a : Int) < (ls.length : Int) := by omega
  have hbI : (b : Int) < (ls.length : Int) := by omega
  have q1 := alloc2_cell hgl
  have q2 := alloc1_cell hgl
  have q3 := alloc2_cell hdl
  have q4 := alloc1_cell hdl
  have HT1 := hide (drawn_thn_eq (hS.sheet.drawn a n1 hn1))
  have HT2 := hide (drawn_thn_eq (hS.sheet.drawn b n2 hn2))
  have HS := hide hS
  have HN1 := hide hn1
  have HN2 := hide hn2
  have HX := hide (And.intro hx1 (And.intro hy1 (And.intro hx2 hy2)))
  have HIH := hide ih
  clear hS hline hn1 hn2 hx1 hy1 hx2 hy2 ih
  go_enter Tryz.func88, Tryz.ntmps88
  go_wp2_with fail
  go_cut [7, 8] from 9 (fun t7 t8 wx => ∃ B1 B2 : Nat, t7 = .pointer (some ⟨B1, 0, none⟩) ∧ t8 = .pointer (some ⟨B2, 0, none⟩) ∧ Boxes w wx B1 B2 n1 n2)
  case first =>
    go_region
    all_goals
      go_wp2_with fail
      go_meet
      first
        | exact ⟨_, _, rfl, rfl, boxes_a w n1 n2⟩
        | exact ⟨_, _, rfl, rfl, boxes_b w n1 n2⟩
  case rest =>
    obtain ⟨B1, B2, rfl, rfl, hB⟩ := hcut
    have HBX := hide hB
    have k0 : wc.cell? ⟨B1, 0, none⟩ = some (.int .i64 n1.how) := cellAt hB.2.1 rfl
    have k1 : wc.cell? ⟨B1, 1, none⟩ = some (.string ⟨n1.left.toArray⟩) := cellAt hB.2.1 rfl
    have k4 : wc.cell? ⟨B1, 4, none⟩ = some (.int .i64 n1.a) := cellAt hB.2.1 rfl
    have k5 : wc.cell? ⟨B1, 5, none⟩ = some (.int .i64 n1.b) := cellAt hB.2.1 rfl
    have m0 : wc.cell? ⟨B2, 0, none⟩ = some (.int .i64 n2.how) := cellAt hB.2.2 rfl
    have m1 : wc.cell? ⟨B2, 1, none⟩ = some (.string ⟨n2.left.toArray⟩) := cellAt hB.2.2 rfl
    have m4 : wc.cell? ⟨B2, 4, none⟩ = some (.int .i64 n2.a) := cellAt hB.2.2 rfl
    have m5 : wc.cell? ⟨B2, 5, none⟩ = some (.int .i64 n2.b) := cellAt hB.2.2 rfl
    clear hB a0 a1 a2 a3 a4 a5 a6 a7 b0 b1 b2 b3 b4 b5 b6 b7 q1 q2 q3 q4 c0
    by_cases hab : a = b
    · subst hab
      obtain ⟨rfl, _⟩ := HA.out.uniq HB.out
      have HXL := hide HX.out.1
      have hw : Hw.isWord L M n1.left = true := (HS.out.sheet.words n1 (List.mem_of_getElem? HN1.out)).1
      go_wp2_with fail
      refine (self_any _ base d bm L M pm qb _ said ls n1.left (by exact HS.out.below HBX.out.1) hf (by have := HBX.out.1.size; omega) hw).mono ?_
      rintro e w2 ⟨lv2, rfl, hs2⟩
      have H2 := hide ((ShS.of_below HS.out HBX.out.1 1).trans hs2)
      clear hs2
      go_wp2
      go_ret
      refine ⟨_, _, _, rfl, H2.out, ?_⟩
      have := Hw.Says.last ls ⟨0, n1.left, n1.left, 0, 0, 0, [], []⟩
      simp only [HXL.out] at this ⊢
      exact this
    · have hab' : ((a : Int) == (b : Int)) = false := by simp; omega
      have hT1 : n1.how = 3 → ∃ (j : Nat) (t : Hw.Wd), n1.a = (j : Int) ∧ j < a ∧ Hw.Says ls j x t ∧ ∃ k : Nat, n1.b = (k : Int) ∧ Hw.Says ls k t y := by
        have := HT1.out; rw [HX.out.1, HX.out.2.1] at this; exact this
      have hT2 : n2.how = 3 → ∃ (j : Nat) (t : Hw.Wd), n2.a = (j : Int) ∧ j < b ∧ Hw.Says ls j z t ∧ ∃ k : Nat, n2.b = (k : Int) ∧ Hw.Says ls k t y := by
        have := HT2.out; rw [HX.out.2.2.1, HX.out.2.2.2] at this; exact this
      clear HT1 HT2
      by_cases h1 : n1.how = 3
      · have h1' : (n1.how == 3) = true := by simp [h1]
        by_cases h2 : n1.b = (b : Int)
        · obtain ⟨j, t, hj, hja, hsj, k, hk, hsk⟩ := hT1 h1
          have hkb : k = b := by rw [hk] at h2; omega
          subst hkb
          obtain ⟨rfl, _⟩ := hsk.uniq HB.out
          have h2' : (n1.b == (k : Int)) = true := by simp [h2]
          rw [hj] at k4
          have HSJ := hide hsj
          clear hsj hsk hT1 hT2 h2
          rw [hk] at k5
          go_wp2
          go_ret
          exact ⟨j, _, ls, rfl, ShS.of_below HS.out HBX.out.1 2, HSJ.out⟩
        · have h2' : (n1.b == (b : Int)) = false := by simp [h2]
          by_cases h4 : n2.how = 3
          · have h4' : (n2.how == 3) = true := by simp [h4]
            by_cases h5 : n2.b = (a : Int)
            · clear hT1
              obtain ⟨j, t, hj, hja, hsj, hst⟩ := hT2 h4
              obtain ⟨k, hk, hsk⟩ := hst
              have hka : k = a := by rw [hk] at h5; omega
              subst hka
              obtain ⟨rfl, _⟩ := hsk.uniq HA.out
              have h5' : ((n2.b == (k : Int)) = true) := by simp [h5]
              rw [hj] at m4
              have HSJ := hide hsj
              clear hsj hsk hT2
              go_wp2_with fail
              refine (back_any _ base d bm L M pm qb _ said ls j _ _ HSJ.out (by exact HS.out.below HBX.out.1) (by omega) (by have := HBX.out.1.size; omega)).mono ?_
              rintro e w2 ⟨c, lv2, ls2, rfl, hs2, hy2⟩
              have H2 := hide ((ShS.of_below HS.out HBX.out.1 1).trans hs2)
              have HY2 := hide hy2
              clear hs2 hy2
              go_wp2
              go_ret
              exact ⟨c, lv2, ls2, rfl, H2.out, HY2.out⟩
            · have h5' : (n2.b == (a : Int)) = false := by simp [h5]
              by_cases h6 : n1.b = n2.b
              · have h6' : (n1.b == n2.b) = true := by simp [h6]
                obtain ⟨j1, t1, hj1, hja1, hsj1, i1, hi1, hsi1⟩ := hT1 h1
                obtain ⟨j2, t2, hj2, hja2, hsj2, i2, hi2, hsi2⟩ := hT2 h4
                have hii : i1 = i2 := by rw [hi1, hi2] at h6; omega
                subst hii
                obtain ⟨rfl, _⟩ := hsi1.uniq hsi2
                rw [hj1] at k4
                rw [hj2] at m4
                have HSJ1 := hide hsj1
                have HSJ2 := hide hsj2
                clear hsj1 hsj2 hsi1 hsi2 hT1 hT2
                go_wp2_with fail
                refine (HIH.out j1 hja1 j2 _ _ ls x t1 z HSJ1.out HSJ2.out (by exact HS.out.below HBX.out.1) hf0 (by have := HBX.out.1.size; omega)).mono ?_
                rintro e w2 ⟨c, lv2, ls2, rfl, hs2, hy2⟩
                have H2 := hide ((ShS.of_below HS.out HBX.out.1 0).trans hs2)
                have HY2 := hide hy2
                clear hs2 hy2
                go_wp2
                go_ret
                exact ⟨c, lv2, ls2, rfl, by simpa using H2.out, HY2.out⟩
              · have h6' : (n1.b == n2.b) = false := by simp [h6]
                clear hT1 hT2
                go_wp2_with fail
                refine (back_any _ base d bm L M pm qb _ said ls b z y HB.out (by exact HS.out.below HBX.out.1) hf (by have := HBX.out.1.size; omega)).mono ?_
                rintro e w2 ⟨c, lv2, ls2, rfl, hs2, hy2⟩
                have H2 := hide ((ShS.of_below HS.out HBX.out.1 0).trans hs2)
                have HY2 := hide hy2
                have hl2 := H2.out.ext.len
                have hz2 := H2.out.kept.size
                clear hs2 hy2 k0 k1 k4 k5 m0 m1 m4 m5
                go_wp2_with fail
                refine (then_any _ base d bm L M pm qb _ said ls2 a c x y z (H2.out.ext.says HA.out) HY2.out H2.out.sh (by omega) (by omega)).mono ?_
                rintro e w3 ⟨c3, lv3, ls3, rfl, hs3, hy3⟩
                have H3 := hide (H2.out.trans hs3)
                have HY3 := hide hy3
                clear hs3 hy3
                go_wp2
                go_ret
                exact ⟨c3, lv3, ls3, rfl, H3.out, HY3.out⟩
          · have h4' : (n2.how == 3) = false := by simp [h4]
            clear hT1 hT2
            go_wp2_with fail
            refine (back_any _ base d bm L M pm qb _ said ls b z y HB.out (by exact HS.out.below HBX.out.1) hf (by have := HBX.out.1.size; omega)).mono ?_
            rintro e w2 ⟨c, lv2, ls2, rfl, hs2, hy2⟩
            have H2 := hide ((ShS.of_below HS.out HBX.out.1 0).trans hs2)
            have HY2 := hide hy2
            have hl2 := H2.out.ext.len
            have hz2 := H2.out.kept.size
            clear hs2 hy2 k0 k1 k4 k5 m0 m1 m4 m5
            go_wp2_with fail
            refine (then_any _ base d bm L M pm qb _ said ls2 a c x y z (H2.out.ext.says HA.out) HY2.out H2.out.sh (by omega) (by omega)).mono ?_
            rintro e w3 ⟨c3, lv3, ls3, rfl, hs3, hy3⟩
            have H3 := hide (H2.out.trans hs3)
            have HY3 := hide hy3
            clear hs3 hy3
            go_wp2
            go_ret
            exact ⟨c3, lv3, ls3, rfl, H3.out, HY3.out⟩
      · have h1' : (n1.how == 3) = false := by simp [h1]
        by_cases h4 : n2.how = 3
        · have h4' : (n2.how == 3) = true := by simp [h4]
          by_cases h5 : n2.b = (a : Int)
          · clear hT1
            obtain ⟨j, t, hj, hja, hsj, hst⟩ := hT2 h4
            obtain ⟨k, hk, hsk⟩ := hst
            have hka : k = a := by rw [hk] at h5; omega
            subst hka
            obtain ⟨rfl, _⟩ := hsk.uniq HA.out
            have h5' : ((n2.b == (k : Int)) = true) := by simp [h5]
            rw [hj] at m4
            have HSJ := hide hsj
            clear hsj hsk hT2
            go_wp2_with fail
            refine (back_any _ base d bm L M pm qb _ said ls j _ _ HSJ.out (by exact HS.out.below HBX.out.1) (by omega) (by have := HBX.out.1.size; omega)).mono ?_
            rintro e w2 ⟨c, lv2, ls2, rfl, hs2, hy2⟩
            have H2 := hide ((ShS.of_below HS.out HBX.out.1 1).trans hs2)
            have HY2 := hide hy2
            clear hs2 hy2
            go_wp2
            go_ret
            exact ⟨c, lv2, ls2, rfl, H2.out, HY2.out⟩
          · have h5' : (n2.b == (a : Int)) = false := by simp [h5]
            clear hT1 hT2
            go_wp2_with fail
            refine (back_any _ base d bm L M pm qb _ said ls b z y HB.out (by exact HS.out.below HBX.out.1) hf (by have := HBX.out.1.size; omega)).mono ?_
            rintro e w2 ⟨c, lv2, ls2, rfl, hs2, hy2⟩
            have H2 := hide ((ShS.of_below HS.out HBX.out.1 0).trans hs2)
            have HY2 := hide hy2
            have hl2 := H2.out.ext.len
            have hz2 := H2.out.kept.size
            clear hs2 hy2 k0 k1 k4 k5 m0 m1 m4 m5
            go_wp2_with fail
            refine (then_any _ base d bm L M pm qb _ said ls2 a c x y z (H2.out.ext.says HA.out) HY2.out H2.out.sh (by omega) (by omega)).mono ?_
            rintro e w3 ⟨c3, lv3, ls3, rfl, hs3, hy3⟩
            have H3 := hide (H2.out.trans hs3)
            have HY3 := hide hy3
            clear hs3 hy3
            go_wp2
            go_ret
            exact ⟨c3, lv3, ls3, rfl, H3.out, HY3.out⟩
        · have h4' : (n2.how == 3) = false := by simp [h4]
          clear hT1 hT2
          go_wp2_with fail
          refine (back_any _ base d bm L M pm qb _ said ls b z y HB.out (by exact HS.out.below HBX.out.1) hf (by have := HBX.out.1.size; omega)).mono ?_
          rintro e w2 ⟨c, lv2, ls2, rfl, hs2, hy2⟩
          have H2 := hide ((ShS.of_below HS.out HBX.out.1 0).trans hs2)
          have HY2 := hide hy2
          have hl2 := H2.out.ext.len
          have hz2 := H2.out.kept.size
          clear hs2 hy2 k0 k1 k4 k5 m0 m1 m4 m5
          go_wp2_with fail
          refine (then_any _ base d bm L M pm qb _ said ls2 a c x y z (H2.out.ext.says HA.out) HY2.out H2.out.sh (by omega) (by omega)).mono ?_
          rintro e w3 ⟨c3, lv3, ls3, rfl, hs3, hy3⟩
          have H3 := hide (H2.out.trans hs3)
          have HY3 := hide hy3
          clear hs3 hy3
          go_wp2
          go_ret
          exact ⟨c3, lv3, ls3, rfl, H3.out, HY3.out⟩
end Dr
end Go.Proofs.YtfiebibpgbadlaaGreat
