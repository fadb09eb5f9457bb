import Derived.Test.YtfiebibpgbadlaaGreatProgV
namespace Go.Proofs.YtfiebibpgbadlaaGreat
open Go.RowKit
set_option linter.unusedVariables false
set_option linter.unusedSimpArgs false

theorem BothR.x1 {A : Nat → Prop} {w : World} {xb bb rb gw cw L M : Nat} (h : BothR A w xb bb rb gw cw L M) : w.cell? ⟨xb, 1, none⟩ = some (.pointer (some ⟨rb, 0, none⟩)) := by
  obtain ⟨rv, saidV, sameV, said, R, gs, fresh, hC⟩ := h
  exact cellAt hC.x rfl

def opV (kd k a b : Int) (s t : ByteArray) : Array Value := #[.int .i64 kd, .int .i64 k, .int .i64 a, .int .i64 b, .string s, .string t]
def opBox (kd k a b : Int) (s t : ByteArray) : Obj := .cells #[.int .i64 kd, .int .i64 k, .int .i64 a, .int .i64 b, .string s, .string t] 34 (0, 0)

set_option maxHeartbeats 1600000 in
theorem lalike_any (kd k a b : Int) (s t : ByteArray) (A : Nat → Prop) (w : World) (xb bb rb gw cw L M : Nat) (hs : s.size ≤ maxLen) (ht : t.size ≤ maxLen) (h : BothR A w xb bb rb gw cw L M) :
    Calls Tryz.prog 39 #[.pointer (some ⟨xb, 0, none⟩), .agg #[.int .i64 kd, .int .i64 k, .int .i64 a, .int .i64 b, .string s, .string t]] w fun e w' => e = .returned (.bool true) ∧ BA A w w' ∧ BothR A w' xb bb rb gw cw L M := by
  obtain ⟨rv, saidV, sameV, said, R, gs, fresh, hC0⟩ := h
  have hb0 := below_alloc w (opBox kd k a b s t)
  have hC := hC0.below hb0
  have HB0 : Hid (BA A w (w.alloc (opBox kd k a b s t))) := BA.of_below hb0
  have hne : w.heap.size ≠ rb := by have := lt_of_block hC0.ref.blk; omega
  have x0 : (w.alloc (opBox kd k a b s t)).cell? ⟨xb, 0, none⟩ = some (.pointer (some ⟨bb, 0, none⟩)) := cellAt hC.x rfl
  have x1 : (w.alloc (opBox kd k a b s t)).cell? ⟨xb, 1, none⟩ = some (.pointer (some ⟨rb, 0, none⟩)) := cellAt hC.x rfl
  have o4 : (w.alloc (opBox kd k a b s t)).cell? ⟨w.heap.size, 4, none⟩ = some (.string s) := cellAt (heap_alloc_new w _) rfl
  have o5 : (w.alloc (opBox kd k a b s t)).cell? ⟨w.heap.size, 5, none⟩ = some (.string t) := cellAt (heap_alloc_new w _) rfl
  have HC := hide hC
  clear hC hC0 hb0
  unfold opBox at *
  go_enter Tryz.func39, Tryz.ntmps39
  go_wp2_with fail
  go_region_held3 (fun w' => w'.cell? ⟨xb, 0, none⟩ = some (.pointer (some ⟨bb, 0, none⟩)) ∧ w'.cell? ⟨w.heap.size, 4, none⟩ = some (.string s) ∧ w'.cell? ⟨w.heap.size, 5, none⟩ = some (.string t)) (go_keep)
    (first | (go_at_call 16; refine (psame_any s t _ bb L M rv said R hs ht (by exact HC.out.book.same (below_same (a_same _)))).mono ?_; rintro e w1 ⟨m, c, rfl, hA, hb1'⟩; have hb1 := below_trans (below_same (a_same _)) hb1'; have y0 : w1.cell? ⟨xb, 0, none⟩ = some (.pointer (some ⟨bb, 0, none⟩)) := (hb1.cell (p := ⟨xb, 0, none⟩) (lt_of_cell x0)).trans x0; have y1 : w1.cell? ⟨xb, 1, none⟩ = some (.pointer (some ⟨rb, 0, none⟩)) := (hb1.cell (p := ⟨xb, 1, none⟩) (lt_of_cell x1)).trans x1; have q4 : w1.cell? ⟨w.heap.size, 4, none⟩ = some (.string s) := (hb1.cell (p := ⟨w.heap.size, 4, none⟩) (lt_of_cell o4)).trans o4; have q5 : w1.cell? ⟨w.heap.size, 5, none⟩ = some (.string t) := (hb1.cell (p := ⟨w.heap.size, 5, none⟩) (lt_of_cell o5)).trans o5; have HB1 := hide hb1; have HA := hide hA; clear hb1 hb1' hA))
  clear x0 x1 o4 o5 y0
  go_wp2_with fail
  go_region_held3 (fun w' => w'.cell? ⟨xb, 1, none⟩ = some (.pointer (some ⟨rb, 0, none⟩)) ∧ w'.cell? ⟨w.heap.size, 4, none⟩ = some (.string s) ∧ w'.cell? ⟨w.heap.size, 5, none⟩ = some (.string t)) (go_keep)
    (first | (go_at_call 47; refine (refAlike_any s t _ rb gw cw L M saidV sameV said gs fresh hs ht (by exact (HC.out.below HB1.out).ref.same rfl)).mono ?_; rintro e w2 ⟨m1, c1, m2, c2, rfl, hA1, hA2, hK2, sameV', fresh', hR2⟩; obtain ⟨he1, he2⟩ := HA.out.uniq HC.out.book.L3 (SameAns.of_ref hA1 hA2); rw [← he1, ← he2]; have HF := hide (both_fin HC.out (below_trans HB1.out (below_same (a_same _))) hK2 hR2); have z1 : w2.cell? ⟨xb, 1, none⟩ = some (.pointer (some ⟨rb, 0, none⟩)) := HF.out.2.x1; have z4 : w2.cell? ⟨w.heap.size, 4, none⟩ = some (.string s) := hK2.cell q4 (by simpa using hne); have z5 : w2.cell? ⟨w.heap.size, 5, none⟩ = some (.string t) := hK2.cell q5 (by simpa using hne); clear hK2 hR2 hA1 hA2 he1 he2))
  clear y1 q4 q5 z1 z4 z5
  go_wp2
  go_ret
  exact ⟨rfl, HB0.out.trans HF.out.1, HF.out.2⟩

theorem BothC.mid {A : Nat → Prop} {w w1 : World} {xb bb rb gw cw L M : Nat} {rv saidV sameV : Value} {said R : List Hw.Rl} {gs : List Nat} {fresh : Bool} (h : BothC A w xb bb rb gw cw L M rv saidV sameV said R gs fresh) (hK : Kept [bb] w w1) :
    RefR w1 rb gw cw L M saidV sameV said gs fresh ∧ w1.heap[xb]? = some (.cells #[.pointer (some ⟨bb, 0, none⟩), .pointer (some ⟨rb, 0, none⟩)] 65 (0, 0)) := by
  have n1 : xb ≠ bb := by rintro rfl; have := h.x; rw [h.book.blk] at this; simp [bookBlock] at this
  refine ⟨h.ref.kept hK ?_, hK.at h.x (by simpa using n1)⟩
  simp only [List.mem_singleton]
  rintro k rfl c t fr e
  rw [h.book.blk] at e; simp [bookBlock] at e; exact e.2.1.symm

theorem both_said {A : Nat → Prop} {w w1 w2 : World} {xb bb rb gw cw L M : Nat} {rv rv' saidV sameV saidV' sameV' : Value} {said said' R R' : List Hw.Rl} {gs gs' : List Nat} {fresh fresh' : Bool} (h : BothC A w xb bb rb gw cw L M rv saidV sameV said R gs fresh) (hK1 : Kept [bb] w w1) (hB1 : BookR w1 bb L M rv' said' R') (hK2 : Kept (rb :: saidV.ownBlock.toList) w1 w2) (hR2 : RefR w2 rb gw cw L M saidV' sameV' said' gs' fresh')
    (hlo : ∀ k, saidV'.ownBlock = some k → saidV.ownBlock = some k ∨ w1.heap.size ≤ k) : BA A w w2 ∧ BothR A w2 xb bb rb gw cw L M := by
  obtain ⟨hR1, hx1⟩ := h.mid hK1
  have hty : ∀ k, k ∈ rb :: saidV.ownBlock.toList → A k ∧ ∀ c t fr, w1.heap[k]? = some (.cells c t fr) → t = 62 ∨ t = 60 := by
    intro k hk
    rcases List.mem_cons.1 hk with rfl | hk
    · exact ⟨h.lor, fun c t fr e => .inl (refBlock_type hR1.blk _ _ _ e)⟩
    · have hk' : saidV.ownBlock = some k := by simpa using hk
      refine ⟨h.los k hk', fun c t fr e => .inr ?_⟩
      obtain ⟨cur, hc⟩ := hR1.own_type hk'
      rw [hc] at e; simp at e; exact e.2.1.symm
  have hsz1 := hK1.size
  refine ⟨(BA.of_kept hK1 (by simp; exact h.lob)).trans (BA.of_kept hK2 (fun k hk => (hty k hk).1)), rv', saidV', sameV', said', R', gs', fresh', ?_⟩
  refine ⟨hK2.at hx1 (fun hm => ?_), hB1.kept hK2 (fun hm => ?_) ?_, hR2, h.pos, h.lob, h.lor, ?_, fun k hk => h.up k (Nat.le_trans (Nat.le_trans hK1.size hK2.size) hk)⟩
  · rcases (hty _ hm).2 _ _ _ hx1 with e | e <;> exact absurd e (by decide)
  · exact h.pos (hty _ hm).1
  · intro k hk c t fr e
    rcases (hty _ hk).2 _ _ _ e with rfl | rfl <;> exact ⟨by decide, by decide, by decide⟩
  · intro k hk
    rcases hlo k hk with e | e
    · exact h.los k e
    · exact h.up k (by omega)

theorem both_same {A : Nat → Prop} {w w1 w2 : World} {xb bb rb gw cw L M : Nat} {rv saidV sameV : Value} {said R : List Hw.Rl} {gs : List Nat} {fresh : Bool} (h : BothC A w xb bb rb gw cw L M rv saidV sameV said R gs fresh) (hb : Below w.heap.size w w1) (hs : SameW w1 w2) : BA A w w2 ∧ BothR A w2 xb bb rb gw cw L M := by
  have hb2 := below_trans hb (below_same hs)
  exact ⟨BA.of_below hb2, _, _, _, _, _, _, _, h.below hb2⟩

set_option maxHeartbeats 1600000 in
theorem lsaid_any (kd k a b : Int) (s t : ByteArray) (A : Nat → Prop) (w : World) (xb bb rb gw cw L M : Nat) (hs : s.size ≤ maxLen) (ht : t.size ≤ maxLen) (h : BothR A w xb bb rb gw cw L M) :
    Calls Tryz.prog 38 #[.pointer (some ⟨xb, 0, none⟩), .agg #[.int .i64 kd, .int .i64 k, .int .i64 a, .int .i64 b, .string s, .string t]] w fun e w' => e = .returned (.bool true) ∧ BA A w w' ∧ BothR A w' xb bb rb gw cw L M := by
  obtain ⟨rv, saidV, sameV, said, R, gs, fresh, hC0⟩ := h
  have hb0 := below_alloc w (opBox kd k a b s t)
  have hC := hC0.below hb0
  have HB0 : Hid (BA A w (w.alloc (opBox kd k a b s t))) := BA.of_below hb0
  have hne : w.heap.size ≠ bb := by have := lt_of_block hC0.book.blk; omega
  have hfar : ∀ k, k ∈ rb :: saidV.ownBlock.toList → k < w.heap.size := by
    intro k hk
    rcases List.mem_cons.1 hk with rfl | hk
    · exact lt_of_block hC0.ref.blk
    · obtain ⟨cur, hc⟩ := hC0.ref.own_type (by simpa using hk : saidV.ownBlock = some k)
      exact lt_of_block hc
  have hfar2 : w.heap.size ∉ rb :: saidV.ownBlock.toList := fun h => absurd (hfar _ h) (Nat.lt_irrefl _)
  have x0 : (w.alloc (opBox kd k a b s t)).cell? ⟨xb, 0, none⟩ = some (.pointer (some ⟨bb, 0, none⟩)) := cellAt hC.x rfl
  have x1 : (w.alloc (opBox kd k a b s t)).cell? ⟨xb, 1, none⟩ = some (.pointer (some ⟨rb, 0, none⟩)) := cellAt hC.x rfl
  have o4 : (w.alloc (opBox kd k a b s t)).cell? ⟨w.heap.size, 4, none⟩ = some (.string s) := cellAt (heap_alloc_new w _) rfl
  have o5 : (w.alloc (opBox kd k a b s t)).cell? ⟨w.heap.size, 5, none⟩ = some (.string t) := cellAt (heap_alloc_new w _) rfl
  have HC := hide hC
  clear hC hC0 hb0 hfar
  unfold opBox at *
  by_cases hw : Hw.isWord L M s.data.toList = true ∧ Hw.isWord L M t.data.toList = true
  · by_cases h12 : said.length < 12
    · go_enter Tryz.func38, Tryz.ntmps38
      go_wp2_with fail
      go_region_held3 (fun w' => w'.cell? ⟨xb, 0, none⟩ = some (.pointer (some ⟨bb, 0, none⟩)) ∧ w'.cell? ⟨w.heap.size, 4, none⟩ = some (.string s) ∧ w'.cell? ⟨w.heap.size, 5, none⟩ = some (.string t)) (go_keep)
        (first | (go_at_call 30; refine (psay_any s t _ bb L M rv said R hs ht (by exact HC.out.book.same (below_same (a_same _)))).mono ?_; rintro e w1 hS; unfold PSaid at hS; rw [if_pos hw, if_pos h12] at hS; obtain ⟨rfl, hK1', rv', R', hB1⟩ := hS; have hK1 := (Kept.of_below_size (below_same (a_same _))).trans hK1'; have hM := HC.out.mid hK1; have y0 : w1.cell? ⟨xb, 0, none⟩ = some (.pointer (some ⟨bb, 0, none⟩)) := cellAt hM.2 rfl; have y1 : w1.cell? ⟨xb, 1, none⟩ = some (.pointer (some ⟨rb, 0, none⟩)) := cellAt hM.2 rfl; have q4 : w1.cell? ⟨w.heap.size, 4, none⟩ = some (.string s) := hK1.cell o4 (by simpa using hne); have q5 : w1.cell? ⟨w.heap.size, 5, none⟩ = some (.string t) := hK1.cell o5 (by simpa using hne); have HK1 := hide hK1; have HB1 := hide hB1; have HR1 := hide hM.1; clear hK1 hK1' hB1 hM))
      clear x0 x1 o4 o5 y0
      go_wp2_with fail
      go_region_held3 (fun w' => w'.cell? ⟨xb, 1, none⟩ = some (.pointer (some ⟨rb, 0, none⟩)) ∧ w'.cell? ⟨w.heap.size, 4, none⟩ = some (.string s) ∧ w'.cell? ⟨w.heap.size, 5, none⟩ = some (.string t)) (go_keep)
        (first | (go_at_call 63; refine (refSay_any s t _ rb gw cw L M saidV sameV said gs fresh hs ht (by exact HR1.out.same rfl)).mono ?_; rintro e w2 hS; unfold RefSaid at hS; rw [if_pos hw, if_pos h12] at hS; obtain ⟨rfl, hK2', saidV', gs', hR2, hlo⟩ := hS; have hK2 := ((Kept.refl _ w1).drew).trans hK2'; have HF := hide (both_said HC.out HK1.out HB1.out hK2 hR2 hlo); have hne2 := hfar2; have z4 : w2.cell? ⟨w.heap.size, 4, none⟩ = some (.string s) := hK2.cell q4 hne2; have z5 : w2.cell? ⟨w.heap.size, 5, none⟩ = some (.string t) := hK2.cell q5 hne2; clear hK2 hK2' hR2 hlo hne2; have z1 : w2.cell? ⟨xb, 1, none⟩ = some (.pointer (some ⟨rb, 0, none⟩)) := HF.out.2.x1))
      clear y1 q4 q5 z1 z4 z5
      go_wp2
      go_ret
      exact ⟨rfl, HB0.out.trans HF.out.1, HF.out.2⟩
    · go_enter Tryz.func38, Tryz.ntmps38
      go_wp2_with fail
      go_region_held3 (fun w' => w'.cell? ⟨xb, 0, none⟩ = some (.pointer (some ⟨bb, 0, none⟩)) ∧ w'.cell? ⟨w.heap.size, 4, none⟩ = some (.string s) ∧ w'.cell? ⟨w.heap.size, 5, none⟩ = some (.string t)) (go_keep)
        (first | (go_at_call 30; refine (psay_any s t _ bb L M rv said R hs ht (by exact HC.out.book.same (below_same (a_same _)))).mono ?_; rintro e w1 hS; unfold PSaid at hS; rw [if_pos hw, if_neg h12] at hS; obtain ⟨rfl, hb1'⟩ := hS; have hb1 := below_trans (below_same (a_same _)) hb1'; have y0 : w1.cell? ⟨xb, 0, none⟩ = some (.pointer (some ⟨bb, 0, none⟩)) := (hb1.cell (p := ⟨xb, 0, none⟩) (lt_of_cell x0)).trans x0; have y1 : w1.cell? ⟨xb, 1, none⟩ = some (.pointer (some ⟨rb, 0, none⟩)) := (hb1.cell (p := ⟨xb, 1, none⟩) (lt_of_cell x1)).trans x1; have q4 : w1.cell? ⟨w.heap.size, 4, none⟩ = some (.string s) := (hb1.cell (p := ⟨w.heap.size, 4, none⟩) (lt_of_cell o4)).trans o4; have q5 : w1.cell? ⟨w.heap.size, 5, none⟩ = some (.string t) := (hb1.cell (p := ⟨w.heap.size, 5, none⟩) (lt_of_cell o5)).trans o5; have HB1 := hide hb1; have HR1 := hide (HC.out.below hb1).ref; clear hb1 hb1'))
      clear x0 x1 o4 o5 y0
      go_wp2_with fail
      go_region_held3 (fun w' => w'.cell? ⟨xb, 1, none⟩ = some (.pointer (some ⟨rb, 0, none⟩)) ∧ w'.cell? ⟨w.heap.size, 4, none⟩ = some (.string s) ∧ w'.cell? ⟨w.heap.size, 5, none⟩ = some (.string t)) (go_keep)
        (first | (go_at_call 63; refine (refSay_any s t _ rb gw cw L M saidV sameV said gs fresh hs ht (by exact HR1.out.same rfl)).mono ?_; rintro e w2 hS; unfold RefSaid at hS; rw [if_pos hw, if_neg h12] at hS; obtain ⟨rfl, hs2⟩ := hS; have HF := hide (both_same HC.out (below_trans HB1.out (below_same (a_same _))) hs2); have z4 : w2.cell? ⟨w.heap.size, 4, none⟩ = some (.string s) := (hs2.kept []).cell q4 (by simp); have z5 : w2.cell? ⟨w.heap.size, 5, none⟩ = some (.string t) := (hs2.kept []).cell q5 (by simp); clear hs2; have z1 : w2.cell? ⟨xb, 1, none⟩ = some (.pointer (some ⟨rb, 0, none⟩)) := HF.out.2.x1))
      clear y1 q4 q5 z1 z4 z5
      go_wp2
      go_ret
      exact ⟨rfl, HB0.out.trans HF.out.1, HF.out.2⟩
  · go_enter Tryz.func38, Tryz.ntmps38
    go_wp2_with fail
    go_region_held3 (fun w' => w'.cell? ⟨xb, 0, none⟩ = some (.pointer (some ⟨bb, 0, none⟩)) ∧ w'.cell? ⟨w.heap.size, 4, none⟩ = some (.string s) ∧ w'.cell? ⟨w.heap.size, 5, none⟩ = some (.string t)) (go_keep)
      (first | (go_at_call 30; refine (psay_any s t _ bb L M rv said R hs ht (by exact HC.out.book.same (below_same (a_same _)))).mono ?_; rintro e w1 hS; unfold PSaid at hS; rw [if_neg hw] at hS; obtain ⟨rfl, hb1'⟩ := hS; have hb1 := below_trans (below_same (a_same _)) hb1'; have y0 : w1.cell? ⟨xb, 0, none⟩ = some (.pointer (some ⟨bb, 0, none⟩)) := (hb1.cell (p := ⟨xb, 0, none⟩) (lt_of_cell x0)).trans x0; have y1 : w1.cell? ⟨xb, 1, none⟩ = some (.pointer (some ⟨rb, 0, none⟩)) := (hb1.cell (p := ⟨xb, 1, none⟩) (lt_of_cell x1)).trans x1; have q4 : w1.cell? ⟨w.heap.size, 4, none⟩ = some (.string s) := (hb1.cell (p := ⟨w.heap.size, 4, none⟩) (lt_of_cell o4)).trans o4; have q5 : w1.cell? ⟨w.heap.size, 5, none⟩ = some (.string t) := (hb1.cell (p := ⟨w.heap.size, 5, none⟩) (lt_of_cell o5)).trans o5; have HB1 := hide hb1; have HR1 := hide (HC.out.below hb1).ref; clear hb1 hb1'))
    clear x0 x1 o4 o5 y0
    go_wp2_with fail
    go_region_held3 (fun w' => w'.cell? ⟨xb, 1, none⟩ = some (.pointer (some ⟨rb, 0, none⟩)) ∧ w'.cell? ⟨w.heap.size, 4, none⟩ = some (.string s) ∧ w'.cell? ⟨w.heap.size, 5, none⟩ = some (.string t)) (go_keep)
      (first | (go_at_call 63; refine (refSay_any s t _ rb gw cw L M saidV sameV said gs fresh hs ht (by exact HR1.out.same rfl)).mono ?_; rintro e w2 hS; unfold RefSaid at hS; rw [if_neg hw] at hS; obtain ⟨rfl, hs2⟩ := hS; have HF := hide (both_same HC.out (below_trans HB1.out (below_same (a_same _))) hs2); have z4 : w2.cell? ⟨w.heap.size, 4, none⟩ = some (.string s) := (hs2.kept []).cell q4 (by simp); have z5 : w2.cell? ⟨w.heap.size, 5, none⟩ = some (.string t) := (hs2.kept []).cell q5 (by simp); clear hs2; have z1 : w2.cell? ⟨xb, 1, none⟩ = some (.pointer (some ⟨rb, 0, none⟩)) := HF.out.2.x1))
    clear y1 q4 q5 z1 z4 z5
    go_wp2
    go_ret
    exact ⟨rfl, HB0.out.trans HF.out.1, HF.out.2⟩
end Go.Proofs.YtfiebibpgbadlaaGreat
