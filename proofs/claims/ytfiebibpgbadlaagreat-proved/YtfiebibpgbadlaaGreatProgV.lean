import Derived.Test.YtfiebibpgbadlaaGreatProgU
namespace Go.Proofs.YtfiebibpgbadlaaGreat
open Go.RowKit
set_option linter.unusedVariables false
set_option linter.unusedSimpArgs false

theorem RefR.kept {w w' : World} {b gw cw L M : Nat} {saidV sameV : Value} {said : List (Hw.Wd × Hw.Wd)} {gs : List Nat} {fresh : Bool} {S : List Nat} (h : RefR w b gw cw L M saidV sameV said gs fresh) (hK : Kept S w w')
    (hS : ∀ k, k ∈ S → ∀ c t fr, w.heap[k]? = some (.cells c t fr) → t = 86) : RefR w' b gw cw L M saidV sameV said gs fresh := by
  have hnot : ∀ k c t fr, w.heap[k]? = some (.cells c t fr) → t ≠ 86 → k ∉ S := fun k c t fr h1 h2 hm => h2 (hS k hm c t fr h1)
  refine ⟨h.L1, h.L3, h.M1, h.M6, h.few, hK.at h.blk (hnot _ _ _ _ h.blk (by decide)), ?_, ?_, h.words, ?_⟩
  · obtain ⟨cur, hg, _⟩ := h.wrd
    exact h.wrd.kept hK (hnot _ _ _ _ hg (by decide))
  · refine h.sd.kept hK ?_ ?_
    · intro k hk e
      obtain ⟨cur, hc⟩ := h.own_type e
      exact hnot _ _ _ _ hc (by decide) hk
    · intro k hk c fr e
      exact hnot _ _ _ _ e (by decide) hk
  · intro hf
    obtain ⟨g, xs, h1, h2, h3⟩ := h.done hf
    exact ⟨g, xs, h1, hK.at h2 (hnot _ _ _ _ h2 (by decide)), h3⟩

theorem BookR.kept {w w' : World} {bb L M : Nat} {rv : Value} {said R : List Hw.Rl} {S : List Nat} (h : BookR w bb L M rv said R) (hK : Kept S w w') (h0 : 0 ∉ S) (hS : ∀ k, k ∈ S → ∀ c t fr, w.heap[k]? = some (.cells c t fr) → t ≠ 86 ∧ t ≠ 77 ∧ t ≠ 102) : BookR w' bb L M rv said R := by
  obtain ⟨m, hm⟩ := h.mx
  refine h.move (hK.block _ (lt_of_block h.blk) (fun hk => (hS _ hk _ _ _ h.blk).1 rfl)) (h.rul.kept hK ?_) (h.sad.kept hK (fun k hk c fr e => (hS k hk _ _ _ e).2.2 rfl)) ⟨m, hK.cell hm (by simpa using h0)⟩
  intro k hk e
  rcases h.rul.2 with ⟨h1, _⟩ | ⟨g, cap, cur, h1, _, hg, _⟩
  · rw [h1] at e; simp [Value.ownBlock] at e
  · rw [h1] at e; simp [Value.ownBlock] at e; subst e
    exact (hS _ hk _ _ _ hg).2.1 rfl

/-- But for the blocks of A, and for new ones, all is as it was. -/
structure BA (A : Nat → Prop) (w w' : World) : Prop where
  os : w'.os = w.os
  tape : w'.tape = w.tape
  output : w'.output = w.output
  size : w.heap.size ≤ w'.heap.size
  block : ∀ k, k < w.heap.size → ¬ A k → w'.heap[k]? = w.heap[k]?
theorem BA.trans {A : Nat → Prop} {a b c : World} (h : BA A a b) (k : BA A b c) : BA A a c :=
  ⟨k.os.trans h.os, k.tape.trans h.tape, k.output.trans h.output, Nat.le_trans h.size k.size, fun i hi hn => (k.block i (Nat.lt_of_lt_of_le hi h.size) hn).trans (h.block i hi hn)⟩
theorem BA.of_below {A : Nat → Prop} {w w' : World} (h : Below w.heap.size w w') : BA A w w' :=
  have hK := Kept.of_below_size (S := []) h
  ⟨hK.os, hK.tape, hK.output, hK.size, fun k hk _ => hK.block k hk (by simp)⟩
theorem BA.of_kept {A : Nat → Prop} {S : List Nat} {w w' : World} (h : Kept S w w') (hS : ∀ k, k ∈ S → A k) : BA A w w' :=
  ⟨h.os, h.tape, h.output, h.size, fun k hk hn => h.block k hk (fun hm => hn (hS k hm))⟩
/-- All blocks from one on. -/
def Up (B : Nat) : Nat → Prop := fun k => B ≤ k
theorem BA.up {B : Nat} {w w' : World} (h : BA (Up B) w w') (hB : B ≤ w.heap.size) : Below B w w' :=
  ⟨h.os, h.tape, h.output, h.size, fun k hk => h.block k (by omega) (by unfold Up; omega)⟩

/-- A Book of the program's beside the document's. -/
structure BothC (A : Nat → Prop) (w : World) (xb bb rb gw cw L M : Nat) (rv saidV sameV : Value) (said R : List Hw.Rl) (gs : List Nat) (fresh : Bool) : Prop where
  x : w.heap[xb]? = some (.cells #[.pointer (some ⟨bb, 0, none⟩), .pointer (some ⟨rb, 0, none⟩)] 65 (0, 0))
  book : BookR w bb L M rv said R
  ref : RefR w rb gw cw L M saidV sameV said gs fresh
  pos : ¬ A 0
  lob : A bb
  lor : A rb
  los : ∀ k, saidV.ownBlock = some k → A k
  up : ∀ k, w.heap.size ≤ k → A k

def BothR (A : Nat → Prop) (w : World) (xb bb rb gw cw L M : Nat) : Prop := ∃ rv saidV sameV said R gs fresh, BothC A w xb bb rb gw cw L M rv saidV sameV said R gs fresh

theorem BothC.below {A : Nat → Prop} {w w' : World} {xb bb rb gw cw L M : Nat} {rv saidV sameV : Value} {said R : List Hw.Rl} {gs : List Nat} {fresh : Bool} (h : BothC A w xb bb rb gw cw L M rv saidV sameV said R gs fresh) (hb : Below w.heap.size w w') : BothC A w' xb bb rb gw cw L M rv saidV sameV said R gs fresh :=
  ⟨(hb.block _ (lt_of_block h.x)).trans h.x, h.book.same hb, h.ref.kept (S := []) (Kept.of_below_size hb) (by simp), h.pos, h.lob, h.lor, h.los, fun k hk => h.up k (Nat.le_trans hb.size hk)⟩

/-- the document's Book moves, what is said stays. -/
theorem BothC.ref_step {A : Nat → Prop} {w w' : World} {xb bb rb gw cw L M : Nat} {rv saidV sameV sameV' : Value} {said R : List Hw.Rl} {gs : List Nat} {fresh fresh' : Bool} (h : BothC A w xb bb rb gw cw L M rv saidV sameV said R gs fresh) (hK : Kept [rb] w w') (hR : RefR w' rb gw cw L M saidV sameV' said gs fresh') :
    BothC A w' xb bb rb gw cw L M rv saidV sameV' said R gs fresh' ∧ BA A w w' := by
  have hr := h.ref.blk
  have n1 : xb ≠ rb := by rintro rfl; have := h.x; rw [hr] at this; simp [refBlock] at this
  refine ⟨⟨hK.at h.x (by simpa using n1), h.book.kept hK (by simp; rintro rfl; exact h.pos h.lor) ?_, hR, h.pos, h.lob, h.lor, h.los, fun k hk => h.up k (Nat.le_trans hK.size hk)⟩, BA.of_kept hK (by simp; exact h.lor)⟩
  simp only [List.mem_singleton]
  rintro k rfl c t fr e
  rw [hr] at e; simp [refBlock] at e
  rw [← e.2.1]; decide

theorem both_fin {A : Nat → Prop} {w w1 w2 : World} {xb bb rb gw cw L M : Nat} {rv saidV sameV sameV' : Value} {said R : List Hw.Rl} {gs : List Nat} {fresh fresh' : Bool} (h : BothC A w xb bb rb gw cw L M rv saidV sameV said R gs fresh) (hb : Below w.heap.size w w1) (hK : Kept [rb] w1 w2) (hR : RefR w2 rb gw cw L M saidV sameV' said gs fresh') :
    BA A w w2 ∧ BothR A w2 xb bb rb gw cw L M := by
  have h2 := (h.below hb).ref_step hK hR
  exact ⟨(BA.of_below hb).trans h2.2, _, _, _, _, _, _, _, h2.1⟩

set_option maxHeartbeats 1600000 in
theorem lleast_any (s : ByteArray) (A : Nat → Prop) (w : World) (xb bb rb gw cw L M : Nat) (hs : s.size ≤ maxLen) (h : BothR A w xb bb rb gw cw L M) :
    Calls Tryz.prog 20 #[.pointer (some ⟨xb, 0, none⟩), .string s] w fun e w' => e = .returned (.bool true) ∧ BA A w w' ∧ BothR A w' xb bb rb gw cw L M := by
  obtain ⟨rv, saidV, sameV, said, R, gs, fresh, hC⟩ := h
  have x0 : w.cell? ⟨xb, 0, none⟩ = some (.pointer (some ⟨bb, 0, none⟩)) := cellAt hC.x rfl
  have x1 : w.cell? ⟨xb, 1, none⟩ = some (.pointer (some ⟨rb, 0, none⟩)) := cellAt hC.x rfl
  have HC := hide hC
  clear hC
  go_enter Tryz.func20, Tryz.ntmps20
  go_wp2_with fail
  refine (pleast_any s _ bb L M rv said R hs (by exact HC.out.book)).mono ?_
  rintro e w1 ⟨m, c, rfl, hA, hb1⟩
  have y1 : w1.cell? ⟨xb, 1, none⟩ = some (.pointer (some ⟨rb, 0, none⟩)) := (hb1.cell (p := ⟨xb, 1, none⟩) (lt_of_cell x1)).trans x1
  have HB1 := hide hb1
  have HA := hide hA
  clear hb1 hA x0 x1
  go_wp2_with fail
  refine (refLeast_any s _ rb gw cw L M saidV sameV said gs fresh hs (by exact (HC.out.below HB1.out).ref)).mono ?_
  rintro e w2 ⟨m', c', rfl, hA', hK2, sameV', fresh', hR2⟩
  obtain ⟨rfl, rfl⟩ := HA.out.uniq HC.out.book.L3 hA'
  have HF := hide (both_fin HC.out HB1.out hK2 hR2)
  clear hK2 hR2 hA' y1
  go_wp2
  go_ret
  exact ⟨rfl, HF.out⟩
end Go.Proofs.YtfiebibpgbadlaaGreat
namespace Go.Proofs.YtfiebibpgbadlaaGreat
open Go.RowKit
set_option linter.unusedVariables false
set_option linter.unusedSimpArgs false

theorem BothR.x1 {A : Nat → Prop} {w : World} {xb bb rb gw cw L M : Nat} (h : BothR A w xb bb rb gw cw L M) : w.cell? ⟨xb, 1, none⟩ = some (.pointer (some ⟨rb, 0, none⟩)) := by
  obtain ⟨rv, saidV, sameV, said, R, gs, fresh, hC⟩ := h
  exact cellAt hC.x rfl

def opV (kd k a b : Int) (s t : ByteArray) : Array Value := #[.int .i64 kd, .int .i64 k, .int .i64 a, .int .i64 b, .string s, .string t]
def opBox (kd k a b : Int) (s t : ByteArray) : Obj := .cells #[.int .i64 kd, .int .i64 k, .int .i64 a, .int .i64 b, .string s, .string t] 34 (0, 0)

set_option maxHeartbeats 1600000 in
theorem lalike_any (kd k a b : Int) (s t : ByteArray) (A : Nat → Prop) (w : World) (xb bb rb gw cw L M : Nat) (hs : s.size ≤ maxLen) (ht : t.size ≤ maxLen) (h : BothR A w xb bb rb gw cw L M) :
    Calls Tryz.prog 39 #[.pointer (some ⟨xb, 0, none⟩), .agg #[.int .i64 kd, .int .i64 k, .int .i64 a, .int .i64 b, .string s, .string t]] w fun e w' => e = .returned (.bool true) ∧ BA A w w' ∧ BothR A w' xb bb rb gw cw L M := by
  obtain ⟨rv, saidV, sameV, said, R, gs, fresh, hC0⟩ := h
  have hb0 := below_alloc w (opBox kd k a b s t)
  have hC := hC0.below hb0
  have HB0 : Hid (BA A w (w.alloc (opBox kd k a b s t))) := BA.of_below hb0
  have hne : w.heap.size ≠ rb := by have := lt_of_block hC0.ref.blk; omega
  have x0 : (w.alloc (opBox kd k a b s t)).cell? ⟨xb, 0, none⟩ = some (.pointer (some ⟨bb, 0, none⟩)) := cellAt hC.x rfl
  have x1 : (w.alloc (opBox kd k a b s t)).cell? ⟨xb, 1, none⟩ = some (.pointer (some ⟨rb, 0, none⟩)) := cellAt hC.x rfl
  have o4 : (w.alloc (opBox kd k a b s t)).cell? ⟨w.heap.size, 4, none⟩ = some (.string s) := cellAt (heap_alloc_new w _) rfl
  have o5 : (w.alloc (opBox kd k a b s t)).cell? ⟨w.heap.size, 5, none⟩ = some (.string t) := cellAt (heap_alloc_new w _) rfl
  have HC := hide hC
  clear hC hC0 hb0
  unfold opBox at *
  go_enter Tryz.func39, Tryz.ntmps39
  go_wp2_with fail
  go_region_held3 (fun w' => w'.cell? ⟨xb, 0, none⟩ = some (.pointer (some ⟨bb, 0, none⟩)) ∧ w'.cell? ⟨w.heap.size, 4, none⟩ = some (.string s) ∧ w'.cell? ⟨w.heap.size, 5, none⟩ = some (.string t)) (go_keep)
    (first | (go_at_call 16; refine (psame_any s t _ bb L M rv said R hs ht (by exact HC.out.book.same (below_same (a_same _)))).mono ?_; rintro e w1 ⟨m, c, rfl, hA, hb1'⟩; have hb1 := below_trans (below_same (a_same _)) hb1'; have y0 : w1.cell? ⟨xb, 0, none⟩ = some (.pointer (some ⟨bb, 0, none⟩)) := (hb1.cell (p := ⟨xb, 0, none⟩) (lt_of_cell x0)).trans x0; have y1 : w1.cell? ⟨xb, 1, none⟩ = some (.pointer (some ⟨rb, 0, none⟩)) := (hb1.cell (p := ⟨xb, 1, none⟩) (lt_of_cell x1)).trans x1; have q4 : w1.cell? ⟨w.heap.size, 4, none⟩ = some (.string s) := (hb1.cell (p := ⟨w.heap.size, 4, none⟩) (lt_of_cell o4)).trans o4; have q5 : w1.cell? ⟨w.heap.size, 5, none⟩ = some (.string t) := (hb1.cell (p := ⟨w.heap.size, 5, none⟩) (lt_of_cell o5)).trans o5; have HB1 := hide hb1; have HA := hide hA; clear hb1 hb1' hA))
  clear x0 x1 o4 o5 y0
  go_wp2_with fail
  go_region_held3 (fun w' => w'.cell? ⟨xb, 1, none⟩ = some (.pointer (some ⟨rb, 0, none⟩)) ∧ w'.cell? ⟨w.heap.size, 4, none⟩ = some (.string s) ∧ w'.cell? ⟨w.heap.size, 5, none⟩ = some (.string t)) (go_keep)
    (first | (go_at_call 47; refine (refAlike_any s t _ rb gw cw L M saidV sameV said gs fresh hs ht (by exact (HC.out.below HB1.out).ref.same rfl)).mono ?_; rintro e w2 ⟨m1, c1, m2, c2, rfl, hA1, hA2, hK2, sameV', fresh', hR2⟩; obtain ⟨he1, he2⟩ := HA.out.uniq HC.out.book.L3 (SameAns.of_ref hA1 hA2); rw [← he1, ← he2]; have HF := hide (both_fin HC.out (below_trans HB1.out (below_same (a_same _))) hK2 hR2); have z1 : w2.cell? ⟨xb, 1, none⟩ = some (.pointer (some ⟨rb, 0, none⟩)) := HF.out.2.x1; have z4 : w2.cell? ⟨w.heap.size, 4, none⟩ = some (.string s) := hK2.cell q4 (by simpa using hne); have z5 : w2.cell? ⟨w.heap.size, 5, none⟩ = some (.string t) := hK2.cell q5 (by simpa using hne); clear hK2 hR2 hA1 hA2 he1 he2))
  clear y1 q4 q5 z1 z4 z5
  go_wp2
  go_ret
  exact ⟨rfl, HB0.out.trans HF.out.1, HF.out.2⟩

theorem BothC.mid {A : Nat → Prop} {w w1 : World} {xb bb rb gw cw L M : Nat} {rv saidV sameV : Value} {said R : List Hw.Rl} {gs : List Nat} {fresh : Bool} (h : BothC A w xb bb rb gw cw L M rv saidV sameV said R gs fresh) (hK : Kept [bb] w w1) :
    RefR w1 rb gw cw L M saidV sameV said gs fresh ∧ w1.heap[xb]? = some (.cells #[.pointer (some ⟨bb, 0, none⟩), .pointer (some ⟨rb, 0, none⟩)] 65 (0, 0)) := by
  have n1 : xb ≠ bb := by rintro rfl; have := h.x; rw [h.book.blk] at this; simp [bookBlock] at this
  refine ⟨h.ref.kept hK ?_, hK.at h.x (by simpa using n1)⟩
  simp only [List.mem_singleton]
  rintro k rfl c t fr e
  rw [h.book.blk] at e; simp [bookBlock] at e; exact e.2.1.symm

theorem both_said {A : Nat → Prop} {w w1 w2 : World} {xb bb rb gw cw L M : Nat} {rv rv' saidV sameV saidV' sameV' : Value} {said said' R R' : List Hw.Rl} {gs gs' : List Nat} {fresh fresh' : Bool} (h : BothC A w xb bb rb gw cw L M rv saidV sameV said R gs fresh) (hK1 : Kept [bb] w w1) (hB1 : BookR w1 bb L M rv' said' R') (hK2 : Kept (rb :: saidV.ownBlock.toList) w1 w2) (hR2 : RefR w2 rb gw cw L M saidV' sameV' said' gs' fresh')
    (hlo : ∀ k, saidV'.ownBlock = some k → saidV.ownBlock = some k ∨ w1.heap.size ≤ k) : BA A w w2 ∧ BothR A w2 xb bb rb gw cw L M := by
  obtain ⟨hR1, hx1⟩ := h.mid hK1
  have hty : ∀ k, k ∈ rb :: saidV.ownBlock.toList → A k ∧ ∀ c t fr, w1.heap[k]? = some (.cells c t fr) → t = 62 ∨ t = 60 := by
    intro k hk
    rcases List.mem_cons.1 hk with rfl | hk
    · exact ⟨h.lor, fun c t fr e => .inl (refBlock_type hR1.blk _ _ _ e)⟩
    · have hk' : saidV.ownBlock = some k := by simpa using hk
      refine ⟨h.los k hk', fun c t fr e => .inr ?_⟩
      obtain ⟨cur, hc⟩ := hR1.own_type hk'
      rw [hc] at e; simp at e; exact e.2.1.symm
  have hsz1 := hK1.size
  refine ⟨(BA.of_kept hK1 (by simp; exact h.lob)).trans (BA.of_kept hK2 (fun k hk => (hty k hk).1)), rv', saidV', sameV', said', R', gs', fresh', ?_⟩
  refine ⟨hK2.at hx1 (fun hm => ?_), hB1.kept hK2 (fun hm => ?_) ?_, hR2, h.pos, h.lob, h.lor, ?_, fun k hk => h.up k (Nat.le_trans (Nat.le_trans hK1.size hK2.size) hk)⟩
  · rcases (hty _ hm).2 _ _ _ hx1 with e | e <;> exact absurd e (by decide)
  · exact h.pos (hty _ hm).1
  · intro k hk c t fr e
    rcases (hty _ hk).2 _ _ _ e with rfl | rfl <;> exact ⟨by decide, by decide, by decide⟩
  · intro k hk
    rcases hlo k hk with e | e
    · exact h.los k e
    · exact h.up k (by omega)

theorem both_same {A : Nat → Prop} {w w1 w2 : World} {xb bb rb gw cw L M : Nat} {rv saidV sameV : Value} {said R : List Hw.Rl} {gs : List Nat} {fresh : Bool} (h : BothC A w xb bb rb gw cw L M rv saidV sameV said R gs fresh) (hb : Below w.heap.size w w1) (hs : SameW w1 w2) : BA A w w2 ∧ BothR A w2 xb bb rb gw cw L M := by
  have hb2 := below_trans hb (below_same hs)
  exact ⟨BA.of_below hb2, _, _, _, _, _, _, _, h.below hb2⟩

set_option maxHeartbeats 1600000 in
theorem lsaid_any (kd k a b : Int) (s t : ByteArray) (A : Nat → Prop) (w : World) (xb bb rb gw cw L M : Nat) (hs : s.size ≤ maxLen) (ht : t.size ≤ maxLen) (h : BothR A w xb bb rb gw cw L M) :
    Calls Tryz.prog 38 #[.pointer (some ⟨xb, 0, none⟩), .agg #[.int .i64 kd, .int .i64 k, .int .i64 a, .int .i64 b, .string s, .string t]] w fun e w' => e = .returned (.bool true) ∧ BA A w w' ∧ BothR A w' xb bb rb gw cw L M := by
  obtain ⟨rv, saidV, sameV, said, R, gs, fresh, hC0⟩ := h
  have hb0 := below_alloc w (opBox kd k a b s t)
  have hC := hC0.below hb0
  have HB0 : Hid (BA A w (w.alloc (opBox kd k a b s t))) := BA.of_below hb0
  have hne : w.heap.size ≠ bb := by have := lt_of_block hC0.book.blk; omega
  have hfar : ∀ k, k ∈ rb :: saidV.ownBlock.toList → k < w.heap.size := by
    intro k hk
    rcases List.mem_cons.1 hk with rfl | hk
    · exact lt_of_block hC0.ref.blk
    · obtain ⟨cur, hc⟩ := hC0.ref.own_type (by simpa using hk : saidV.ownBlock = some k)
      exact lt_of_block hc
  have hfar2 : w.heap.size ∉ rb :: saidV.ownBlock.toList := fun h => absurd (hfar _ h) (Nat.lt_irrefl _)
  have x0 : (w.alloc (opBox kd k a b s t)).cell? ⟨xb, 0, none⟩ = some (.pointer (some ⟨bb, 0, none⟩)) := cellAt hC.x rfl
  have x1 : (w.alloc (opBox kd k a b s t)).cell? ⟨xb, 1, none⟩ = some (.pointer (some ⟨rb, 0, none⟩)) := cellAt hC.x rfl
  have o4 : (w.alloc (opBox kd k a b s t)).cell? ⟨w.heap.size, 4, none⟩ = some (.string s) := cellAt (heap_alloc_new w _) rfl
  have o5 : (w.alloc (opBox kd k a b s t)).cell? ⟨w.heap.size, 5, none⟩ = some (.string t) := cellAt (heap_alloc_new w _) rfl
  have HC := hide hC
  clear hC hC0 hb0 hfar
  unfold opBox at *
  by_cases hw : Hw.isWord L M s.data.toList = true ∧ Hw.isWord L M t.data.toList = true
  · by_cases h12 : said.length < 12
    · go_enter Tryz.func38, Tryz.ntmps38
      go_wp2_with fail
      go_region_held3 (fun w' => w'.cell? ⟨xb, 0, none⟩ = some (.pointer (some ⟨bb, 0, none⟩)) ∧ w'.cell? ⟨w.heap.size, 4, none⟩ = some (.string s) ∧ w'.cell? ⟨w.heap.size, 5, none⟩ = some (.string t)) (go_keep)
        (first | (go_at_call 30; refine (psay_any s t _ bb L M rv said R hs ht (by exact HC.out.book.same (below_same (a_same _)))).mono ?_; rintro e w1 hS; unfold PSaid at hS; rw [if_pos hw, if_pos h12] at hS; obtain ⟨rfl, hK1', rv', R', hB1⟩ := hS; have hK1 := (Kept.of_below_size (below_same (a_same _))).trans hK1'; have hM := HC.out.mid hK1; have y0 : w1.cell? ⟨xb, 0, none⟩ = some (.pointer (some ⟨bb, 0, none⟩)) := cellAt hM.2 rfl; have y1 : w1.cell? ⟨xb, 1, none⟩ = some (.pointer (some ⟨rb, 0, none⟩)) := cellAt hM.2 rfl; have q4 : w1.cell? ⟨w.heap.size, 4, none⟩ = some (.string s) := hK1.cell o4 (by simpa using hne); have q5 : w1.cell? ⟨w.heap.size, 5, none⟩ = some (.string t) := hK1.cell o5 (by simpa using hne); have HK1 := hide hK1; have HB1 := hide hB1; have HR1 := hide hM.1; clear hK1 hK1' hB1 hM))
      clear x0 x1 o4 o5 y0
      go_wp2_with fail
      go_region_held3 (fun w' => w'.cell? ⟨xb, 1, none⟩ = some (.pointer (some ⟨rb, 0, none⟩)) ∧ w'.cell? ⟨w.heap.size, 4, none⟩ = some (.string s) ∧ w'.cell? ⟨w.heap.size, 5, none⟩ = some (.string t)) (go_keep)
        (first | (go_at_call 63; refine (refSay_any s t _ rb gw cw L M saidV sameV said gs fresh hs ht (by exact HR1.out.same rfl)).mono ?_; rintro e w2 hS; unfold RefSaid at hS; rw [if_pos hw, if_pos h12] at hS; obtain ⟨rfl, hK2', saidV', gs', hR2, hlo⟩ := hS; have hK2 := ((Kept.refl _ w1).drew).trans hK2'; have HF := hide (both_said HC.out HK1.out HB1.out hK2 hR2 hlo); have hne2 := hfar2; have z4 : w2.cell? ⟨w.heap.size, 4, none⟩ = some (.string s) := hK2.cell q4 hne2; have z5 : w2.cell? ⟨w.heap.size, 5, none⟩ = some (.string t) := hK2.cell q5 hne2; clear hK2 hK2' hR2 hlo hne2; have z1 : w2.cell? ⟨xb, 1, none⟩ = some (.pointer (some ⟨rb, 0, none⟩)) := HF.out.2.x1))
      clear y1 q4 q5 z1 z4 z5
      go_wp2
      go_ret
      exact ⟨rfl, HB0.out.trans HF.out.1, HF.out.2⟩
    · go_enter Tryz.func38, Tryz.ntmps38
      go_wp2_with fail
      go_region_held3 (fun w' => w'.cell? ⟨xb, 0, none⟩ = some (.pointer (some ⟨bb, 0, none⟩)) ∧ w'.cell? ⟨w.heap.size, 4, none⟩ = some (.string s) ∧ w'.cell? ⟨w.heap.size, 5, none⟩ = some (.string t)) (go_keep)
        (first | (go_at_call 30; refine (psay_any s t _ bb L M rv said R hs ht (by exact HC.out.book.same (below_same (a_same _)))).mono ?_; rintro e w1 hS; unfold PSaid at hS; rw [if_pos hw, if_neg h12] at hS; obtain ⟨rfl, hb1'⟩ := hS; have hb1 := below_trans (below_same (a_same _)) hb1'; have y0 : w1.cell? ⟨xb, 0, none⟩ = some (.pointer (some ⟨bb, 0, none⟩)) := (hb1.cell (p := ⟨xb, 0, none⟩) (lt_of_cell x0)).trans x0; have y1 : w1.cell? ⟨xb, 1, none⟩ = some (.pointer (some ⟨rb, 0, none⟩)) := (hb1.cell (p := ⟨xb, 1, none⟩) (lt_of_cell x1)).trans x1; have q4 : w1.cell? ⟨w.heap.size, 4, none⟩ = some (.string s) := (hb1.cell (p := ⟨w.heap.size, 4, none⟩) (lt_of_cell o4)).trans o4; have q5 : w1.cell? ⟨w.heap.size, 5, none⟩ = some (.string t) := (hb1.cell (p := ⟨w.heap.size, 5, none⟩) (lt_of_cell o5)).trans o5; have HB1 := hide hb1; have HR1 := hide (HC.out.below hb1).ref; clear hb1 hb1'))
      clear x0 x1 o4 o5 y0
      go_wp2_with fail
      go_region_held3 (fun w' => w'.cell? ⟨xb, 1, none⟩ = some (.pointer (some ⟨rb, 0, none⟩)) ∧ w'.cell? ⟨w.heap.size, 4, none⟩ = some (.string s) ∧ w'.cell? ⟨w.heap.size, 5, none⟩ = some (.string t)) (go_keep)
        (first | (go_at_call 63; refine (refSay_any s t _ rb gw cw L M saidV sameV said gs fresh hs ht (by exact HR1.out.same rfl)).mono ?_; rintro e w2 hS; unfold RefSaid at hS; rw [if_pos hw, if_neg h12] at hS; obtain ⟨rfl, hs2⟩ := hS; have HF := hide (both_same HC.out (below_trans HB1.out (below_same (a_same _))) hs2); have z4 : w2.cell? ⟨w.heap.size, 4, none⟩ = some (.string s) := (hs2.kept []).cell q4 (by simp); have z5 : w2.cell? ⟨w.heap.size, 5, none⟩ = some (.string t) := (hs2.kept []).cell q5 (by simp); clear hs2; have z1 : w2.cell? ⟨xb, 1, none⟩ = some (.pointer (some ⟨rb, 0, none⟩)) := HF.out.2.x1))
      clear y1 q4 q5 z1 z4 z5
      go_wp2
      go_ret
      exact ⟨rfl, HB0.out.trans HF.out.1, HF.out.2⟩
  · go_enter Tryz.func38, Tryz.ntmps38
    go_wp2_with fail
    go_region_held3 (fun w' => w'.cell? ⟨xb, 0, none⟩ = some (.pointer (some ⟨bb, 0, none⟩)) ∧ w'.cell? ⟨w.heap.size, 4, none⟩ = some (.string s) ∧ w'.cell? ⟨w.heap.size, 5, none⟩ = some (.string t)) (go_keep)
      (first | (go_at_call 30; refine (psay_any s t _ bb L M rv said R hs ht (by exact HC.out.book.same (below_same (a_same _)))).mono ?_; rintro e w1 hS; unfold PSaid at hS; rw [if_neg hw] at hS; obtain ⟨rfl, hb1'⟩ := hS; have hb1 := below_trans (below_same (a_same _)) hb1'; have y0 : w1.cell? ⟨xb, 0, none⟩ = some (.pointer (some ⟨bb, 0, none⟩)) := (hb1.cell (p := ⟨xb, 0, none⟩) (lt_of_cell x0)).trans x0; have y1 : w1.cell? ⟨xb, 1, none⟩ = some (.pointer (some ⟨rb, 0, none⟩)) := (hb1.cell (p := ⟨xb, 1, none⟩) (lt_of_cell x1)).trans x1; have q4 : w1.cell? ⟨w.heap.size, 4, none⟩ = some (.string s) := (hb1.cell (p := ⟨w.heap.size, 4, none⟩) (lt_of_cell o4)).trans o4; have q5 : w1.cell? ⟨w.heap.size, 5, none⟩ = some (.string t) := (hb1.cell (p := ⟨w.heap.size, 5, none⟩) (lt_of_cell o5)).trans o5; have HB1 := hide hb1; have HR1 := hide (HC.out.below hb1).ref; clear hb1 hb1'))
    clear x0 x1 o4 o5 y0
    go_wp2_with fail
    go_region_held3 (fun w' => w'.cell? ⟨xb, 1, none⟩ = some (.pointer (some ⟨rb, 0, none⟩)) ∧ w'.cell? ⟨w.heap.size, 4, none⟩ = some (.string s) ∧ w'.cell? ⟨w.heap.size, 5, none⟩ = some (.string t)) (go_keep)
      (first | (go_at_call 63; refine (refSay_any s t _ rb gw cw L M saidV sameV said gs fresh hs ht (by exact HR1.out.same rfl)).mono ?_; rintro e w2 hS; unfold RefSaid at hS; rw [if_neg hw] at hS; obtain ⟨rfl, hs2⟩ := hS; have HF := hide (both_same HC.out (below_trans HB1.out (below_same (a_same _))) hs2); have z4 : w2.cell? ⟨w.heap.size, 4, none⟩ = some (.string s) := (hs2.kept []).cell q4 (by simp); have z5 : w2.cell? ⟨w.heap.size, 5, none⟩ = some (.string t) := (hs2.kept []).cell q5 (by simp); clear hs2; have z1 : w2.cell? ⟨xb, 1, none⟩ = some (.pointer (some ⟨rb, 0, none⟩)) := HF.out.2.x1))
    clear y1 q4 q5 z1 z4 z5
    go_wp2
    go_ret
    exact ⟨rfl, HB0.out.trans HF.out.1, HF.out.2⟩
end Go.Proofs.YtfiebibpgbadlaaGreat
namespace Go.Proofs.YtfiebibpgbadlaaGreat
open Go.RowKit
set_option linter.unusedVariables false
set_option linter.unusedSimpArgs false

theorem BothR.alloc {A : Nat → Prop} {w : World} {xb bb rb gw cw L M : Nat} (h : BothR A w xb bb rb gw cw L M) (o : Obj) : BothR A (w.alloc o) xb bb rb gw cw L M ∧ BA A w (w.alloc o) := by
  obtain ⟨rv, saidV, sameV, said, R, gs, fresh, hC⟩ := h
  have hb := below_alloc w o
  exact ⟨⟨rv, saidV, sameV, said, R, gs, fresh, hC.below hb⟩, BA.of_below hb⟩

set_option maxHeartbeats 1600000 in
theorem lstep_any (kd k a b : Int) (s t : ByteArray) (A : Nat → Prop) (w : World) (xb bb rb gw cw L M : Nat) (h3 : kd ≤ 3) (hs : s.size ≤ maxLen) (ht : t.size ≤ maxLen) (h : BothR A w xb bb rb gw cw L M) :
    Calls Tryz.prog 19 #[.pointer (some ⟨xb, 0, none⟩), .agg #[.int .i64 kd, .int .i64 k, .int .i64 a, .int .i64 b, .string s, .string t]] w fun e w' => e = .returned (.bool true) ∧ BA A w w' ∧ BothR A w' xb bb rb gw cw L M := by
  have HA := hide (h.alloc (opBox kd k a b s t))
  have o0 : (w.alloc (opBox kd k a b s t)).cell? ⟨w.heap.size, 0, none⟩ = some (.int .i64 kd) := cellAt (heap_alloc_new w _) rfl
  have o1 : (w.alloc (opBox kd k a b s t)).cell? ⟨w.heap.size, 1, none⟩ = some (.int .i64 k) := cellAt (heap_alloc_new w _) rfl
  have o2 : (w.alloc (opBox kd k a b s t)).cell? ⟨w.heap.size, 2, none⟩ = some (.int .i64 a) := cellAt (heap_alloc_new w _) rfl
  have o3 : (w.alloc (opBox kd k a b s t)).cell? ⟨w.heap.size, 3, none⟩ = some (.int .i64 b) := cellAt (heap_alloc_new w _) rfl
  have o4 : (w.alloc (opBox kd k a b s t)).cell? ⟨w.heap.size, 4, none⟩ = some (.string s) := cellAt (heap_alloc_new w _) rfl
  have o5 : (w.alloc (opBox kd k a b s t)).cell? ⟨w.heap.size, 5, none⟩ = some (.string t) := cellAt (heap_alloc_new w _) rfl
  clear h
  unfold opBox at *
  by_cases h1 : kd = 1
  · subst h1
    go_enter Tryz.func19, Tryz.ntmps19
    go_wp2_with fail
    refine (lsaid_any 1 k a b s t A _ xb bb rb gw cw L M hs ht (by exact HA.out.1)).mono ?_
    rintro e w1 ⟨rfl, hb, hR⟩
    have HR := hide (And.intro hb hR)
    clear hb hR o0 o1 o2 o3 o4 o5
    go_wp2
    go_ret
    exact ⟨rfl, HA.out.2.trans HR.out.1, HR.out.2⟩
  by_cases h2 : kd = 2
  · subst h2
    clear h1
    go_enter Tryz.func19, Tryz.ntmps19
    go_wp2_with fail
    refine (lleast_any s A _ xb bb rb gw cw L M hs (by exact HA.out.1)).mono ?_
    rintro e w1 ⟨rfl, hb, hR⟩
    have HR := hide (And.intro hb hR)
    clear hb hR o0 o1 o2 o3 o4 o5
    go_wp2
    go_ret
    exact ⟨rfl, HA.out.2.trans HR.out.1, HR.out.2⟩
  by_cases h4 : kd = 3
  · subst h4
    clear h1 h2
    go_enter Tryz.func19, Tryz.ntmps19
    go_wp2_with fail
    refine (lalike_any 3 k a b s t A _ xb bb rb gw cw L M hs ht (by exact HA.out.1)).mono ?_
    rintro e w1 ⟨rfl, hb, hR⟩
    have HR := hide (And.intro hb hR)
    clear hb hR o0 o1 o2 o3 o4 o5
    go_wp2
    go_ret
    exact ⟨rfl, HA.out.2.trans HR.out.1, HR.out.2⟩
  · have e1 : (kd == 1) = false := by simpa using h1
    have e2 : (kd == 2) = false := by simpa using h2
    have e3 : (kd == 3) = false := by simpa using h4
    have e4 : (kd == 4) = false := by simp; omega
    have e5 : (kd == 5) = false := by simp; omega
    have e6 : (kd == 6) = false := by simp; omega
    clear h1 h2 h4 h3
    go_enter Tryz.func19, Tryz.ntmps19
    go_wp2
    go_ret
    exact ⟨rfl, HA.out.2, HA.out.1⟩

theorem begun_bad (l m : Int) (w : World) (h : l < 1 ∨ 3 < l ∨ m < 1 ∨ 6 < m) :
    Calls Tryz.prog 18 #[.int .i64 l, .int .i64 m] w fun e w' => e = .returned (.tuple #[.pointer none, .bool true]) ∧ Below w.heap.size w w' := by
  go_enter Tryz.func18, Tryz.ntmps18
  go_wp2_with fail
  refine (pnew_bad l m _ h).mono ?_
  rintro e w1 ⟨rfl, rfl⟩
  go_wp2_with fail
  refine (new_bad l m _ h).mono ?_
  rintro e w1 ⟨rfl, rfl⟩
  go_wp2
  go_ret2
  exact ⟨rfl, Below.refl _ _⟩

theorem fin_nil (L M : Nat) : Hw.Fin L M [] [] := by
  refine ⟨?_, by simp, List.Pairwise.nil, ?_, by simp⟩
  · constructor <;> simp
  · intro a b ha; simp at ha

theorem cnt_nil {L M : Nat} (hL : L ≤ 3) (hM : M ≤ 6) : ([] : List Hw.Rl).length + Hw.cntIrr L M [] ≤ 1093 := by
  have := upTo_small hL hM
  have h2 : Hw.cntIrr L M [] ≤ (Hw.upTo L M).length := by unfold Hw.cntIrr; exact List.countP_le_length
  simp; omega

theorem book_new {w : World} {bb L M : Nat} (hL1 : 1 ≤ L) (hL3 : L ≤ 3) (hM1 : 1 ≤ M) (hM6 : M ≤ 6) (hb : w.heap[bb]? = some (bookBlock L M (.slice none 0 0) (.slice none 0 0))) (hm : ∃ m, w.cell? ⟨0, 0, none⟩ = some (.int .i64 m)) (hpos : 0 < bb) : BookR w bb L M (.slice none 0 0) [] [] := by
  have e : sdv w bb = .slice none 0 0 := sdv_of hb
  refine ⟨hL1, hL3, hM1, hM6, by simp, by rw [e]; exact hb, ?_, fin_nil L M, cnt_nil hL3 hM6, hm, hpos, by simp, Hw.ToIrr.nil, Hw.Rises.nil L, ?_⟩
  · exact World.ownsRow_nil _ _ _ _
  · rw [e]; exact World.ownsRow_nil _ _ _ _

theorem both_start {w w2 : World} {rb gw cw L M : Nat} {m : Int} (hL1 : 1 ≤ L) (hL3 : L ≤ 3) (hM1 : 1 ≤ M) (hM6 : M ≤ 6) (hm : w.cell? ⟨0, 0, none⟩ = some (.int .i64 m))
    (hb : Below (w.alloc (bookBlock L M (.slice none 0 0) (.slice none 0 0))).heap.size (w.alloc (bookBlock L M (.slice none 0 0) (.slice none 0 0))) w2) (h1 : (w.alloc (bookBlock L M (.slice none 0 0) (.slice none 0 0))).heap.size ≤ rb) (hR : RefR w2 rb gw cw L M (.slice none 0 0) (.slice none 0 0) [] [] false) :
    Below w.heap.size w (w2.alloc (.cells #[.pointer (some ⟨w.heap.size, 0, none⟩), .pointer (some ⟨rb, 0, none⟩)] 65 (0, 0))) ∧
    BothR (Up w.heap.size) (w2.alloc (.cells #[.pointer (some ⟨w.heap.size, 0, none⟩), .pointer (some ⟨rb, 0, none⟩)] 65 (0, 0))) w2.heap.size w.heap.size rb gw cw L M := by
  have hb0 := below_alloc w (bookBlock L M (.slice none 0 0) (.slice none 0 0))
  have hb2 := below_trans hb0 hb
  have hb3 := below_trans hb2 (below_alloc w2 (.cells #[.pointer (some ⟨w.heap.size, 0, none⟩), .pointer (some ⟨rb, 0, none⟩)] 65 (0, 0)))
  have hpos : 0 < w.heap.size := lt_of_cell hm
  have hsz := hb2.size
  have hbk : (w.alloc (bookBlock L M (.slice none 0 0) (.slice none 0 0))).heap[w.heap.size]? = some (bookBlock L M (.slice none 0 0) (.slice none 0 0)) := heap_alloc_new _ _
  simp at h1
  have hB : BookR w2 w.heap.size L M (.slice none 0 0) [] [] := by
    exact book_new hL1 hL3 hM1 hM6 ((hb.block _ (by simp)).trans hbk) ⟨m, (hb2.cell (p := ⟨0, 0, none⟩) hpos).trans hm⟩ hpos
  refine ⟨hb3, _, _, _, _, _, _, _, heap_alloc_new _ _, hB.same (below_alloc _ _), hR.kept (S := []) (Kept.of_below_size (below_alloc _ _)) (by simp), by unfold Up; omega, by unfold Up; omega, by unfold Up; omega, by simp [Value.ownBlock], fun k hk => by have := hb3.size; unfold Up; omega⟩

theorem begun_any (L M : Nat) (m : Int) (w : World) (hL1 : 1 ≤ L) (hL3 : L ≤ 3) (hM1 : 1 ≤ M) (hM6 : M ≤ 6) (hm : w.cell? ⟨0, 0, none⟩ = some (.int .i64 m)) :
    Calls Tryz.prog 18 #[.int .i64 L, .int .i64 M] w fun e w' => ∃ xb bb rb gw cw, e = .returned (.tuple #[.pointer (some ⟨xb, 0, none⟩), .bool true]) ∧ Below w.heap.size w w' ∧ BothR (Up w.heap.size) w' xb bb rb gw cw L M := by
  go_enter Tryz.func18, Tryz.ntmps18
  go_wp2_with fail
  refine (pnew_any L M _ hL1 hL3 hM1 hM6).mono ?_
  rintro e w1 ⟨rfl, rfl⟩
  go_wp2_with fail
  refine (new_any L M _ hL1 hL3 hM1 hM6).mono ?_
  rintro e w2 ⟨rb, gw, cw, rfl, hb, h1, h2, hR⟩
  have HS := hide (both_start hL1 hL3 hM1 hM6 hm hb h1 hR)
  clear hb h1 h2 hR
  go_wp2
  go_ret2
  exact ⟨_, _, _, _, _, rfl, HS.out⟩

/-- A script, as it lies. -/
def ScriptAt (w : World) (sv : Option Addr) (n cap : Nat) : Prop :=
  n ≤ maxLen ∧ ∀ i, i < n → ∃ a kd k x y s t, sv = some a ∧ w.cell? (a.add (i * 6)) = some (.int .i64 kd) ∧ w.cell? ⟨(a.add (i * 6)).block, (a.add (i * 6)).off + 1, none⟩ = some (.int .i64 k) ∧ w.cell? ⟨(a.add (i * 6)).block, (a.add (i * 6)).off + 2, none⟩ = some (.int .i64 x) ∧ w.cell? ⟨(a.add (i * 6)).block, (a.add (i * 6)).off + 3, none⟩ = some (.int .i64 y) ∧
    w.cell? ⟨(a.add (i * 6)).block, (a.add (i * 6)).off + 4, none⟩ = some (.string s) ∧ w.cell? ⟨(a.add (i * 6)).block, (a.add (i * 6)).off + 5, none⟩ = some (.string t) ∧ s.size ≤ maxLen ∧ t.size ≤ maxLen

theorem below_cell {B : Nat} {w w' : World} (h : Below B w w') (hB : w.heap.size = B) {p : Addr} {v : Value} (hp : w.cell? p = some v) : w'.cell? p = some v :=
  (h.cell (by have := World.block_lt_of_cell? w p hp; omega)).trans hp

theorem ScriptAt.below {w w' : World} {sv : Option Addr} {n cap : Nat} (h : ScriptAt w sv n cap) (hb : Below w.heap.size w w') : ScriptAt w' sv n cap := by
  refine ⟨h.1, fun i hi => ?_⟩
  obtain ⟨a, kd, k, x, y, s, t, rfl, h0, h1, h2, h3, h4, h5, h6, h7⟩ := h.2 i hi
  exact ⟨a, kd, k, x, y, s, t, rfl, below_cell hb rfl h0, below_cell hb rfl h1, below_cell hb rfl h2, below_cell hb rfl h3, below_cell hb rfl h4, below_cell hb rfl h5, h6, h7⟩

theorem below_drewN {B : Nat} {w : World} (h : B ≤ w.heap.size) (n : Nat) : Below B w (w.drewN n) := ((Kept.of_drewN [] w n).below (Nat.le_refl _) (by simp)).mono h

end Go.Proofs.YtfiebibpgbadlaaGreat
