import Derived.Test.YtfiebibpgbadlaaGreatProgU
namespace Go.Proofs.YtfiebibpgbadlaaGreat
open Go.RowKit
set_option linter.unusedVariables false
set_option linter.unusedSimpArgs false

theorem RefR.kept {w w' : World} {b gw cw L M : Nat} {saidV sameV : Value} {said : List (Hw.Wd × Hw.Wd)} {gs : List Nat} {fresh : Bool} {S : List Nat} (h : RefR w b gw cw L M saidV sameV said gs fresh) (hK : Kept S w w')
    (hS : ∀ k, k ∈ S → ∀ c t fr, w.heap[k]? = some (.cells c t fr) → t = 86) : RefR w' b gw cw L M saidV sameV said gs fresh := by
  have hnot : ∀ k c t fr, w.heap[k]? = some (.cells c t fr) → t ≠ 86 → k ∉ S := fun k c t fr h1 h2 hm => h2 (hS k hm c t fr h1)
  refine ⟨h.L1, h.L3, h.M1, h.M6, h.few, hK.at h.blk (hnot _ _ _ _ h.blk (by decide)), ?_, ?_, h.words, ?_⟩
  · obtain ⟨cur, hg, _⟩ := h.wrd
    exact h.wrd.kept hK (hnot _ _ _ _ hg (by decide))
  · refine h.sd.kept hK ?_ ?_
    · intro k hk e
      obtain ⟨cur, hc⟩ := h.own_type e
      exact hnot _ _ _ _ hc (by decide) hk
    · intro k hk c fr e
      exact hnot _ _ _ _ e (by decide) hk
  · intro hf
    obtain ⟨g, xs, h1, h2, h3⟩ := h.done hf
    exact ⟨g, xs, h1, hK.at h2 (hnot _ _ _ _ h2 (by decide)), h3⟩

theorem BookR.kept {w w' : World} {bb L M : Nat} {rv : Value} {said R : List Hw.Rl} {S : List Nat} (h : BookR w bb L M rv said R) (hK : Kept S w w') (h0 : 0 ∉ S) (hS : ∀ k, k ∈ S → ∀ c t fr, w.heap[k]? = some (.cells c t fr) → t ≠ 86 ∧ t ≠ 77 ∧ t ≠ 102) : BookR w' bb L M rv said R := by
  obtain ⟨m, hm⟩ := h.mx
  refine h.move (hK.block _ (lt_of_block h.blk) (fun hk => (hS _ hk _ _ _ h.blk).1 rfl)) (h.rul.kept hK ?_) (h.sad.kept hK (fun k hk c fr e => (hS k hk _ _ _ e).2.2 rfl)) ⟨m, hK.cell hm (by simpa using h0)⟩
  intro k hk e
  rcases h.rul.2 with ⟨h1, _⟩ | ⟨g, cap, cur, h1, _, hg, _⟩
  · rw [h1] at e; simp [Value.ownBlock] at e
  · rw [h1] at e; simp [Value.ownBlock] at e; subst e
    exact (hS _ hk _ _ _ hg).2.1 rfl

/-- But for the blocks of A, and for new ones, all is as it was. -/
structure BA (A : Nat → Prop) (w w' : World) : Prop where
  os : w'.os = w.os
  tape : w'.tape = w.tape
  output : w'.output = w.output
  size : w.heap.size ≤ w'.heap.size
  block : ∀ k, k < w.heap.size → ¬ A k → w'.heap[k]? = w.heap[k]?
theorem BA.trans {A : Nat → Prop} {a b c : World} (h : BA A a b) (k : BA A b c) : BA A a c :=
  ⟨k.os.trans h.os, k.tape.trans h.tape, k.output.trans h.output, Nat.le_trans h.size k.size, fun i hi hn => (k.block i (Nat.lt_of_lt_of_le hi h.size) hn).trans (h.block i hi hn)⟩
theorem BA.of_below {A : Nat → Prop} {w w' : World} (h : Below w.heap.size w w') : BA A w w' :=
  have hK := Kept.of_below_size (S := []) h
  ⟨hK.os, hK.tape, hK.output, hK.size, fun k hk _ => hK.block k hk (by simp)⟩
theorem BA.of_kept {A : Nat → Prop} {S : List Nat} {w w' : World} (h : Kept S w w') (hS : ∀ k, k ∈ S → A k) : BA A w w' :=
  ⟨h.os, h.tape, h.output, h.size, fun k hk hn => h.block k hk (fun hm => hn (hS k hm))⟩
/-- All blocks from one on. -/
def Up (B : Nat) : Nat → Prop := fun k => B ≤ k
theorem BA.up {B : Nat} {w w' : World} (h : BA (Up B) w w') (hB : B ≤ w.heap.size) : Below B w w' :=
  ⟨h.os, h.tape, h.output, h.size, fun k hk => h.block k (by omega) (by unfold Up; omega)⟩

/-- A Book of the program's beside the document's. -/
structure BothC (A : Nat → Prop) (w : World) (xb bb rb gw cw L M : Nat) (rv saidV sameV : Value) (said R : List Hw.Rl) (gs : List Nat) (fresh : Bool) : Prop where
  x : w.heap[xb]? = some (.cells #[.pointer (some ⟨bb, 0, none⟩), .pointer (some ⟨rb, 0, none⟩)] 65 (0, 0))
  book : BookR w bb L M rv said R
  ref : RefR w rb gw cw L M saidV sameV said gs fresh
  pos : ¬ A 0
  lob : A bb
  lor : A rb
  los : ∀ k, saidV.ownBlock = some k → A k
  up : ∀ k, w.heap.size ≤ k → A k

def BothR (A : Nat → Prop) (w : World) (xb bb rb gw cw L M : Nat) : Prop := ∃ rv saidV sameV said R gs fresh, BothC A w xb bb rb gw cw L M rv saidV sameV said R gs fresh

theorem BothC.below {A : Nat → Prop} {w w' : World} {xb bb rb gw cw L M : Nat} {rv saidV sameV : Value} {said R : List Hw.Rl} {gs : List Nat} {fresh : Bool} (h : BothC A w xb bb rb gw cw L M rv saidV sameV said R gs fresh) (hb : Below w.heap.size w w') : BothC A w' xb bb rb gw cw L M rv saidV sameV said R gs fresh :=
  ⟨(hb.block _ (lt_of_block h.x)).trans h.x, h.book.same hb, h.ref.kept (S := []) (Kept.of_below_size hb) (by simp), h.pos, h.lob, h.lor, h.los, fun k hk => h.up k (Nat.le_trans hb.size hk)⟩

/-- the document's Book moves, what is said stays. -/
theorem BothC.ref_step {A : Nat → Prop} {w w' : World} {xb bb rb gw cw L M : Nat} {rv saidV sameV sameV' : Value} {said R : List Hw.Rl} {gs : List Nat} {fresh fresh' : Bool} (h : BothC A w xb bb rb gw cw L M rv saidV sameV said R gs fresh) (hK : Kept [rb] w w') (hR : RefR w' rb gw cw L M saidV sameV' said gs fresh') :
    BothC A w' xb bb rb gw cw L M rv saidV sameV' said R gs fresh' ∧ BA A w w' := by
  have hr := h.ref.blk
  have n1 : xb ≠ rb := by rintro rfl; have := h.x; rw [hr] at this; simp [refBlock] at this
  refine ⟨⟨hK.at h.x (by simpa using n1), h.book.kept hK (by simp; rintro rfl; exact h.pos h.lor) ?_, hR, h.pos, h.lob, h.lor, h.los, fun k hk => h.up k (Nat.le_trans hK.size hk)⟩, BA.of_kept hK (by simp; exact h.lor)⟩
  simp only [List.mem_singleton]
  rintro k rfl c t fr e
  rw [hr] at e; simp [refBlock] at e
  rw [← e.2.1]; decide

theorem both_fin {A : Nat → Prop} {w w1 w2 : World} {xb bb rb gw cw L M : Nat} {rv saidV sameV sameV' : Value} {said R : List Hw.Rl} {gs : List Nat} {fresh fresh' : Bool} (h : BothC A w xb bb rb gw cw L M rv saidV sameV said R gs fresh) (hb : Below w.heap.size w w1) (hK : Kept [rb] w1 w2) (hR : RefR w2 rb gw cw L M saidV sameV' said gs fresh') :
    BA A w w2 ∧ BothR A w2 xb bb rb gw cw L M := by
  have h2 := (h.below hb).ref_step hK hR
  exact ⟨(BA.of_below hb).trans h2.2, _, _, _, _, _, _, _, h2.1⟩

set_option maxHeartbeats 1600000 in
theorem lleast_any (s : ByteArray) (A : Nat → Prop) (w : World) (xb bb rb gw cw L M : Nat) (hs : s.size ≤ maxLen) (h : BothR A w xb bb rb gw cw L M) :
    Calls Tryz.prog 20 #[.pointer (some ⟨xb, 0, none⟩), .string s] w fun e w' => e = .returned (.bool true) ∧ BA A w w' ∧ BothR A w' xb bb rb gw cw L M := by
  obtain ⟨rv, saidV, sameV, said, R, gs, fresh, hC⟩ := h
  have x0 : w.cell? ⟨xb, 0, none⟩ = some (.pointer (some ⟨bb, 0, none⟩)) := cellAt hC.x rfl
  have x1 : w.cell? ⟨xb, 1, none⟩ = some (.pointer (some ⟨rb, 0, none⟩)) := cellAt hC.x rfl
  have HC := hide hC
  clear hC
  go_enter Tryz.func20, Tryz.ntmps20
  go_wp2_with fail
  refine (pleast_any s _ bb L M rv said R hs (by exact HC.out.book)).mono ?_
  rintro e w1 ⟨m, c, rfl, hA, hb1⟩
  have y1 : w1.cell? ⟨xb, 1, none⟩ = some (.pointer (some ⟨rb, 0, none⟩)) := (hb1.cell (p := ⟨xb, 1, none⟩) (lt_of_cell x1)).trans x1
  have HB1 := hide hb1
  have HA := hide hA
  clear hb1 hA x0 x1
  go_wp2_with fail
  refine (refLeast_any s _ rb gw cw L M saidV sameV said gs fresh hs (by exact (HC.out.below HB1.out).ref)).mono ?_
  rintro e w2 ⟨m', c', rfl, hA', hK2, sameV', fresh', hR2⟩
  obtain ⟨rfl, rfl⟩ := HA.out.uniq HC.out.book.L3 hA'
  have HF := hide (both_fin HC.out HB1.out hK2 hR2)
  clear hK2 hR2 hA' y1
  go_wp2
  go_ret
  exact ⟨rfl, HF.out⟩
end Go.Proofs.YtfiebibpgbadlaaGreat
