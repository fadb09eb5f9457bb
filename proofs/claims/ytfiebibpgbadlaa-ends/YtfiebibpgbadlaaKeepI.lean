import Derived.Test.YtfiebibpgbadlaaKeepH
namespace Go.Proofs.Ytfiebibpgbadlaa
open Go.RowKit
set_option linter.unusedVariables false
set_option linter.unusedSimpArgs false

def nrow (ps : List Nat) : List Value := ps.map fun (n : Nat) => Value.int .i64 (n : Int)

/-- Places, and which rules, as they are gathered. -/
structure EndI (W wr : World) (pv qv : Value) (ps qs : List Nat) : Prop where
  below : Below W.heap.size W wr
  op : wr.ownsRow W.heap.size 3 1 pv ps.length (nrow ps)
  oq : wr.ownsRow W.heap.size 3 1 qv qs.length (nrow qs)
  ne : ∀ k, pv.ownBlock = some k → qv.ownBlock ≠ some k

theorem own_kept {w w' : World} {base : Nat} {t : TypeId} {sz : Nat} {v : Value} {n : Nat} {xs : List Value} {S : List Nat} (h : w.ownsRow base t sz v n xs) (hK : Kept S w w') (hn : ∀ k, k ∈ S → v.ownBlock ≠ some k) : w'.ownsRow base t sz v n xs := by
  refine ⟨h.1, ?_⟩
  rcases h.2 with h1 | ⟨g, cap, cur, rfl, hb, hg, r⟩
  · exact .inl h1
  · exact .inr ⟨g, cap, cur, rfl, hb, hK.at hg (fun hm => hn g hm rfl), r⟩
theorem own_lt {w : World} {base : Nat} {t : TypeId} {sz : Nat} {v : Value} {n : Nat} {xs : List Value} (h : w.ownsRow base t sz v n xs) {k : Nat} (hk : v.ownBlock = some k) : base ≤ k ∧ k < w.heap.size := by
  rcases h.2 with ⟨h1, _⟩ | ⟨g, cap, cur, h1, hb, hg, _⟩
  · rw [h1] at hk; simp [Value.ownBlock] at hk
  · rw [h1] at hk; simp [Value.ownBlock] at hk; subst hk; exact ⟨hb, lt_of_block hg⟩
theorem own_sh {w : World} {base : Nat} {t : TypeId} {sz : Nat} {v : Value} {n : Nat} {xs : List Value} (h : w.ownsRow base t sz v n xs) : ∃ sa cap, v = .slice sa n cap := by
  rcases h.2 with ⟨h1, h2⟩ | ⟨g, cap, cur, h1, _⟩
  · exact ⟨none, 0, by rw [h1, h2]⟩
  · exact ⟨_, _, h1⟩

theorem EndI.start (W : World) : EndI W W (.slice none 0 0) (.slice none 0 0) [] [] :=
  ⟨Below.refl _ _, World.ownsRow_nil _ _ _ _, World.ownsRow_nil _ _ _ _, by intro k hk; simp [Value.ownBlock] at hk⟩
theorem EndI.swap {W wr : World} {pv qv : Value} {ps qs : List Nat} (h : EndI W wr pv qv ps qs) : EndI W wr qv pv qs ps := ⟨h.below, h.oq, h.op, fun k h1 h2 => h.ne k h2 h1⟩
theorem EndI.grow {W wr wr' : World} {pv qv : Value} {ps qs : List Nat} (h : EndI W wr pv qv ps qs) (hb : Below wr.heap.size wr wr') : EndI W wr' pv qv ps qs :=
  ⟨below_trans h.below hb, own_kept h.op (S := []) (Kept.of_below_size hb) (by simp), own_kept h.oq (S := []) (Kept.of_below_size hb) (by simp), h.ne⟩

theorem EndI.add {W wr w0 w1 : World} {pv qv v' : Value} {ps qs : List Nat} {x : Nat} {o : Obj} (h : EndI W wr pv qv ps qs) (h0 : SameW (wr.alloc o) w0)
    (hown : w1.ownsRow W.heap.size 3 1 v' (ps.length + 1) (nrow ps ++ [.int .i64 (x : Int)])) (hgrow : w0.grownBy w1 pv.ownBlock) (hex : ∀ k, v'.ownBlock = some k → pv.ownBlock = some k ∨ w0.heap.size ≤ k) :
    EndI W w1 v' qv (ps ++ [x]) qs := by
  have hK : Kept pv.ownBlock.toList wr w1 := (((Kept.refl _ wr).alloc _).trans (h0.kept _)).trans (Kept.of_grown hgrow (fun k hk => by simp [hk]))
  have hw0 : w0.heap.size = wr.heap.size + 1 := by rw [h0.1]; simp
  refine ⟨h.below.trans (hK.below h.below.size (fun k hk => (own_lt h.op (by simpa using hk)).1)), ?_, own_kept h.oq hK (fun k hk => h.ne k (by simpa using hk)), ?_⟩
  · rw [show nrow (ps ++ [x]) = nrow ps ++ [.int .i64 (x : Int)] by simp [nrow], show (ps ++ [x]).length = ps.length + 1 by simp]
    exact hown
  · intro k hk hq
    rcases hex k hk with h1 | h1
    · exact h.ne k h1 hq
    · have := (own_lt h.oq hq).2; omega

theorem nrow_at {wr : World} {base : Nat} {v : Value} {ps : List Nat} (h : wr.ownsRow base 3 1 v ps.length (nrow ps)) {i : Nat} (hi : i < ps.length) : ∃ g cap, v = .slice (some ⟨g, 0, none⟩) ps.length cap ∧ wr.cell? ⟨g, i, none⟩ = some (.int .i64 ((ps[i] : Nat) : Int)) := by
  rcases h.2 with ⟨_, h2⟩ | ⟨g, cap, cur, h1, _, hg, hn, _, hsz, ht⟩
  · omega
  · refine ⟨g, cap, h1, ?_⟩
    rw [cell_of_row wr g i cur _ _ hg]
    have e : (cur.toList.take (ps.length * 1))[i]? = some (.int .i64 ((ps[i] : Nat) : Int)) := by
      rw [ht]; simp [nrow, hi]
    rw [List.getElem?_take, if_pos (by omega)] at e
    simpa using e

/-- one use of a rule. -/
theorem ends_step {w : World} {bb L M : Nat} {rv : Value} {said R l : List Hw.Rl} (hB : BookR w bb L M rv said R) (hl : Hw.RulesAns L M said l) {s want : Hw.Wd} (hs : Hw.isWord L M s = true) (hw : Hw.IsLeast L M said s want) {i x : Nat} (hi : i < l.length) (hx : AtI s (l[i]).1 x) :
    Hw.isWord L M (s.take x ++ (l[i]).2 ++ s.drop (x + (l[i]).1.length)) = true ∧ Hw.IsLeast L M said (s.take x ++ (l[i]).2 ++ s.drop (x + (l[i]).1.length)) want ∧ Hw.fold L (s.take x ++ (l[i]).2 ++ s.drop (x + (l[i]).1.length)) < Hw.fold L s := by
  have hr : l[i] ∈ R := (hB.fin.theRule hB.L1 hB.L3 hB.words hB.toirr _).2 ((hl.mem _).1 (List.getElem_mem hi))
  have hred : Hw.Red R s (s.take x ++ (l[i]).2 ++ s.drop (x + (l[i]).1.length)) := ⟨l[i], hr, _, _, hx.split, rfl⟩
  have hless := hred.less hB.L1 hB.L3 hB.fin.rules (Hw.isWord_ok hs)
  have hwd := Hw.isWord_of_le hB.L3 hless.1 hs (Nat.le_of_lt hless.2)
  have he := (Hw.Steps.one hred).eqv hB.L1 hB.L3 hB.fin.rules hB.fin.sound hs
  exact ⟨hwd, hw.of_same ((Hw.eqv_clo L M said).back _ _ he), hless.2⟩

theorem ends_end {w : World} {bb L M : Nat} {rv : Value} {said R l : List Hw.Rl} (hB : BookR w bb L M rv said R) (hl : Hw.RulesAns L M said l) {s want : Hw.Wd} (hs : Hw.isWord L M s = true) (hw : Hw.IsLeast L M said s want) (hn : ∀ i (h : i < l.length), ¬ Hw.Occ (l[i]).1 s) : s = want := by
  have hi : Hw.Irr R s := by
    intro r hr ho
    have : r ∈ l := (hl.mem r).2 ((hB.fin.theRule hB.L1 hB.L3 hB.words hB.toirr r).1 hr)
    obtain ⟨i, hi, rfl⟩ := List.getElem_of_mem this
    exact hn i hi ho
  exact ((hB.fin.irr_least hB.L1 hB.L3 hB.words hs).1 hi).uniq hB.L3 hw
theorem from_ne {w : World} {bb L M : Nat} {rv : Value} {said R l : List Hw.Rl} (hB : BookR w bb L M rv said R) (hl : Hw.RulesAns L M said l) {i : Nat} (hi : i < l.length) : (l[i]).1 ≠ [] := by
  have hr : l[i] ∈ R := (hB.fin.theRule hB.L1 hB.L3 hB.words hB.toirr _).2 ((hl.mem _).1 (List.getElem_mem hi))
  intro e
  have := hB.fin.rules.less _ hr
  rw [e] at this; simp [Hw.fold] at this
end Go.Proofs.Ytfiebibpgbadlaa
namespace Go.Proofs.Ytfiebibpgbadlaa
open Go.RowKit
set_option linter.unusedVariables false
set_option linter.unusedSimpArgs false

def foldV (L : Nat) : Value → Nat
  | .string b => Hw.fold L b.data.toList
  | _ => 0

/-- what stands at an outer round of Ends. -/
structure EndO (w W : World) (bb L M B : Nat) (rv ov : Value) (said R l : List Hw.Rl) (s want : Hw.Wd) (k : Nat) : Prop where
  kr : KRl w W bb L M B rv ov said R l
  word : Hw.isWord L M s = true
  least : Hw.IsLeast L M said s want
  sum : k + Hw.fold L s ≤ 2000
theorem EndO.grow {w W W' : World} {bb L M B : Nat} {rv ov : Value} {said R l : List Hw.Rl} {s want : Hw.Wd} {k : Nat} (h : EndO w W bb L M B rv ov said R l s want k) (hb : Below W.heap.size W W') : EndO w W' bb L M B rv ov said R l s want k := ⟨h.kr.grow hb, h.word, h.least, h.sum⟩

/-- what is gathered fits. -/
structure Fits (s : Hw.Wd) (l : List Hw.Rl) (ps qs : List Nat) : Prop where
  len : ps.length = qs.length
  at_ : ∀ j (h1 : j < ps.length) (h2 : j < qs.length), ∃ hi : qs[j] < l.length, AtI s (l[qs[j]]).1 ps[j]
theorem Fits.nil (s : Hw.Wd) (l : List Hw.Rl) : Fits s l [] [] := ⟨rfl, fun j h => by simp at h⟩
theorem Fits.more {s : Hw.Wd} {l : List Hw.Rl} {ps qs : List Nat} (h : Fits s l ps qs) {x i : Nat} (hi : i < l.length) (hx : AtI s (l[i]).1 x) : Fits s l (ps ++ [x]) (qs ++ [i]) := by
  refine ⟨by simp [h.len], fun j h1 h2 => ?_⟩
  by_cases hj : j < ps.length
  · have hj2 : j < qs.length := by rw [← h.len]; exact hj
    rw [List.getElem_append_left hj, List.getElem_append_left hj2]
    exact h.at_ j hj hj2
  · have e1 : j = ps.length := by simp at h1; omega
    have e2 : j = qs.length := by rw [← h.len]; exact e1
    have g1 : (ps ++ [x])[j] = x := by simp [e1]
    have g2 : (qs ++ [i])[j] = i := by simp [e2]
    rw [g1, g2]
    exact ⟨hi, hx⟩

theorem fold_small {L M : Nat} (hL3 : L ≤ 3) (hM6 : M ≤ 6) {s : Hw.Wd} (h : Hw.isWord L M s = true) : Hw.fold L s ≤ 1093 := by
  have := Hw.fold_lt_length hL3 h
  have := upTo_small hL3 hM6
  omega

theorem few_len {L M : Nat} (hL3 : L ≤ 3) (hM6 : M ≤ 6) {said l : List Hw.Rl} (h : FewM L M said l) : l.length ≤ 1093 := by
  have key : ∀ i (hi : i < l.length), i ≤ Hw.fold L (l[i]).1 := by
    intro i
    induction i with
    | zero => intro _; exact Nat.zero_le _
    | succ i ih =>
      intro hi
      have h1 := ih (by omega)
      have h2 := h.up i hi
      omega
  by_cases h0 : l.length = 0
  · omega
  · have h1 := key (l.length - 1) (by omega)
    have h2 := Hw.fold_lt_length hL3 (h.one (l.length - 1) (by omega)).1
    have h3 := upTo_small hL3 hM6
    omega

theorem at_is (s p : Hw.Wd) (F : Int) (f : Nat) (w : World) (hF : F = (f : Int)) (hs : s.length ≤ 6) (hp : p.length ≤ 6) (hf : f ≤ 7) :
    Calls Try.prog 22 #[.string ⟨s.toArray⟩, .string ⟨p.toArray⟩, .int .i64 F] w fun e w' => ∃ r n, e = .returned (.int .i64 r) ∧ AtR s p f r ∧ w' = w.drewN n := by
  subst hF; exact at_any s p f w hs hp hf

theorem own_drew {w : World} (n : Nat) : Below w.heap.size w (w.drewN n) := below_draw n

theorem newInt (w : World) (x : Nat) : ∀ j u, [Value.int .i64 (x : Int)][j]? = some u → (w.alloc (.cells #[.int .i64 (x : Int)] 3)).cell? ((⟨w.heap.size, 0, none⟩ : Addr).add j) = some u := by
  intro j u hj
  match j, hj with
  | 0, hj =>
    simp at hj; subst hj
    exact cell_of_row _ _ 0 _ _ _ (heap_alloc_new w (.cells #[.int .i64 (x : Int)] 3))

def muX (v : Value) : Nat := if intOf v < 0 then 0 else 8 - (intOf v).toNat

/-- while a rule's places are looked for. -/
structure EndX (wr wr2 : World) (pv qv : Value) (s f : Hw.Wd) (l : List Hw.Rl) (i : Nat) (r : Int) (fr : Nat) (ps qs : List Nat) : Prop where
  rows : EndI wr wr2 pv qv ps qs
  at_ : AtR s f fr r
  le : fr ≤ 7
  fits : Fits s l ps qs
  few : ps.length ≤ 8 * i + fr
  no : ps = [] → fr = 0 ∧ ∀ j (h : j < l.length), j < i → ¬ Hw.Occ (l[j]).1 s

theorem EndX.end {wr wr2 : World} {pv qv : Value} {s f : Hw.Wd} {l : List Hw.Rl} {i : Nat} {r : Int} {fr : Nat} {ps qs : List Nat} (h : EndX wr wr2 pv qv s f l i r fr ps qs) (hi : i < l.length) (hf : (l[i]).1 = f) (hr : r < 0) :
    ps.length ≤ 8 * (i + 1) ∧ (ps = [] → ∀ j (h : j < l.length), j < i + 1 → ¬ Hw.Occ (l[j]).1 s) := by
  refine ⟨by have := h.few; have := h.le; omega, fun hp j hj hji => ?_⟩
  obtain ⟨h0, h1⟩ := h.no hp
  rcases Nat.lt_or_ge j i with h' | h'
  · exact h1 j hj h'
  · have : j = i := by omega
    subst this
    have hA := h.at_
    rw [h0] at hA
    rw [hf]
    exact fun ho => absurd ((atR_occ hA).2 ho) (by omega)

theorem EndX.next {wr wr2 w6 : World} {pv qv pv' qv' : Value} {s f : Hw.Wd} {l : List Hw.Rl} {i fr x : Nat} {r r' : Int} {ps qs : List Nat} (h : EndX wr wr2 pv qv s f l i r fr ps qs) (hi : i < l.length) (hf : (l[i]).1 = f) (hne : f ≠ []) (hs : s.length ≤ 6) (hfx : fr ≤ x) (hx : AtI s f x) (hE : EndI wr w6 pv' qv' (ps ++ [x]) (qs ++ [i])) (hA : AtR s f (x + 1) r') :
    EndX wr w6 pv' qv' s f l i r' (x + 1) (ps ++ [x]) (qs ++ [i]) ∧ muX (.int .i64 r') < muX (.int .i64 (x : Int)) := by
  have hl := List.length_pos_iff.2 hne
  have hx1 := hx.1
  refine ⟨⟨hE, hA, by omega, h.fits.more hi (by rw [hf]; exact hx), by have := h.few; simp; omega, by simp⟩, ?_⟩
  have ex : muX (.int .i64 (x : Int)) = 8 - x := by
    unfold muX
    rw [if_neg (by simp [intOf])]
    simp [intOf]
  rw [ex]
  unfold muX
  rcases hA with ⟨rfl, _⟩ | ⟨y, rfl, hy, hyA, _⟩
  · rw [if_pos (by simp [intOf])]; omega
  · have hy1 := hyA.1
    have e1 : ¬ (intOf (.int .i64 (y : Int)) < 0) := by simp [intOf]
    rw [if_neg e1]
    simp [intOf]; omega

set_option maxRecDepth 2000 in
set_option maxHeartbeats 3200000 in
theorem ends_any (HP : RulesC) (HQ : CountC) (lt mo start : Int) (sv ws : Option Addr) (cap wcap : Nat) (cs vs : List Int) (m : Int) (w : World) (hl : -9223372036854775808 ≤ lt ∧ lt ≤ 9223372036854775807) (ho : -9223372036854775808 ≤ mo ∧ mo ≤ 9223372036854775807) (hst : -9223372036854775808 ≤ start ∧ start ≤ 9223372036854775807) (hm : w.cell? ⟨0, 0, none⟩ = some (.int .i64 m)) (hS : PutsAt w sv cs) (hV : PutsAt w ws vs) :
    Calls Try.prog 7 #[.agg #[.int .i64 lt, .int .i64 mo, .slice sv cs.length cap], .int .i64 start, .slice ws vs.length wcap] w fun e w' => KTrue w e w' := by
  have hp1 := pickN_lt lt (n := 3) (by omega)
  have hp2 := pickN_lt mo (n := 6) (by omega)
  have o0 : (w.alloc (putBox lt mo sv cs.length cap)).cell? ⟨w.heap.size, 0, none⟩ = some (.int .i64 lt) := cellAt (heap_alloc_new w _) rfl
  have o1 : (w.alloc (putBox lt mo sv cs.length cap)).cell? ⟨w.heap.size, 1, none⟩ = some (.int .i64 mo) := cellAt (heap_alloc_new w _) rfl
  have o2 : (w.alloc (putBox lt mo sv cs.length cap)).cell? ⟨w.heap.size, 2, none⟩ = some (.slice sv cs.length cap) := cellAt (heap_alloc_new w _) rfl
  have hmb : (w.alloc (putBox lt mo sv cs.length cap)).cell? ⟨0, 0, none⟩ = some (.int .i64 m) := ((Kept.refl [] w).alloc _).cell hm (by simp)
  have HB0 := hide (below_alloc w (putBox lt mo sv cs.length cap))
  have HPA := hide (hS.below HB0.out)
  unfold putBox at o0 o1 o2 hmb HB0 HPA
  have h_lt := hide hl
  have h_mo := hide ho
  have H1 := hide hst
  have HV := hide hV
  have hvl := hV.1
  unfold maxLen at hvl
  clear hl ho hst hV hS
  obtain ⟨L, hL⟩ : ∃ L, 1 + pickN lt 3 = L := ⟨_, rfl⟩
  obtain ⟨M, hM⟩ : ∃ M, 1 + pickN mo 6 = M := ⟨_, rfl⟩
  have hL1 : 1 ≤ L := by omega
  have hL3 : L ≤ 3 := by omega
  have hM6 : M ≤ 6 := by omega
  have HL := hide hL
  have HM := hide hM
  clear hp1 hp2 hL hM
  go_enter Try.func7, Try.ntmps7
  go_wp2_with fail
  refine (kput_any HP HQ lt mo sv cap cs m _ h_lt.out.1 h_lt.out.2 h_mo.out.1 h_mo.out.2 (by exact hmb) (by exact HPA.out)).mono ?_
  rintro e w1 hK
  rw [HL.out, HM.out] at hK
  obtain ⟨bb, rv, R, rfl, _, hb1, hB1⟩ := hK
  generalize saidOf cs L M 12 = said at *
  have HBk : Hid (KBk w w1 bb L M rv said R) := ⟨below_trans HB0.out hb1, hB1⟩
  clear hb1 hB1 o0 o1 o2 hmb HPA HB0
  go_wp2_with fail
  refine (HP _ bb L M rv _ R (by exact HBk.out.book)).mono ?_
  rintro e w2 ⟨l, ov, rfl, hA, hLL, hb2⟩
  obtain ⟨sa, cap2, rfl⟩ := hLL.shape
  have H0 : Hid (KRl w w2 bb L M w1.heap.size rv (.slice sa l.length cap2) said R l) := ⟨HBk.out.grow hb2, hLL⟩
  have hF := few_math HBk.out.book hA
  have hlen : l.length ≤ 1093 := few_len hL3 hM6 hF
  have HA := hide hA
  have HF := hide hF
  clear hA hb2 hLL hF HBk
  go_wp2_with fail
  refine (word_any start L M _ H1.out.1 H1.out.2 hL1 hL3 hM6).mono ?_
  rintro e w3 ⟨rfl, n3, rfl⟩
  have hsw := wordV_word (M := M) start hL1 hL3
  generalize wordV start L M = s0 at *
  have HSW := hide hsw
  clear hsw
  go_wp2_with fail
  refine (bleast s0 _ bb L M rv said R HSW.out (by exact (H0.out.drewN _).bk.book)).mono ?_
  rintro e w4 ⟨want, rfl, hW, hb4⟩
  have HE : Hid (EndO w w4 bb L M w1.heap.size rv (.slice sa l.length cap2) said R l s0 want 0) := ⟨(H0.out.drewN _).grow hb4, HSW.out, hW, by have := fold_small hL3 hM6 HSW.out; omega⟩
  clear hW hb4 H0 HSW
  go_wp2_with fail
  go_loopw [11, 14] (fun sv kv wr => ∃ (s : Hw.Wd) (k : Nat), sv = .string ⟨s.toArray⟩ ∧ kv = .int .i64 (k : Int) ∧ EndO w wr bb L M w1.heap.size rv (.slice sa l.length cap2) said R l s want k) (fun sv _ _ => foldV L sv)
  case atStart => exact ⟨s0, 0, rfl, rfl, HE.out⟩
  case round =>
    clear HE
    obtain ⟨s, k, rfl, rfl, hE⟩ := hrel
    have HE := hide hE
    clear hE
    obtain ⟨WW, rfl⟩ : ∃ WW, WW = wr := ⟨wr, rfl⟩
    go_wp2_with fail
    go_loopw [15, 16, 17] (fun pv qv iv wr' => ∃ (i : Nat) (ps qs : List Nat), i ≤ l.length ∧ iv = .int .i64 (i : Int) ∧ EndI WW wr' pv qv ps qs ∧ Fits s l ps qs ∧ ps.length ≤ 8 * i ∧ (ps = [] → ∀ j (h : j < l.length), j < i → ¬ Hw.Occ (l[j]).1 s)) (fun _ _ iv _ => l.length - (intOf iv).toNat)
    case atStart => exact ⟨0, [], [], Nat.zero_le _, rfl, EndI.start _, Fits.nil _ _, Nat.le_refl _, fun _ j _ h => by omega⟩
    case round =>
      obtain ⟨i, ps, qs, hi, rfl, hI, hFt, hpl, hno⟩ := hrel
      by_cases hlt : i < l.length
      · obtain ⟨g1, cap1, cur1, hrv1, _, _, d0, d1⟩ := (HE.out.kr.grow hI.below).rows.read (i := i) hlt
        simp only [Value.slice.injEq] at hrv1
        obtain ⟨rfl, -, rfl⟩ := hrv1
        have hs6 : s.length ≤ 6 := by have := Hw.isWord_len HE.out.word; omega
        have hf6 : (l[i]).1.length ≤ 6 := by have := Hw.isWord_len (HF.out.one i hlt).1; omega
        have hne := from_ne HE.out.kr.bk.book HA.out hlt
        obtain ⟨f1, hf1⟩ : ∃ f, (l[i]).1 = f := ⟨_, rfl⟩
        rw [hf1] at d0 hf6 hne
        have HF1 := hide hf1
        have HI := hide hI
        have HFT := hide hFt
        have HNO := hide hno
        clear hf1 d1 hI hFt hno
        go_wp2_with fail
        refine (at_is s f1 _ 0 _ rfl hs6 hf6 (by omega)).mono ?_
        rintro e wa ⟨r, na, rfl, hAt, rfl⟩
        have HX : Hid (EndX WW (wr.drewN na) u15 u16 s f1 l i r 0 ps qs) := ⟨HI.out.grow (below_draw na), hAt, by omega, HFT.out, by omega, fun h => ⟨rfl, HNO.out h⟩⟩
        clear hAt HI HFT HNO
        go_wp2_with fail
        go_loopw [15, 16, 18] (fun pv qv xv wr2 => ∃ (r : Int) (fr : Nat) (ps qs : List Nat), xv = .int .i64 r ∧ EndX WW wr2 pv qv s f1 l i r fr ps qs) (fun _ _ xv _ => muX xv)
        case atStart => exact ⟨r, 0, ps, qs, rfl, HX.out⟩
        case round =>
          clear HX d0
          obtain ⟨r, fr, ps, qs, rfl, hX⟩ := hrel
          obtain ⟨g2, cap3, cur2, hrv2, _, _, d0, d1⟩ := (HE.out.kr.grow hX.rows.below).rows.read (i := i) hlt
          simp only [Value.slice.injEq, Option.some.injEq, Addr.mk.injEq] at hrv2
          obtain ⟨⟨rfl, -, -⟩, -, -⟩ := hrv2
          rw [HF1.out] at d0
          have HX := hide hX
          rcases hX.at_ with ⟨rfl, _⟩ | ⟨x, rfl, hfx, hxA, _⟩
          · have HEN := hide (hX.end hlt HF1.out (by omega))
            clear hX d1
            go_wp2
            go_roundw
            case rel => exact ⟨i + 1, ps, qs, by omega, by go_num, HX.out.rows, HX.out.fits, HEN.out.1, HEN.out.2⟩
            case measure => simp [intOf]; omega
          · obtain ⟨sap, capp, hpv⟩ := own_sh hX.rows.op
            subst hpv
            have hfew := hX.few
            have hle7 := hX.le
            have HOP := hide hX.rows.op
            have hbs := hX.rows.below.size
            clear hX d1
            have hfb : (f1 == ([] : Hw.Wd)) = false := by simpa using hne
            obtain ⟨i0, hi0, hz0, hz1, hz2⟩ := info_parts Try.info3
            have HI0 := hide hi0
            have HZ0 := hide hz0
            have HZ1 := hide hz1
            have HZ2 := hide hz2
            clear hi0 hz0 hz1 hz2
            go_wp2_with (at_builtin; refine wpList_append_exact _ rfl (.tmp 76) (.tmp 78) 44 rfl WW.heap.size 3 i0 (.int .i64 0) 1 8 Try.underlying44 HI0.out HZ0.out HZ1.out HZ2.out rfl (by decide) (.slice sap ps.length capp) ps.length (nrow ps) rfl ?c1 ⟨wr.heap.size, 0, none⟩ 1 1 [.int .i64 (x : Int)] rfl rfl ?c2 ?c3 ?c4 ?c5 ?c6 ?_)
            case c1 => exact HOP.out.alloc _
            case c2 => exact newInt wr x
            case c3 => intro u hu; simp at hu; subst hu; rfl
            case c4 => unfold maxLen; omega
            case c5 => omega
            case c6 => simp; omega
            intro v1 w5 hown hgrow hex
            have hE1 := HX.out.rows.add (by exact ⟨rfl, rfl, rfl, rfl⟩) hown hgrow (by simpa using hex)
            obtain ⟨gp, cp, rfl⟩ := own_shape hown
            obtain ⟨saq, capq, hqv⟩ := own_sh hE1.oq
            subst hqv
            have hlq : qs.length ≤ 8 * i + fr := by rw [← HX.out.fits.len]; exact hfew
            have HE1 := hide hE1
            have HOQ := hide hE1.oq
            have hbs5 := hE1.below.size
            clear hown hgrow hex hE1 hfb d0
            go_wp2_with (at_builtin; refine wpList_append_exact _ rfl (.tmp 80) (.tmp 82) 44 rfl WW.heap.size 3 i0 (.int .i64 0) 1 8 Try.underlying44 HI0.out HZ0.out HZ1.out HZ2.out rfl (by decide) (.slice saq qs.length capq) qs.length (nrow qs) rfl ?c1 ⟨w5.heap.size, 0, none⟩ 1 1 [.int .i64 (i : Int)] rfl rfl ?c2 ?c3 ?c4 ?c5 ?c6 ?_)
            case c1 => exact HOQ.out.alloc _
            case c2 => exact newInt w5 i
            case c3 => intro u hu; simp at hu; subst hu; rfl
            case c4 => unfold maxLen; omega
            case c5 => omega
            case c6 => simp; omega
            intro v2 w6 hown hgrow hex
            have hE2 := (HE1.out.swap.add (by exact ⟨rfl, rfl, rfl, rfl⟩) hown hgrow (by simpa using hex)).swap
            obtain ⟨gq, cq, rfl⟩ := own_shape hown
            have HE2 := hide hE2
            obtain ⟨g3, cap4, cur3, hrv3, _, _, d0, d1⟩ := (HE.out.kr.grow hE2.below).rows.read (i := i) hlt
            simp only [Value.slice.injEq, Option.some.injEq, Addr.mk.injEq] at hrv3
            obtain ⟨⟨rfl, -, -⟩, -, -⟩ := hrv3
            rw [HF1.out] at d0
            have hxl : x ≤ 6 := by have := hxA.1; omega
            clear hown hgrow hex hE2 d1 HE1 HOQ HOP
            have hxA' := hide hxA
            have hln := List.length_pos_iff.2 hne
            have hx5 : x + 1 ≤ 6 := by have := hxA.1; omega
            clear hxA
            go_wp2_with fail
            refine (at_is s f1 _ (x + 1) _ (by simp) hs6 hf6 (by omega)).mono ?_
            rintro e w7 ⟨r', n7, rfl, hA7, rfl⟩
            have HN := hide (HX.out.next hlt HF1.out hne hs6 hfx hxA'.out (HE2.out.grow (below_draw n7)) hA7)
            clear hA7 d0
            go_wp2
            go_roundw
            case rel => exact ⟨r', x + 1, _, _, rfl, HN.out.1⟩
            case measure => exact HN.out.2
      · have hil : i = l.length := by omega
        obtain ⟨saq, capq, hqv⟩ := own_sh hI.oq
        subst hqv
        have HI := hide hI
        have HFT := hide hFt
        by_cases hp0 : ps = []
        · have hq0 : qs.length = 0 := by rw [← hFt.len, hp0]; rfl
          have hsw := ends_end HE.out.kr.bk.book HA.out HE.out.word HE.out.least (fun j hj => hno hp0 j hj (by omega))
          subst hsw
          clear hI hFt hno hp0
          go_wp2
          go_ret
          exact ⟨by simp, HE.out.kr.bk.below.trans (HI.out.below.mono HE.out.kr.bk.below.size)⟩
        · have hq1 : 1 ≤ qs.length := by
            rw [← hFt.len]
            exact List.length_pos_iff.2 hp0
          have hqb : qs.length ≤ 10000 := by rw [← hFt.len]; omega
          have hqz : ((qs.length : Int) == 0) = false := by rw [beq_eq_false_iff_ne]; omega
          obtain ⟨sap, capp, hpv⟩ := own_sh hI.op
          subst hpv
          have HHH := hide (HV.out.below (HE.out.kr.bk.below.trans (HI.out.below.mono HE.out.kr.bk.below.size)))
          clear hI hFt hno hp0
          by_cases hkv : k < vs.length
          · obtain ⟨⟨hc1, hc2⟩, a, rfl, ca⟩ := HHH.out.2 k hkv
            generalize vs[k] = c at *
            go_wp2_with fail
            refine (pick_is c _ qs.length _ rfl hc1 hc2 hq1 (by omega)).mono ?_
            rintro e w8 ⟨rfl, hw8⟩
            obtain rfl := hw8.symm
            have hnl := pickN_lt c (n := qs.length) hq1
            generalize pickN c qs.length = n' at *
            clear ca
            have hpl' : n' < ps.length := by rw [HFT.out.len]; exact hnl
            obtain ⟨gq, cq, hgq, cqq⟩ := nrow_at HI.out.oq hnl
            simp only [Value.slice.injEq] at hgq
            obtain ⟨rfl, -, rfl⟩ := hgq
            obtain ⟨gp, cp, hgp, cpp⟩ := nrow_at HI.out.op hpl'
            simp only [Value.slice.injEq] at hgp
            obtain ⟨rfl, -, rfl⟩ := hgp
            obtain ⟨hii, hAt⟩ := HFT.out.at_ n' hpl' hnl
            generalize qs[n'] = ii at *
            generalize ps[n'] = xx at *
            obtain ⟨g1, cap1, cur1, hrv1, _, _, d0, d1⟩ := (HE.out.kr.grow HI.out.below).rows.read (i := ii) hii
            simp only [Value.slice.injEq] at hrv1
            obtain ⟨rfl, -, rfl⟩ := hrv1
            have HST := hide (ends_step HE.out.kr.bk.book HA.out HE.out.word HE.out.least hii hAt)
            have hf6 : (l[ii]).1.length ≤ 6 := by have := Hw.isWord_len (HF.out.one ii hii).1; omega
            have ht6 : (l[ii]).2.length ≤ 6 := by have := Hw.isWord_len (HF.out.one ii hii).2.1; omega
            have hs6 : s.length ≤ 6 := by have := Hw.isWord_len HE.out.word; omega
            have hA1 := hAt.1
            generalize (l[ii]).1 = f1 at *
            generalize (l[ii]).2 = t1 at *
            obtain ⟨yy, hyy⟩ : ∃ y, xx + f1.length = y := ⟨_, rfl⟩
            rw [hyy] at HST hA1
            have eyy : (xx : Int) + (f1.length : Int) = (yy : Int) := by omega
            have hx1 := ext_eq s 0 xx
            have hx2 := ext_eq s yy s.length
            rw [List.drop_zero] at hx1
            rw [List.take_of_length_le (Nat.le_refl _)] at hx2
            have hxx : xx ≤ s.length := by omega
            have hadd1 : ¬ (9223372036854775807 < xx + t1.length) := by omega
            have hadd2 : ¬ (9223372036854775807 < xx + t1.length + (s.length - yy)) := by omega
            clear hAt hyy
            go_wp2_with fail
            have cpa : ∀ o, (wr.alloc o).cell? ⟨gp, n', none⟩ = some (.int .i64 (xx : Int)) := fun o => ((Kept.refl [] wr).alloc o).cell cpp (by simp)
            go_quiet (fail)
            go_wp2_with fail
            rw [cat3]
            refine (less_yes (s.take xx ++ t1 ++ s.drop yy) s L M _ hL1 hL3 hM6 HST.out.1 HE.out.word HST.out.2.2).mono ?_
            rintro e w9 ⟨rfl, hw9⟩
            have HN : Hid (EndO w w9 bb L M w1.heap.size rv (.slice (some ⟨g1, 0, none⟩) l.length cap2) said R l (s.take xx ++ t1 ++ s.drop yy) want (k + 1)) := by
              rw [hw9]
              exact ⟨((HE.out.kr.grow HI.out.below).grow (below_alloc _ _)).grow (below_draw _), HST.out.1, HST.out.2.1, by have := HE.out.sum; have := HST.out.2.2; omega⟩
            have hk2 := HE.out.sum
            have HMS : Hid (foldV L (.string ⟨(s.take xx ++ t1 ++ s.drop yy).toArray⟩) < foldV L (.string ⟨s.toArray⟩)) := by
              show Hw.fold L (⟨(s.take xx ++ t1 ++ s.drop yy).toArray⟩ : ByteArray).data.toList < Hw.fold L (⟨s.toArray⟩ : ByteArray).data.toList
              have e1 : (⟨(s.take xx ++ t1 ++ s.drop yy).toArray⟩ : ByteArray).data.toList = s.take xx ++ t1 ++ s.drop yy := by simp
              have e2 : (⟨s.toArray⟩ : ByteArray).data.toList = s := by simp
              rw [e1, e2]; exact HST.out.2.2
            clear hw9 hx1 hx2 cpa cpp cqq d0 d1
            generalize s.take xx ++ t1 ++ s.drop yy = nx at *
            go_wp2
            go_roundw
            case rel => exact ⟨nx, k + 1, rfl, by go_num, HN.out⟩
            case measure => exact HMS.out
          · have hnl : 0 < qs.length := hq1
            have hpl' : 0 < ps.length := by rw [HFT.out.len]; exact hnl
            obtain ⟨gq, cq, hgq, cqq⟩ := nrow_at HI.out.oq hnl
            simp only [Value.slice.injEq] at hgq
            obtain ⟨rfl, -, rfl⟩ := hgq
            obtain ⟨gp, cp, hgp, cpp⟩ := nrow_at HI.out.op hpl'
            simp only [Value.slice.injEq] at hgp
            obtain ⟨rfl, -, rfl⟩ := hgp
            obtain ⟨hii, hAt⟩ := HFT.out.at_ 0 hpl' hnl
            generalize qs[0] = ii at *
            generalize ps[0] = xx at *
            obtain ⟨g1, cap1, cur1, hrv1, _, _, d0, d1⟩ := (HE.out.kr.grow HI.out.below).rows.read (i := ii) hii
            simp only [Value.slice.injEq] at hrv1
            obtain ⟨rfl, -, rfl⟩ := hrv1
            have HST := hide (ends_step HE.out.kr.bk.book HA.out HE.out.word HE.out.least hii hAt)
            have hf6 : (l[ii]).1.length ≤ 6 := by have := Hw.isWord_len (HF.out.one ii hii).1; omega
            have ht6 : (l[ii]).2.length ≤ 6 := by have := Hw.isWord_len (HF.out.one ii hii).2.1; omega
            have hs6 : s.length ≤ 6 := by have := Hw.isWord_len HE.out.word; omega
            have hA1 := hAt.1
            generalize (l[ii]).1 = f1 at *
            generalize (l[ii]).2 = t1 at *
            obtain ⟨yy, hyy⟩ : ∃ y, xx + f1.length = y := ⟨_, rfl⟩
            rw [hyy] at HST hA1
            have eyy : (xx : Int) + (f1.length : Int) = (yy : Int) := by omega
            have hx1 := ext_eq s 0 xx
            have hx2 := ext_eq s yy s.length
            rw [List.drop_zero] at hx1
            rw [List.take_of_length_le (Nat.le_refl _)] at hx2
            have hxx : xx ≤ s.length := by omega
            have hadd1 : ¬ (9223372036854775807 < xx + t1.length) := by omega
            have hadd2 : ¬ (9223372036854775807 < xx + t1.length + (s.length - yy)) := by omega
            clear hAt hyy
            go_wp2_with fail
            have cpa : ∀ o, (wr.alloc o).cell? ⟨gp, 0, none⟩ = some (.int .i64 (xx : Int)) := fun o => ((Kept.refl [] wr).alloc o).cell cpp (by simp)
            go_quiet (fail)
            go_wp2_with fail
            rw [cat3]
            refine (less_yes (s.take xx ++ t1 ++ s.drop yy) s L M _ hL1 hL3 hM6 HST.out.1 HE.out.word HST.out.2.2).mono ?_
            rintro e w9 ⟨rfl, hw9⟩
            have HN : Hid (EndO w w9 bb L M w1.heap.size rv (.slice (some ⟨g1, 0, none⟩) l.length cap2) said R l (s.take xx ++ t1 ++ s.drop yy) want (k + 1)) := by
              rw [hw9]
              exact ⟨((HE.out.kr.grow HI.out.below).grow (below_alloc _ _)).grow (below_draw _), HST.out.1, HST.out.2.1, by have := HE.out.sum; have := HST.out.2.2; omega⟩
            have hk2 := HE.out.sum
            have HMS : Hid (foldV L (.string ⟨(s.take xx ++ t1 ++ s.drop yy).toArray⟩) < foldV L (.string ⟨s.toArray⟩)) := by
              show Hw.fold L (⟨(s.take xx ++ t1 ++ s.drop yy).toArray⟩ : ByteArray).data.toList < Hw.fold L (⟨s.toArray⟩ : ByteArray).data.toList
              have e1 : (⟨(s.take xx ++ t1 ++ s.drop yy).toArray⟩ : ByteArray).data.toList = s.take xx ++ t1 ++ s.drop yy := by simp
              have e2 : (⟨s.toArray⟩ : ByteArray).data.toList = s := by simp
              rw [e1, e2]; exact HST.out.2.2
            clear hw9 hx1 hx2 cpa cpp cqq d0 d1
            generalize s.take xx ++ t1 ++ s.drop yy = nx at *
            go_wp2
            go_roundw
            case rel => exact ⟨nx, k + 1, rfl, by go_num, HN.out⟩
            case measure => exact HMS.out
end Go.Proofs.Ytfiebibpgbadlaa
