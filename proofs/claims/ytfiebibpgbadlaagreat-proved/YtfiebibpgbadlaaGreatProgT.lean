import Derived.Test.YtfiebibpgbadlaaGreatProgR
import Derived.Test.YtfiebibpgbadlaaGreatCat
namespace Go.Proofs.YtfiebibpgbadlaaGreat
open Go.RowKit
set_option linter.unusedVariables false
set_option linter.unusedSimpArgs false

/-- what is said, as a Book keeps it. -/
def sdv (w : World) (bb : Nat) : Value := (w.cell? ⟨bb, 2, none⟩).getD (.slice none 0 0)
theorem sdv_of {w : World} {bb L M : Nat} {sv rv : Value} (h : w.heap[bb]? = some (bookBlock L M sv rv)) : sdv w bb = sv := by
  have : w.cell? ⟨bb, 2, none⟩ = some sv := cellAt h rfl
  simp [sdv, this]
theorem sdv_same {w w' : World} {bb : Nat} (h : w'.heap[bb]? = w.heap[bb]?) : sdv w' bb = sdv w bb := by
  unfold sdv
  rw [World.cell?_of_block (w := w) (a := ⟨bb, 2, none⟩) h]

/-- A Book of the program's, whole. -/
structure BookR (w : World) (bb L M : Nat) (rv : Value) (said R : List Hw.Rl) : Prop where
  L1 : 1 ≤ L
  L3 : L ≤ 3
  M1 : 1 ≤ M
  M6 : M ≤ 6
  few : said.length ≤ 12
  blk : w.heap[bb]? = some (bookBlock L M (sdv w bb) rv)
  rul : RulesAt w 0 rv R
  fin : Hw.Fin L M said R
  cnt : R.length + Hw.cntIrr L M R ≤ 1093
  mx : ∃ m, w.cell? ⟨0, 0, none⟩ = some (.int .i64 m)
  pos : 0 < bb
  words : ∀ p, p ∈ said → Hw.isWord L M p.1 = true ∧ Hw.isWord L M p.2 = true
  toirr : Hw.ToIrr R
  srt : Hw.Rises L R
  sad : PairsAt w 0 (sdv w bb) said

theorem BookR.move {w w' : World} {bb L M : Nat} {rv : Value} {said R : List Hw.Rl} (h : BookR w bb L M rv said R) (hb : w'.heap[bb]? = w.heap[bb]?) (hr : RulesAt w' 0 rv R) (hs : PairsAt w' 0 (sdv w bb) said) (hm : ∃ m, w'.cell? ⟨0, 0, none⟩ = some (.int .i64 m)) : BookR w' bb L M rv said R := by
  have e := sdv_same hb
  exact ⟨h.L1, h.L3, h.M1, h.M6, h.few, by rw [e, hb]; exact h.blk, hr, h.fin, h.cnt, hm, h.pos, h.words, h.toirr, h.srt, by rw [e]; exact hs⟩

theorem BookR.same {w w' : World} {bb L M : Nat} {rv : Value} {said R : List Hw.Rl} (h : BookR w bb L M rv said R) (hb : Below w.heap.size w w') : BookR w' bb L M rv said R := by
  obtain ⟨m, hm⟩ := h.mx
  exact h.move (hb.block _ (lt_of_block h.blk)) (h.rul.kept (S := []) (Kept.of_below_size hb) (by simp)) (h.sad.kept (S := []) (Kept.of_below_size hb) (by simp)) ⟨m, (hb.cell (p := ⟨0, 0, none⟩) (lt_of_cell hm)).trans hm⟩

theorem below_same {w w' : World} (h : SameW w w') : Below w.heap.size w w' := (h.kept []).below (Nat.le_refl _) (by simp)
theorem a_same (w : World) : SameW w w.drew := ⟨rfl, rfl, rfl, rfl⟩
theorem below_trans {a b c : World} (h : Below a.heap.size a b) (k : Below b.heap.size b c) : Below a.heap.size a c := h.trans (k.mono h.size)
theorem below_alloc (w : World) (o : Obj) : Below w.heap.size w (w.alloc o) := (Below.refl _ _).alloc (Nat.le_refl _) _

theorem one_cell {w : World} {s : ByteArray} : ∀ j x, [s][j]? = some x → (w.alloc (.cells #[.string s] 9)).cell? ⟨w.heap.size, j, none⟩ = some (.string x) := by
  intro j x h
  match j with
  | 0 => simp at h; subst h; exact cellAt (heap_alloc_new w _) rfl
  | j + 1 => simp at h

theorem two_cells {w : World} {s t : ByteArray} : ∀ j x, [s, t][j]? = some x → (w.alloc (.cells #[.string s, .string t] 9)).cell? ⟨w.heap.size, j, none⟩ = some (.string x) := by
  intro j x h
  match j with
  | 0 => simp at h; subst h; exact cellAt (heap_alloc_new w _) rfl
  | 1 => simp at h; subst h; exact cellAt (heap_alloc_new w _) rfl
  | j + 2 => simp at h

theorem bytes_eta (s : ByteArray) : (⟨s.data.toList.toArray⟩ : ByteArray) = s := by cases s; simp

theorem BookR.nf {w : World} {bb L M : Nat} {rv : Value} {said R : List Hw.Rl} (h : BookR w bb L M rv said R) : R.length ≤ 65536 := by have := h.cnt; omega

theorem pturn (s : ByteArray) (w : World) (bb L M : Nat) (rv : Value) (said R : List Hw.Rl) (hB : BookR w bb L M rv said R) (hs : Hw.isWord L M s.data.toList = true) :
    Calls Tryz.prog 33 #[.string s, rv] w fun e w' => ∃ n, e = .returned (.string ⟨n.toArray⟩) ∧ (Hw.NF R s.data.toList n ∧ n.length ≤ 6) ∧ Below w.heap.size w w' := by
  obtain ⟨m, hm⟩ := hB.mx
  have h := turn_any s.data.toList R L M 0 rv w m hB.L1 hB.L3 hB.M6 hs hB.fin.rules hB.nf hB.rul hm
  rw [bytes_eta] at h
  refine h.mono ?_
  rintro e w' ⟨n, rfl, hn, hb⟩
  have := Hw.isWord_len (words_of hB.L1 hB.L3 hB.fin.rules hs hn)
  have := hB.M6
  exact ⟨n, rfl, ⟨hn, by omega⟩, hb⟩

set_option maxHeartbeats 1600000 in
theorem pleast_any (s : ByteArray) (w : World) (bb L M : Nat) (rv : Value) (said R : List Hw.Rl) (hs : s.size ≤ maxLen) (hB : BookR w bb L M rv said R) :
    Calls Tryz.prog 14 #[.pointer (some ⟨bb, 0, none⟩), .string s] w fun e w' => ∃ m c, e = .returned (.tuple #[.string ⟨m.toArray⟩, .int .i64 ((c : Nat) : Int)]) ∧ LeastAns L M said s.data.toList m c ∧ Below w.heap.size w w' := by
  have HB := hide hB
  clear hB
  go_enter Tryz.func14, Tryz.ntmps14
  go_wp2_with fail
  refine (check_any _ bb w.heap.size L M _ rv [s] HB.out.L1 HB.out.L3 HB.out.M6 (by simp) (by simpa using hs) (by exact (HB.out.same (below_alloc _ _)).blk) (by exact one_cell)).mono ?_
  rintro e w1 ⟨rfl, hsw⟩
  have HB1 := hide (below_trans (below_alloc _ _) (below_same hsw))
  have HR1 := hide (HB.out.same HB1.out)
  clear hsw
  cases hw : Hw.isWord L M s.data.toList with
  | false =>
    rw [show errW L M [s] = 2 by simp [errW, allW, hw]]
    have HW := hide hw
    clear hw
    go_wp2
    go_ret2
    exact ⟨[], 2, rfl, ⟨fun h => (by rw [HW.out] at h; cases h), fun _ => ⟨rfl, rfl⟩⟩, HB1.out⟩
  | true =>
    rw [show errW L M [s] = 0 by simp [errW, allW, hw]]
    have HW := hide hw
    clear hw
    have c3 : w1.cell? ⟨bb, 3, none⟩ = some rv := cellAt HR1.out.blk rfl
    go_wp2_with fail
    refine (pturn s _ bb L M rv said R HR1.out HW.out).mono ?_
    rintro e w2 ⟨n, rfl, ⟨hn, hn6⟩, hb2⟩
    have HB2 := hide (below_trans HB1.out hb2)
    have HN := hide hn
    clear hb2 hn c3
    go_wp2_with fail
    refine (sclone_any _ _ (by simpa [ByteArray.size] using hn6)).mono ?_
    rintro e w3 ⟨rfl, hb3⟩
    have HB3 := hide (below_trans HB2.out hb3)
    clear hb3
    go_wp2
    go_ret2
    exact ⟨n, 0, rfl, ⟨fun _ => ⟨HB.out.fin.least HB.out.L1 HB.out.L3 HB.out.words HW.out HN.out, rfl⟩, fun h => (by rw [HW.out] at h; cases h)⟩, HB3.out⟩

/-- What Same answers. -/
def SameAns (L M : Nat) (said : List Hw.Rl) (s t : Hw.Wd) (bv : Bool) (c : Nat) : Prop :=
  (Hw.isWord L M s = true → Hw.isWord L M t = true → c = 0 ∧ ∃ m1 m2, Hw.IsLeast L M said s m1 ∧ Hw.IsLeast L M said t m2 ∧ bv = decide (m1 = m2)) ∧ (¬ (Hw.isWord L M s = true ∧ Hw.isWord L M t = true) → c = 2 ∧ bv = false)

theorem SameAns.uniq {L M : Nat} (hL : L ≤ 3) {said : List Hw.Rl} {s t : Hw.Wd} {b b' : Bool} {c c' : Nat} (h : SameAns L M said s t b c) (h' : SameAns L M said s t b' c') : b = b' ∧ c = c' := by
  by_cases hw : Hw.isWord L M s = true ∧ Hw.isWord L M t = true
  · obtain ⟨h1, m1, m2, a1, a2, a3⟩ := h.1 hw.1 hw.2
    obtain ⟨k1, n1, n2, b1, b2, b3⟩ := h'.1 hw.1 hw.2
    exact ⟨by rw [a3, b3, a1.uniq hL b1, a2.uniq hL b2], by rw [h1, k1]⟩
  · obtain ⟨h1, h2⟩ := h.2 hw
    obtain ⟨k1, k2⟩ := h'.2 hw
    exact ⟨by rw [h2, k2], by rw [h1, k1]⟩

theorem SameAns.of_ref {L M : Nat} {said : List Hw.Rl} {s t m1 m2 : Hw.Wd} {c1 c2 : Nat} (h1 : LeastAns L M said s m1 c1) (h2 : LeastAns L M said t m2 c2) : SameAns L M said s t (decide (c1 = 0 ∧ c2 = 0 ∧ m1 = m2)) (if c1 = 0 ∧ c2 = 0 then 0 else 2) := by
  constructor
  · intro a b
    have e1 := h1.1 a
    have e2 := h2.1 b
    exact ⟨by rw [if_pos ⟨e1.2, e2.2⟩], m1, m2, e1.1, e2.1, by simp [e1.2, e2.2]⟩
  · intro h
    have : ¬ (c1 = 0 ∧ c2 = 0) := by
      rintro ⟨rfl, rfl⟩
      apply h
      constructor
      · cases e : Hw.isWord L M s with
        | true => rfl
        | false => have := (h1.2 e).2; omega
      · cases e : Hw.isWord L M t with
        | true => rfl
        | false => have := (h2.2 e).2; omega
    refine ⟨by rw [if_neg this], ?_⟩
    simp only [decide_eq_false_iff_not]
    rintro ⟨a, b, _⟩
    exact this ⟨a, b⟩

theorem errW_two (L M : Nat) (s t : ByteArray) : errW L M [s, t] = if Hw.isWord L M s.data.toList = true ∧ Hw.isWord L M t.data.toList = true then 0 else 2 := by
  simp [errW, allW]

theorem below_words {n m : Hw.Wd} : ((⟨n.toArray⟩ : ByteArray).toList == (⟨m.toArray⟩ : ByteArray).toList) = decide (n = m) := by
  simp [ByteArray.toList_eq]
  by_cases h : n = m <;> simp [h]

set_option maxHeartbeats 1600000 in
theorem psame_any (s t : ByteArray) (w : World) (bb L M : Nat) (rv : Value) (said R : List Hw.Rl) (hs : s.size ≤ maxLen) (ht : t.size ≤ maxLen) (hB : BookR w bb L M rv said R) :
    Calls Tryz.prog 16 #[.pointer (some ⟨bb, 0, none⟩), .string s, .string t] w fun e w' => ∃ bv c, e = .returned (.tuple #[.bool bv, .int .i64 ((c : Nat) : Int)]) ∧ SameAns L M said s.data.toList t.data.toList bv c ∧ Below w.heap.size w w' := by
  have HB := hide hB
  obtain ⟨sa, cap, hrv⟩ := hB.rul.shape
  subst hrv
  clear hB
  go_enter Tryz.func16, Tryz.ntmps16
  go_wp2_with fail
  refine (check_any _ bb w.heap.size L M _ _ [s, t] HB.out.L1 HB.out.L3 HB.out.M6 (by simp) (by simp; exact ⟨hs, ht⟩) (by exact (HB.out.same (below_alloc _ _)).blk) (by exact two_cells)).mono ?_
  rintro e w1 ⟨rfl, hsw⟩
  have HB1 := hide (below_trans (below_alloc _ _) (below_same hsw))
  have HR1 := hide (HB.out.same HB1.out)
  clear hsw
  by_cases hw : Hw.isWord L M s.data.toList = true ∧ Hw.isWord L M t.data.toList = true
  · rw [errW_two, if_pos hw]
    have HW := hide hw
    clear hw
    have c3 : w1.cell? ⟨bb, 3, none⟩ = some (.slice sa R.length cap) := cellAt HR1.out.blk rfl
    go_wp2_with fail
    go_region_held3 (fun w' => w'.cell? ⟨bb, 3, none⟩ = some (.slice sa R.length cap)) (go_keep)
      (first
        | (have hh2 := HBa; clear hh2; go_at_call 33; refine (pturn t _ bb L M _ said R (by exact HR1.out.same HBa.out) HW.out.2).mono ?_; rintro e wb ⟨n2, rfl, ⟨hn2, hm2⟩, hbb⟩; have k2 : wb.cell? ⟨bb, 3, none⟩ = some (.slice sa R.length cap) := (hbb.cell (p := ⟨bb, 3, none⟩) (lt_of_cell k1)).trans k1; have HBb := hide (below_trans HBa.out hbb); have HN2 := hide hn2; clear hbb hn2 hm2)
        | (go_at_call 33; refine (pturn s _ bb L M _ said R (by exact HR1.out.same (below_same ⟨rfl, rfl, rfl, rfl⟩)) HW.out.1).mono ?_; rintro e wa ⟨n1, rfl, ⟨hn1, hm1⟩, hba⟩; have HBa := hide (below_trans (below_same (a_same w1)) hba); have k1 : wa.cell? ⟨bb, 3, none⟩ = some (.slice sa R.length cap) := (HBa.out.cell (p := ⟨bb, 3, none⟩) (lt_of_cell c3)).trans c3; have HN1 := hide hn1; clear hba hn1 hm1))
    all_goals
      clear c3 k1 k2
      go_wp2
      go_ret2
      refine ⟨_, 0, rfl, ⟨fun _ _ => ⟨rfl, n1, n2, HB.out.fin.least HB.out.L1 HB.out.L3 HB.out.words HW.out.1 HN1.out, HB.out.fin.least HB.out.L1 HB.out.L3 HB.out.words HW.out.2 HN2.out, ?_⟩, fun h => absurd HW.out h⟩, below_trans HB1.out HBb.out⟩
      rw [Bool.eq_iff_iff]; simp
  · rw [errW_two, if_neg hw]
    have HW := hide hw
    clear hw
    go_wp2
    go_ret2
    exact ⟨false, 2, rfl, ⟨fun a b => absurd ⟨a, b⟩ HW.out, fun _ => ⟨rfl, rfl⟩⟩, HB1.out⟩

/-- What Say does. -/
def PSaid (w : World) (bb L M : Nat) (rv : Value) (said R : List Hw.Rl) (s t : Hw.Wd) (e : Ending) (w' : World) : Prop :=
  if Hw.isWord L M s = true ∧ Hw.isWord L M t = true then
    if said.length < 12 then
      e = .returned (.tuple #[.int .i64 (said.length : Int), .int .i64 0]) ∧ Kept [bb] w w' ∧ ∃ rv' R', BookR w' bb L M rv' (said ++ [(s, t)]) R'
    else e = .returned (.tuple #[.int .i64 0, .int .i64 3]) ∧ Below w.heap.size w w'
  else e = .returned (.tuple #[.int .i64 0, .int .i64 2]) ∧ Below w.heap.size w w'

theorem plearn (s t : ByteArray) (w : World) (bb L M : Nat) (rv : Value) (said R : List Hw.Rl) (hB : BookR w bb L M rv said R) (hs : Hw.isWord L M s.data.toList = true) (ht : Hw.isWord L M t.data.toList = true) :
    Calls Tryz.prog 50 #[rv, .string s, .string t, .int .i64 (M : Nat)] w fun e w' => ∃ sa n cap R', e = .returned (.slice sa n cap) ∧ Below w.heap.size w w' ∧ RulesAt w' w.heap.size (.slice sa n cap) R' ∧ Hw.Fin L M (said ++ [(s.data.toList, t.data.toList)]) R' ∧ R'.length + Hw.cntIrr L M R' ≤ 1093 ∧ Hw.ToIrr R' ∧ Hw.Rises L R' := by
  obtain ⟨m, hm⟩ := hB.mx
  have h := learn_any w 0 L M rv said R s.data.toList t.data.toList m hB.L1 hB.L3 hB.M6 hB.cnt hB.fin hs ht hB.rul hm hB.toirr
  rw [bytes_eta, bytes_eta] at h
  refine h.mono ?_
  rintro e w' ⟨rv', R', rfl, h1, h2, h3, h4, h5, h6⟩
  obtain ⟨sa, cap, rfl⟩ := h2.shape
  exact ⟨sa, _, cap, R', rfl, h1, h2, h3, h4, h5, h6⟩

theorem say_fin {w1 wb wc wd : World} {bb L M : Nat} {rv rv' sv' : Value} {said R R' : List Hw.Rl} {s t : Hw.Wd} (hB : BookR w1 bb L M rv said R) (hb : Below w1.heap.size w1 wb) (hc : Below wb.heap.size wb wc) (hR : RulesAt wc wb.heap.size rv' R') (hF : Hw.Fin L M (said ++ [(s, t)]) R') (hcnt : R'.length + Hw.cntIrr L M R' ≤ 1093) (hto : Hw.ToIrr R') (hsrt : Hw.Rises L R')
    (h12 : said.length < 12) (hs : Hw.isWord L M s = true) (ht : Hw.isWord L M t = true) (hwd : Below (wc.setCell ⟨bb, 3, none⟩ rv').heap.size (wc.setCell ⟨bb, 3, none⟩ rv') wd) (hp : PairsAt wd (wc.setCell ⟨bb, 3, none⟩ rv').heap.size sv' (said ++ [(s, t)])) :
    wd.heap[bb]? = some (bookBlock L M (sdv w1 bb) rv') ∧ Kept [bb] w1 (wd.setCell ⟨bb, 2, none⟩ sv') ∧ (wd.setCell ⟨bb, 2, none⟩ sv').heap[bb]? = some (bookBlock L M sv' rv') ∧ BookR (wd.setCell ⟨bb, 2, none⟩ sv') bb L M rv' (said ++ [(s, t)]) R' := by
  have hbc := below_trans hb hc
  have h1 : wc.heap[bb]? = some (bookBlock L M (sdv w1 bb) rv) := (hbc.block _ (lt_of_block hB.blk)).trans hB.blk
  have h2 : (wc.setCell ⟨bb, 3, none⟩ rv').heap[bb]? = some (bookBlock L M (sdv w1 bb) rv') := by
    rw [heap_setCell_same _ _ 3 _ _ _ h1]; rfl
  have h3 : wd.heap[bb]? = some (bookBlock L M (sdv w1 bb) rv') := (hwd.block _ (lt_of_block h2)).trans h2
  have h4 : (wd.setCell ⟨bb, 2, none⟩ sv').heap[bb]? = some (bookBlock L M sv' rv') := by
    rw [heap_setCell_same _ _ 2 _ _ _ h3]; rfl
  have hK0 : Kept [bb] wc (wc.setCell ⟨bb, 3, none⟩ rv') := (Kept.refl _ _).setCell (Or.inl (by simp)) _
  have hK1 : Kept [bb] wc wd := hK0.trans (Kept.of_below_size hwd)
  have hK : Kept [bb] wc (wd.setCell ⟨bb, 2, none⟩ sv') := hK1.setCell (Or.inl (by simp)) _
  have hlt := lt_of_block hB.blk
  have hsz := hb.size
  obtain ⟨m, hm⟩ := hB.mx
  have e : sdv (wd.setCell ⟨bb, 2, none⟩ sv') bb = sv' := sdv_of h4
  refine ⟨h3, (Kept.of_below_size hbc).trans hK, h4, hB.L1, hB.L3, hB.M1, hB.M6, by simp; omega, by rw [e]; exact h4, ?_, hF, hcnt, ⟨m, hK.cell ((hbc.cell (p := ⟨0, 0, none⟩) (lt_of_cell hm)).trans hm) (by simp; have := hB.pos; omega)⟩, hB.pos, ?_, hto, hsrt, ?_⟩
  · have hR0 : RulesAt wc 0 rv' R' := by
      refine ⟨hR.1, ?_⟩
      rcases hR.2 with h | ⟨g, cap, cur, h, _, r⟩
      · exact .inl h
      · exact .inr ⟨g, cap, cur, h, Nat.zero_le _, r⟩
    refine hR0.kept hK ?_
    simp only [List.mem_singleton]
    rintro k rfl e
    rcases hR.2 with ⟨h, _⟩ | ⟨g, cap, cur, h, hg, _⟩
    · rw [h] at e; simp [Value.ownBlock] at e
    · rw [h] at e; simp [Value.ownBlock] at e; omega
  · intro p hp
    rcases List.mem_append.1 hp with h | h
    · exact hB.words p h
    · rw [List.mem_singleton] at h; rw [h]; exact ⟨hs, ht⟩
  · rw [e]
    have hp0 : PairsAt wd 0 sv' (said ++ [(s, t)]) := by
      refine ⟨hp.1, ?_⟩
      rcases hp.2 with h | ⟨g, cap, cur, h, _, r⟩
      · exact .inl h
      · exact .inr ⟨g, cap, cur, h, Nat.zero_le _, r⟩
    refine hp0.kept (S := [bb]) ((Kept.refl _ _).setCell (Or.inl (by simp)) _) ?_
    simp only [List.mem_singleton]
    rintro k rfl c fr e
    rw [h3] at e; simp [bookBlock] at e
/-- behind Learn, and the store of what it tells. -/
def SayM (w1 wx : World) (bb xb L M : Nat) (said : List Hw.Rl) (s t : ByteArray) (rv' : Value) : Prop :=
  wx.cell? ⟨bb, 2, none⟩ = some (sdv w1 bb) ∧ wx.heap[xb]? = some (.cells #[.string s, .string t] 102 (0, 0)) ∧
    wx.heap[bb]? = some (bookBlock L M (sdv w1 bb) rv') ∧ PairsAt wx 0 (sdv w1 bb) said ∧
    (∀ wd sv', Below wx.heap.size wx wd → PairsAt wd wx.heap.size sv' (said ++ [(s.data.toList, t.data.toList)]) →
      wd.heap[bb]? = some (bookBlock L M (sdv w1 bb) rv') ∧ Kept [bb] w1 (wd.setCell ⟨bb, 2, none⟩ sv') ∧ (wd.setCell ⟨bb, 2, none⟩ sv').heap[bb]? = some (bookBlock L M sv' rv') ∧ ∃ R', BookR (wd.setCell ⟨bb, 2, none⟩ sv') bb L M rv' (said ++ [(s.data.toList, t.data.toList)]) R')

theorem say_mid {w1 wp wq wc : World} {bb xb L M : Nat} {rv rv' : Value} {said R R' : List Hw.Rl} {s t : ByteArray} (hB : BookR w1 bb L M rv said R) (hp : Below w1.heap.size w1 wp) (hq : SameW wp wq) (hx : wp.heap[xb]? = some (.cells #[.string s, .string t] 102 (0, 0)))
    (hc : Below wq.heap.size wq wc) (hR : RulesAt wc wq.heap.size rv' R') (hF : Hw.Fin L M (said ++ [(s.data.toList, t.data.toList)]) R') (hcnt : R'.length + Hw.cntIrr L M R' ≤ 1093) (hto : Hw.ToIrr R') (hsrt : Hw.Rises L R')
    (h12 : said.length < 12) (hs : Hw.isWord L M s.data.toList = true) (ht : Hw.isWord L M t.data.toList = true) :
    wc.cell? ⟨bb, 3, none⟩ = some rv ∧ wc.frozen? ⟨bb, 3, none⟩ = false ∧ SayM w1 (wc.setCell ⟨bb, 3, none⟩ rv') bb xb L M said s t rv' := by
  have hb := below_trans hp (below_same hq)
  have hbc := below_trans hb hc
  have h1 : wc.heap[bb]? = some (bookBlock L M (sdv w1 bb) rv) := (hbc.block _ (lt_of_block hB.blk)).trans hB.blk
  have h2 : (wc.setCell ⟨bb, 3, none⟩ rv').heap[bb]? = some (bookBlock L M (sdv w1 bb) rv') := by
    rw [heap_setCell_same _ _ 3 _ _ _ h1]; rfl
  have hxq : wq.heap[xb]? = some (.cells #[.string s, .string t] 102 (0, 0)) := by rw [hq.1]; exact hx
  have hxc : wc.heap[xb]? = some (.cells #[.string s, .string t] 102 (0, 0)) := (hc.block _ (lt_of_block hxq)).trans hxq
  have hne : xb ≠ bb := by rintro rfl; rw [h1] at hxc; simp [bookBlock] at hxc
  have hK0 : Kept [bb] wc (wc.setCell ⟨bb, 3, none⟩ rv') := (Kept.refl _ _).setCell (Or.inl (by simp)) _
  refine ⟨cellAt h1 rfl, frozen_of_row wc bb 3 _ _ h1, cellAt h2 rfl, hK0.at hxc (by simpa using hne), h2, ?_, ?_⟩
  · refine ((hB.sad.kept (S := []) (Kept.of_below_size hbc) (by simp)).kept hK0 ?_)
    simp only [List.mem_singleton]
    rintro k rfl c fr e
    rw [h1] at e; simp [bookBlock] at e
  · intro wd sv' hwd hps
    obtain ⟨r1, r2, r3, r4⟩ := say_fin hB hb hc hR hF hcnt hto hsrt h12 hs ht hwd hps
    exact ⟨r1, r2, r3, R', r4⟩

/-- What Learn does here, in whatever world that is the same. -/
theorem say_learn {w1 wp : World} {bb xb L M : Nat} {rv : Value} {said R : List Hw.Rl} {s t : ByteArray} (hB : BookR w1 bb L M rv said R) (hp : Below w1.heap.size w1 wp) (hx : wp.heap[xb]? = some (.cells #[.string s, .string t] 102 (0, 0)))
    (h12 : said.length < 12) (hs : Hw.isWord L M s.data.toList = true) (ht : Hw.isWord L M t.data.toList = true) (wq : World) (hq : SameW wp wq) :
    Calls Tryz.prog 50 #[rv, .string s, .string t, .int .i64 (M : Nat)] wq fun e wc => ∃ sa' n' cap', e = .returned (.slice sa' n' cap') ∧ wc.cell? ⟨bb, 3, none⟩ = some rv ∧ wc.frozen? ⟨bb, 3, none⟩ = false ∧ Hid (SayM w1 (wc.setCell ⟨bb, 3, none⟩ (.slice sa' n' cap')) bb xb L M said s t (.slice sa' n' cap')) := by
  refine (plearn s t _ bb L M _ said R ((hB.same hp).same (below_same hq)) hs ht).mono ?_
  rintro e wc ⟨sa', n', cap', R', rfl, hbc, hR', hF', hc', hto', hsr'⟩
  obtain ⟨r1, r2, r3⟩ := say_mid hB hp hq hx hbc hR' hF' hc' hto' hsr' h12 hs ht
  exact ⟨sa', n', cap', rfl, r1, r2, r3⟩

/-- What Concat does here. -/
theorem say_cat {w1 wx W : World} {bb xb vg pg L M : Nat} {said : List Hw.Rl} {s t : ByteArray} {rv' : Value} {da : Option Addr} {dcap : Nat} (hd : sdv w1 bb = .slice da said.length dcap) (h : SayM w1 wx bb xb L M said s t rv') (h12 : said.length < 12) (hb : Below wx.heap.size wx W)
    (c0 : W.cell? ⟨vg, 0, none⟩ = some (.slice da said.length dcap)) (c1 : W.cell? ⟨vg, 1, none⟩ = some (.slice (some ⟨pg, 0, none⟩) 1 1)) (hp : W.heap[pg]? = some (.cells #[.string s, .string t] 102 (0, 0))) :
    Calls Tryz.prog 51 #[.slice (some ⟨vg, 0, none⟩) 2 2] W fun e wd => ∃ na ncap, e = .returned (.slice na (said.length + 1) ncap) ∧ wd.cell? ⟨bb, 2, none⟩ = some (sdv w1 bb) ∧ wd.frozen? ⟨bb, 2, none⟩ = false ∧ (wd.setCell ⟨bb, 2, none⟩ (.slice na (said.length + 1) ncap)).cell? ⟨bb, 2, none⟩ = some (.slice na (said.length + 1) ncap) ∧
      Hid (Kept [bb] w1 (wd.setCell ⟨bb, 2, none⟩ (.slice na (said.length + 1) ncap)) ∧ ∃ R', BookR (wd.setCell ⟨bb, 2, none⟩ (.slice na (said.length + 1) ncap)) bb L M rv' (said ++ [(s.data.toList, t.data.toList)]) R') := by
  obtain ⟨h1, h2, h3, h4, h5⟩ := h
  have hps : PairsAt W 0 (.slice da said.length dcap) said := by rw [← hd]; exact h4.kept (S := []) (Kept.of_below_size hb) (by simp)
  refine (concat_any W vg pg da dcap said (s.data.toList, t.data.toList) h12 hps c0 c1 (by rw [bytes_eta, bytes_eta]; exact hp)).mono ?_
  rintro e wd ⟨ov, rfl, hbw, hpo⟩
  obtain ⟨na, ncap, rfl⟩ := hpo.shape
  have hbb := below_trans hb hbw
  have hp2 : PairsAt wd wx.heap.size (.slice na (said ++ [(s.data.toList, t.data.toList)]).length ncap) (said ++ [(s.data.toList, t.data.toList)]) := by
    refine ⟨hpo.1, ?_⟩
    rcases hpo.2 with h | ⟨g, cap, cur, h, hg, r⟩
    · exact .inl h
    · exact .inr ⟨g, cap, cur, h, Nat.le_trans hb.size hg, r⟩
  obtain ⟨r1, r2, r3, R', r4⟩ := h5 wd _ hbb hp2
  simp only [List.length_append, List.length_singleton] at *
  exact ⟨na, ncap, rfl, cellAt r1 rfl, frozen_of_row wd bb 2 _ _ r1, cellAt r3 rfl, r2, R', r4⟩
end Go.Proofs.YtfiebibpgbadlaaGreat
