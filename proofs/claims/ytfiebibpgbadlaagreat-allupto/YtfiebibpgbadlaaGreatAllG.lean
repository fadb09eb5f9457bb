import Derived.Test.YtfiebibpgbadlaaGreatAllE
namespace Go.Proofs.YtfiebibpgbadlaaGreat
open Go.RowKit
set_option linter.unusedVariables false
set_option linter.unusedSimpArgs false

theorem own_marked {w w' : World} {wb : Nat} {blk : Value → Obj} {ty lt wt : TypeId} {rulV rulV' v : Value} {vals xs mk : List Value} {sa : Option Addr} {n cap m sz : Nat} (hp : MarkPost w w' wb blk ty lt rulV vals sa n cap mk rulV') (hown : w.ownsRow 0 ty sz v m xs)
    (hblk : ∃ cs, w.heap[wb]? = some (.cells cs wt (0, 0))) (hrow : w.ownsRow 0 lt 1 rulV vals.length vals) (h1 : wt ≠ ty) (h3 : lt ≠ ty) (hsa : n = 0 ∨ ∃ g o, sa = some ⟨g, o, none⟩ ∧ v.ownBlock = some g) : ∃ xs', w'.ownsRow 0 ty sz v m xs' := by
  obtain ⟨cs, hcs⟩ := hblk
  rcases hown.2 with ⟨rfl, h2⟩ | ⟨g, cap', cur, rfl, hb, hg, hn, hm, hsz, ht⟩
  · exact ⟨xs, hown.1, .inl ⟨rfl, h2⟩⟩
  · by_cases h0 : n = 0
    · refine ⟨xs, hown.1, .inr ⟨g, cap', cur, rfl, hb, hp.kept.at hg ?_, hn, hm, hsz, ht⟩⟩
      rw [if_pos h0]
      simp
      refine ⟨?_, ?_⟩
      · rintro rfl; rw [hcs] at hg; simp at hg; exact h1 hg.2
      · intro e
        obtain ⟨c', hc'⟩ := own_type hrow e
        rw [hg] at hc'; simp at hc'; exact h3 hc'.2.symm
    · rcases hsa with h | ⟨g', o, rfl, hv⟩
      · exact absurd h h0
      · simp [Value.ownBlock] at hv
        subst hv
        refine ⟨(fill cur o mk n).toList.take (m * sz), ?_, .inr ⟨g, cap', fill cur o mk n, rfl, hb, hp.row g o cur (by omega) rfl hg, hn, hm, by rw [size_fill]; exact hsz, rfl⟩⟩
        rw [List.length_take, Array.length_toList, size_fill, hsz]
        have := Nat.mul_le_mul_right sz hn
        omega

theorem Lists.same {w w' : World} {wb : Nat} {bsV rulV linV : Value} {rs ls : List Value} (h : Lists w wb bsV rulV linV rs ls) (hb : Below w.heap.size w w') : Lists w' wb bsV rulV linV rs ls := by
  have hK := Kept.of_below_size (S := []) hb
  exact ⟨hK.at h.blk (by simp), own_kept h.rown hK (by simp), own_kept h.lown hK (by simp), fun k v hk => (h.rmk k v hk).kept hK (by simp), fun k v hk => (h.lmk k v hk).kept hK (by simp)⟩

theorem Lists.grownR {w w' : World} {wb m : Nat} {bsV rulV linV v v' : Value} {rs ls xs news : List Value} (h : Lists w wb bsV rulV linV rs ls) (hown : w.ownsRow 0 77 2 v m xs) (hown' : w'.ownsRow 0 77 2 v' (m + 1) (xs ++ news))
    (hgrow : w.grownBy w' v.ownBlock) (hor : v'.ownBlock = v.ownBlock ∨ w.grownBy w' none) (hroom : Room rs 2 v m) : Lists w' wb bsV rulV linV rs ls := by
  have hK : Kept v.ownBlock.toList w w' := Kept.of_grown hgrow (fun k hk => by simp [hk])
  have hty : ∀ k, k ∈ v.ownBlock.toList → ∀ c t fr, w.heap[k]? = some (.cells c t fr) → t = 77 := by
    intro k hk c t fr e
    obtain ⟨c', hc'⟩ := own_type hown (by simpa using hk : v.ownBlock = some k)
    rw [hc'] at e; simp at e; exact e.2.1.symm
  refine ⟨hK.at h.blk ?_, own_kept h.rown hK ?_, own_kept h.lown hK ?_, marked_grown (fun _ => rfl) h.rmk hown hown' hgrow hor hroom, fun k u hk => (h.lmk k u hk).kept hK ?_⟩
  · intro hm; exact absurd (hty _ hm _ _ _ h.blk) (by decide)
  · intro k hk e
    obtain ⟨c', hc'⟩ := own_type h.rown e
    exact absurd (hty _ hk _ _ _ hc') (by decide)
  · intro k hk e
    obtain ⟨c', hc'⟩ := own_type h.lown e
    exact absurd (hty _ hk _ _ _ hc') (by decide)
  · intro k hk c fr e
    exact absurd (hty _ hk _ _ _ e) (by decide)

theorem room_grown {w w' : World} {vs xs : List Value} {sz m : Nat} {v v' : Value} {ty : TypeId} {mk : Nat → List Value} (hm : Marked w ty mk vs) (h : Room vs sz v m) (hex : ∀ k, v'.ownBlock = some k → v.ownBlock = some k ∨ w.heap.size ≤ k) : Room vs sz v' (m + 1) := by
  intro u hu g o1 n1 cap hv he
  by_cases h0 : n1 = 0
  · exact .inl h0
  · rcases hex g hv with e | e
    · rcases h u hu g o1 n1 cap e he with h | h
      · exact .inl h
      · exact .inr (by rw [Nat.add_mul]; omega)
    · exfalso
      obtain ⟨k, hk, hk2⟩ := List.getElem_of_mem hu
      obtain ⟨sa, n, cap', h1, hn, h2⟩ := hm k u (by rw [List.getElem?_eq_getElem hk, hk2])
      rw [he] at h1
      simp at h1
      obtain ⟨rfl, rfl, rfl⟩ := h1
      obtain ⟨g', o', cur, h3, h4, _⟩ := h2 (by omega)
      simp at h3
      obtain ⟨rfl, rfl⟩ := h3
      have := lt_of_block h4
      omega

theorem Tryz.infoRule2 : (Tryz.prog.info? 77).map (fun i => (i.zero, i.size, i.bytes)) = some (some (.agg #[.string ⟨#[]⟩, .string ⟨#[]⟩]), 2, 32) := by kernel_rfl

/-- while what came out is written full, with some of its spare room. -/
structure OI (w wr : World) (wb : Nat) (bsV linV rulV ov : Value) (ls : List Value) (r0 n k : Nat) (v : Value) (m : Nat) (rulV' : Value) (rs' : List Value) : Prop where
  lists : Lists wr wb bsV rulV' linV rs' ls
  own : ∃ xs, wr.ownsRow 0 77 2 v m xs
  room : Room rs' 2 v m
  len : m = n + k
  count : rs'.length = r0 + k
  kept : Kept (wb :: (rulV.ownBlock.toList ++ ov.ownBlock.toList)) w wr
  rul : ∀ j, rulV'.ownBlock = some j → rulV.ownBlock = some j ∨ w.heap.size ≤ j
  cur : ∀ j, v.ownBlock = some j → ov.ownBlock = some j ∨ w.heap.size ≤ j

def Out (rs : List Value) (ov : Value) : Prop := ∀ u, u ∈ rs → ∀ g o1 n1 cap, ov.ownBlock = some g → u = .slice (some ⟨g, o1, none⟩) n1 cap → n1 = 0

/-- what ownRules leaves. -/
def OwnR (w w' : World) (wb : Nat) (bsV linV rulV ov : Value) (ls : List Value) (r0 : Nat) : Prop :=
  ∃ rulV' rs', Lists w' wb bsV rulV' linV rs' ls ∧ rs'.length = r0 + 5 ∧ Kept (wb :: (rulV.ownBlock.toList ++ ov.ownBlock.toList)) w w' ∧ ∀ j, rulV'.ownBlock = some j → rulV.ownBlock = some j ∨ w.heap.size ≤ j

theorem src_own {w : World} {ty : TypeId} {sz n cap : Nat} {sa : Option Addr} {xs : List Value} (h : w.ownsRow 0 ty sz (.slice sa n cap) n xs) : Src w ty sz sa n := by
  rcases h.2 with ⟨h1, h2⟩ | ⟨g, cap', cur, h1, hb, hg, hn, hm, hsz, ht⟩
  · simp at h1; exact .inl ⟨h1.1, h2⟩
  · simp at h1
    obtain ⟨rfl, rfl⟩ := h1
    exact .inr ⟨g, 0, cur, rfl, hg, by rw [hsz, Nat.zero_add]; exact Nat.mul_le_mul_right _ hn⟩
theorem off_out {rs : List Value} {sz n cap : Nat} {sa : Option Addr} (h : Out rs (.slice sa n cap)) : Off rs sz sa n := by
  intro v hv g o n1 cap1 o1 hsa he
  subst hsa
  exact .inl (h v hv g o1 n1 cap1 (by simp [Value.ownBlock]) he)

theorem two_str : ∀ u ∈ [Value.string ⟨#[]⟩, Value.string ⟨#[]⟩], u.oneCell' = true := by intro u hu; simp at hu; subst hu; rfl
theorem newCell2 (w : World) (a b : Value) (t : TypeId) : ∀ j x, [a, b][j]? = some x → (w.alloc (.cells #[a, b] t)).cell? ((⟨w.heap.size, 0, none⟩ : Addr).add j) = some x := by
  intro j x hj
  have hadd : (⟨w.heap.size, 0, none⟩ : Addr).add j = ⟨w.heap.size, j, none⟩ := by unfold Addr.add; split <;> simp_all
  rw [hadd]
  exact cellAt (heap_alloc_new w _) (by simpa using hj)
theorem own_cap {w : World} {base : Nat} {e : TypeId} {size : Nat} {sa : Option Addr} {n cap : Nat} {xs : List Value} (h : w.ownsRow base e size (.slice sa n cap) n xs) : n ≤ cap := by
  rcases h.2 with ⟨h1, h2⟩ | ⟨g, cap', cur, h1, hb, hg, hn, hm, hsz, ht⟩
  · omega
  · simp at h1; omega

/-- one element more, not yet written. -/
structure OG (w w3 : World) (wb : Nat) (bsV linV rulV ov : Value) (ls : List Value) (r0 n k : Nat) (v : Value) (m : Nat) (rulV' : Value) (rs' : List Value) : Prop where
  lists : Lists w3 wb bsV rulV' linV rs' ls
  own : ∃ xs, w3.ownsRow 0 77 2 v (m + 1) xs
  room : Room rs' 2 v m ∧ Room rs' 2 v (m + 1)
  len : m = n + k
  count : rs'.length = r0 + k
  kept : Kept (wb :: (rulV.ownBlock.toList ++ ov.ownBlock.toList)) w w3
  rul : ∀ j, rulV'.ownBlock = some j → rulV.ownBlock = some j ∨ w.heap.size ≤ j
  cur : ∀ j, v.ownBlock = some j → ov.ownBlock = some j ∨ w.heap.size ≤ j

theorem room_grown0 {w : World} {vs : List Value} {sz m : Nat} {v v' : Value} {ty : TypeId} {mk : Nat → List Value} (hm : Marked w ty mk vs) (h : Room vs sz v m) (hex : ∀ k, v'.ownBlock = some k → v.ownBlock = some k ∨ w.heap.size ≤ k) : Room vs sz v' m := by
  intro u hu g o1 n1 cap hv he
  by_cases h0 : n1 = 0
  · exact .inl h0
  · rcases hex g hv with e | e
    · exact h u hu g o1 n1 cap e he
    · exfalso
      obtain ⟨k, hk, hk2⟩ := List.getElem_of_mem hu
      obtain ⟨sa, n, cap', h1, hn, h2⟩ := hm k u (by rw [List.getElem?_eq_getElem hk, hk2])
      rw [he] at h1
      simp at h1
      obtain ⟨rfl, rfl, rfl⟩ := h1
      obtain ⟨g', o', cur, h3, h4, _⟩ := h2 (by omega)
      simp at h3
      obtain ⟨rfl, rfl⟩ := h3
      have := lt_of_block h4
      omega

theorem OI.grown {w wr w0 w3 : World} {wb : Nat} {bsV linV rulV ov : Value} {ls xs news : List Value} {r0 n k : Nat} {v v3 : Value} {m : Nat} {rulV' : Value} {rs' : List Value} {ob : Obj} (h : OI w wr wb bsV linV rulV ov ls r0 n k v m rulV' rs') (hown0 : wr.ownsRow 0 77 2 v m xs) (hs : SameW (wr.alloc ob) w0)
    (hown : w3.ownsRow 0 77 2 v3 (m + 1) (xs ++ news)) (hgrow : w0.grownBy w3 v.ownBlock) (hex : ∀ k, v3.ownBlock = some k → v.ownBlock = some k ∨ wr.heap.size + 1 ≤ k) (hor : v3.ownBlock = v.ownBlock ∨ w0.grownBy w3 none) : OG w w3 wb bsV linV rulV ov ls r0 n k v3 m rulV' rs' := by
  have hb : Below wr.heap.size wr w0 := (((Kept.refl [] wr).alloc ob).trans (hs.kept [])).below (Nat.le_refl _) (by simp)
  have hL0 := h.lists.same hb
  have hK0 := Kept.of_below_size (S := []) hb
  have ho0 := own_kept hown0 hK0 (by simp)
  have hL3 := hL0.grownR ho0 hown hgrow hor h.room
  have hK3 : Kept v.ownBlock.toList w0 w3 := Kept.of_grown hgrow (fun k hk => by simp [hk])
  refine ⟨hL3, ⟨_, hown⟩, ⟨room_grown0 h.lists.rmk h.room (fun k hk => (hex k hk).imp id (fun e => by omega)), room_grown (xs := xs) (w' := w3) h.lists.rmk h.room (fun k hk => (hex k hk).imp id (fun e => by omega))⟩, h.len, h.count, ?_, h.rul, ?_⟩
  · refine ⟨hK3.os.trans (hK0.os.trans h.kept.os), hK3.tape.trans (hK0.tape.trans h.kept.tape), hK3.output.trans (hK0.output.trans h.kept.output), Nat.le_trans h.kept.size (Nat.le_trans hK0.size hK3.size), fun j hj hn => ?_⟩
    have hjr : j < wr.heap.size := Nat.lt_of_lt_of_le hj h.kept.size
    rw [hK3.block j (Nat.lt_of_lt_of_le hjr hK0.size) ?_, hK0.block j hjr (by simp), h.kept.block j hj hn]
    simp
    intro e
    rcases h.cur j e with e | e
    · exact hn (by simp [e])
    · omega
  · intro j hj
    rcases hex j hj with e | e
    · exact h.cur j e
    · exact .inr (by have := h.kept.size; omega)

theorem OG.row {w w3 : World} {wb : Nat} {bsV linV rulV ov : Value} {ls : List Value} {r0 n k g3 cap3 : Nat} {m : Nat} {rulV' : Value} {rs' : List Value} (h : OG w w3 wb bsV linV rulV ov ls r0 n k (.slice (some ⟨g3, 0, none⟩) (m + 1) cap3) m rulV' rs') :
    Src w3 77 2 (some ⟨g3, m * 2, none⟩) 1 ∧ Off rs' 2 (some ⟨g3, m * 2, none⟩) 1 := by
  obtain ⟨xs, hown⟩ := h.own
  obtain ⟨cur, hc, hs, _⟩ := own_take hown (g := g3) rfl
  refine ⟨.inr ⟨g3, m * 2, cur, rfl, hc, by omega⟩, ?_⟩
  intro v hv g o n1 cap o1 hsa he
  simp at hsa
  obtain ⟨rfl, rfl⟩ := hsa
  rcases h.room.1 v hv g3 o1 n1 cap rfl he with h | h
  · exact .inl h
  · exact .inr (.inl h)

theorem OG.next {w w3 w4 : World} {wb : Nat} {bsV linV rulV ov : Value} {ls : List Value} {r0 n k g3 cap3 cap4 : Nat} {m : Nat} {rulV' rulV2 : Value} {rs' : List Value} (h : OG w w3 wb bsV linV rulV ov ls r0 n k (.slice (some ⟨g3, 0, none⟩) (m + 1) cap3) m rulV' rs')
    (hp : MarkPost w3 w4 wb (fun v => wblock bsV v linV) 77 68 rulV' rs' (some ⟨g3, m * 2, none⟩) 1 cap4 (ruleMark rs'.length) rulV2) (hL : Lists w4 wb bsV rulV2 linV (rs' ++ [.slice (some ⟨g3, m * 2, none⟩) 1 cap4]) ls) :
    OI w w4 wb bsV linV rulV ov ls r0 n (k + 1) (.slice (some ⟨g3, 0, none⟩) (m + 1) cap3) (m + 1) rulV2 (rs' ++ [.slice (some ⟨g3, m * 2, none⟩) 1 cap4]) := by
  obtain ⟨xs, hown⟩ := h.own
  refine ⟨hL, own_marked hp hown ⟨_, h.lists.blk⟩ h.lists.rown (by decide) (by decide) (.inr ⟨g3, m * 2, rfl, rfl⟩), ?_, by have := h.len; omega, by have := h.count; simp; omega, ?_, ?_, h.cur⟩
  · intro u hu g o1 n1 cap hv he
    rcases List.mem_append.1 hu with h1 | h1
    · exact h.room.2 u h1 g o1 n1 cap hv he
    · simp at h1
      rw [he] at h1
      simp at h1
      obtain ⟨⟨rfl, rfl⟩, rfl, rfl⟩ := h1
      right
      rw [Nat.add_mul]; omega
  · refine ⟨hp.kept.os.trans h.kept.os, hp.kept.tape.trans h.kept.tape, hp.kept.output.trans h.kept.output, Nat.le_trans h.kept.size hp.kept.size, fun j hj hn => ?_⟩
    rw [hp.kept.block j (Nat.lt_of_lt_of_le hj h.kept.size) ?_, h.kept.block j hj hn]
    rw [if_neg (by omega)]
    simp at hn ⊢
    refine ⟨hn.1, fun e => ?_, fun e => ?_⟩
    · rcases h.rul j e with e | e
      · exact hn.2.1 e
      · omega
    · subst e
      rcases h.cur j rfl with e | e
      · exact hn.2.2 e
      · omega
  · intro j hj
    rcases hp.fresh j hj with e | e
    · exact h.rul j e
    · exact .inr (by have := h.kept.size; omega)

set_option maxRecDepth 20000 in
set_option maxHeartbeats 1600000 in
theorem ownRules_any (wb : Nat) (bsV rulV linV : Value) (rs ls xs : List Value) (sa : Option Addr) (n cap : Nat) (w : World) (hL : Lists w wb bsV rulV linV rs ls) (hrs : rs.length ≤ 9000000) (hown : w.ownsRow 0 77 2 (.slice sa n cap) n xs) (hout : Out rs (.slice sa n cap)) (hn : n ≤ 900000) :
    Calls Tryz.prog 25 #[.pointer (some ⟨wb, 0, none⟩), .slice sa n cap] w fun e w' => e = .returned (.tuple #[]) ∧ OwnR w w' wb bsV linV rulV (.slice sa n cap) ls rs.length := by
  have HL := hide hL
  have HOWN := hide hown
  have HOUT := hide hout
  clear hL hown hout
  go_enter Tryz.func25, Tryz.ntmps25
  go_wp2_with fail
  refine (markRules_any wb bsV rulV linV rs ls sa n cap _ HL.out (by omega) (src_own HOWN.out) (off_out HOUT.out) (by omega)).mono ?_
  rintro e w1 ⟨rfl, rulV1, hp, hL1⟩
  have H0 : Hid (OI w w1 wb bsV linV rulV (.slice sa n cap) ls (rs.length + 1) n 0 (.slice sa n cap) n rulV1 (rs ++ [.slice sa n cap])) := by
    refine ⟨hL1, own_marked hp HOWN.out ⟨_, HL.out.blk⟩ HL.out.rown (by decide) (by decide) ?_, ?_, rfl, by simp, hp.kept.mono ?_, hp.fresh, fun j h => .inl h⟩
    · rcases HOWN.out.2 with ⟨h1, h2⟩ | ⟨g, cap', cur, h1, _⟩
      · exact .inl h2
      · simp at h1; obtain ⟨rfl, rfl⟩ := h1; exact .inr ⟨g, 0, rfl, rfl⟩
    · intro u hu g o1 n1 cap1 hv he
      rcases List.mem_append.1 hu with h | h
      · exact .inl (HOUT.out u h g o1 n1 cap1 hv he)
      · simp at h
        rw [he] at h
        simp at h
        obtain ⟨h1, rfl, rfl⟩ := h
        right
        rcases HOWN.out.2 with ⟨h2, h3⟩ | ⟨g', cap', cur, h2, _⟩
        · simp at h2; rw [← h1] at h2; simp at h2
        · simp at h2; rw [← h1] at h2; simp at h2; rw [h2.1.2]; omega
    · intro k hk _
      rcases List.mem_cons.1 hk with rfl | hk
      · simp
      · rcases List.mem_append.1 hk with hk | hk
        · exact List.mem_cons_of_mem _ (List.mem_append_left _ hk)
        · refine List.mem_cons_of_mem _ (List.mem_append_right _ ?_)
          by_cases h0 : n = 0
          · rw [if_pos h0] at hk; simp at hk
          · rw [if_neg h0] at hk
            cases sa with
            | none => simp at hk
            | some a => simp at hk; subst hk; simp [Value.ownBlock]
  clear hp hL1
  go_wp2_with fail
  go_loopw [1, 4] (fun lv kv wr => ∃ (k m : Nat) (sa' : Option Addr) (cap' : Nat) (rulV' : Value) (rs' : List Value), kv = .int .i64 (k : Int) ∧ lv = .slice sa' m cap' ∧ k ≤ 4 ∧ Hid (OI w wr wb bsV linV rulV (.slice sa n cap) ls (rs.length + 1) n k (.slice sa' m cap') m rulV' rs')) (fun _ kv _ => 4 - (intOf kv).toNat)
  case atStart => exact ⟨0, n, sa, cap, rulV1, _, rfl, rfl, by omega, H0⟩
  case round =>
    clear H0
    obtain ⟨k, m, sa', cap', rulV', rs', rfl, rfl, hk, hI⟩ := hrel
    by_cases hlt : k < 4
    · obtain ⟨xs2, hown2⟩ := hI.out.own
      have hm := hI.out.len
      have hc := hI.out.count
      have HOW := hide hown2
      clear hown2
      obtain ⟨i0, hi0, hz0, hz1, hz2⟩ := info_parts Tryz.infoRule2
      have HI0 := hide hi0
      have HZ0 := hide hz0
      have HZ1 := hide hz1
      have HZ2 := hide hz2
      clear hi0 hz0 hz1 hz2
      have hltI : (k : Int) < 4 := by omega
      have hm2 : m ≤ 900004 := by omega
      clear hm
      go_wp2_with (at_builtin; refine wpList_append_two _ rfl (.tmp 15) (.tmp 17) 68 rfl 0 77 i0 (.agg #[.string ⟨#[]⟩, .string ⟨#[]⟩]) 2 32 Tryz.underlying68 HI0.out HZ0.out HZ1.out HZ2.out rfl (by decide) (.slice sa' m cap') m xs2 rfl ?c1 ⟨wr.heap.size, 0, none⟩ 1 1 [.string ⟨#[]⟩, .string ⟨#[]⟩] rfl rfl ?c2 two_str ?c3 ?c4 ?c5 ?_)
      case c1 => exact HOW.out.alloc _
      case c2 => exact newCell2 wr _ _ _
      case c3 => unfold maxLen; omega
      case c4 => omega
      case c5 => exact Nat.zero_le _
      intro v3 w3 hown hgrow hex hor
      obtain ⟨g3, cap3, rfl⟩ := own_shape hown
      have hcap := own_cap hown
      have R := hide (hI.out.grown HOW.out (by exact ⟨rfl, rfl, rfl, rfl⟩ : SameW (wr.alloc _) _) hown hgrow hex hor)
      have HOW3 := hide hown
      clear hown hgrow hex hor
      go_wp2_with fail
      refine (markRules_any wb bsV rulV' linV rs' ls (some ⟨g3, m * 2, none⟩) 1 (cap3 - m) _ R.out.lists (by omega) R.out.row.1 R.out.row.2 (by omega)).mono ?_
      rintro e w4 ⟨rfl, rulV2, hp, hL4⟩
      have HN := hide (R.out.next hp hL4)
      clear hp hL4
      go_wp2
      go_roundw
      case rel => exact ⟨k + 1, m + 1, _, cap3, rulV2, _, by go_num, rfl, by omega, HN⟩
      case measure => simp [intOf]; omega
    · have hk4 : k = 4 := by omega
      subst hk4
      have HE : Hid (OwnR w wr wb bsV linV rulV (.slice sa n cap) ls rs.length) := ⟨rulV', rs', hI.out.lists, by have := hI.out.count; omega, hI.out.kept, hI.out.rul⟩
      go_wp2
      go_end0
      exact ⟨rfl, HE.out⟩
end Go.Proofs.YtfiebibpgbadlaaGreat
namespace Go.Proofs.YtfiebibpgbadlaaGreat
open Go.RowKit
set_option linter.unusedVariables false
set_option linter.unusedSimpArgs false

def lineZero : List Value := [.int .i64 0, .string ⟨#[]⟩, .string ⟨#[]⟩, .int .i64 0, .int .i64 0, .int .i64 0, .string ⟨#[]⟩, .string ⟨#[]⟩]
theorem Tryz.infoLine : (Tryz.prog.info? 54).map (fun i => (i.zero, i.size, i.bytes)) = some (some (.agg lineZero.toArray), 8, 96) := by kernel_rfl
theorem eight_one : ∀ u ∈ lineZero, u.oneCell' = true := by intro u hu; simp [lineZero] at hu; rcases hu with rfl | rfl | rfl | rfl <;> rfl
theorem newCell8 (w : World) (t : TypeId) : ∀ j x, lineZero[j]? = some x → (w.alloc (.cells lineZero.toArray t)).cell? ((⟨w.heap.size, 0, none⟩ : Addr).add j) = some x := by
  intro j x hj
  have hadd : (⟨w.heap.size, 0, none⟩ : Addr).add j = ⟨w.heap.size, j, none⟩ := by unfold Addr.add; split <;> simp_all
  rw [hadd]
  exact cellAt (heap_alloc_new w _) (by simpa using hj)

theorem Lists.grownL {w w' : World} {wb m : Nat} {bsV rulV linV v v' : Value} {rs ls xs news : List Value} (h : Lists w wb bsV linV rulV ls rs) (hown : w.ownsRow 0 54 8 v m xs) (hown' : w'.ownsRow 0 54 8 v' (m + 1) (xs ++ news))
    (hgrow : w.grownBy w' v.ownBlock) (hor : v'.ownBlock = v.ownBlock ∨ w.grownBy w' none) (hroom : Room rs 8 v m) : Lists w' wb bsV linV rulV ls rs := by
  have hK : Kept v.ownBlock.toList w w' := Kept.of_grown hgrow (fun k hk => by simp [hk])
  have hty : ∀ k, k ∈ v.ownBlock.toList → ∀ c t fr, w.heap[k]? = some (.cells c t fr) → t = 54 := by
    intro k hk c t fr e
    obtain ⟨c', hc'⟩ := own_type hown (by simpa using hk : v.ownBlock = some k)
    rw [hc'] at e; simp at e; exact e.2.1.symm
  refine ⟨hK.at h.blk ?_, own_kept h.rown hK ?_, own_kept h.lown hK ?_, fun k u hk => (h.rmk k u hk).kept hK ?_, marked_grown (fun _ => rfl) h.lmk hown hown' hgrow hor hroom⟩
  · intro hm; exact absurd (hty _ hm _ _ _ h.blk) (by decide)
  · intro k hk e
    obtain ⟨c', hc'⟩ := own_type h.rown e
    exact absurd (hty _ hk _ _ _ hc') (by decide)
  · intro k hk e
    obtain ⟨c', hc'⟩ := own_type h.lown e
    exact absurd (hty _ hk _ _ _ hc') (by decide)
  · intro k hk c fr e
    exact absurd (hty _ hk _ _ _ e) (by decide)

/-- while what came out is written full, with some of its spare room. -/
structure OIL (w wr : World) (wb : Nat) (bsV linV rulV ov : Value) (ls : List Value) (r0 n k : Nat) (v : Value) (m : Nat) (rulV' : Value) (rs' : List Value) : Prop where
  lists : Lists wr wb bsV linV rulV' ls rs'
  own : ∃ xs, wr.ownsRow 0 54 8 v m xs
  room : Room rs' 8 v m
  len : m = n + k
  count : rs'.length = r0 + k
  kept : Kept (wb :: (rulV.ownBlock.toList ++ ov.ownBlock.toList)) w wr
  rul : ∀ j, rulV'.ownBlock = some j → rulV.ownBlock = some j ∨ w.heap.size ≤ j
  cur : ∀ j, v.ownBlock = some j → ov.ownBlock = some j ∨ w.heap.size ≤ j

/-- what ownRules leaves. -/
def OwnL (w w' : World) (wb : Nat) (bsV linV rulV ov : Value) (ls : List Value) (r0 : Nat) : Prop :=
  ∃ rulV' rs', Lists w' wb bsV linV rulV' ls rs' ∧ rs'.length = r0 + 5 ∧ Kept (wb :: (rulV.ownBlock.toList ++ ov.ownBlock.toList)) w w' ∧ ∀ j, rulV'.ownBlock = some j → rulV.ownBlock = some j ∨ w.heap.size ≤ j

/-- one element more, not yet written. -/
structure OGL (w w3 : World) (wb : Nat) (bsV linV rulV ov : Value) (ls : List Value) (r0 n k : Nat) (v : Value) (m : Nat) (rulV' : Value) (rs' : List Value) : Prop where
  lists : Lists w3 wb bsV linV rulV' ls rs'
  own : ∃ xs, w3.ownsRow 0 54 8 v (m + 1) xs
  room : Room rs' 8 v m ∧ Room rs' 8 v (m + 1)
  len : m = n + k
  count : rs'.length = r0 + k
  kept : Kept (wb :: (rulV.ownBlock.toList ++ ov.ownBlock.toList)) w w3
  rul : ∀ j, rulV'.ownBlock = some j → rulV.ownBlock = some j ∨ w.heap.size ≤ j
  cur : ∀ j, v.ownBlock = some j → ov.ownBlock = some j ∨ w.heap.size ≤ j

theorem OIL.grown {w wr w0 w3 : World} {wb : Nat} {bsV linV rulV ov : Value} {ls xs news : List Value} {r0 n k : Nat} {v v3 : Value} {m : Nat} {rulV' : Value} {rs' : List Value} {ob : Obj} (h : OIL w wr wb bsV linV rulV ov ls r0 n k v m rulV' rs') (hown0 : wr.ownsRow 0 54 8 v m xs) (hs : SameW (wr.alloc ob) w0)
    (hown : w3.ownsRow 0 54 8 v3 (m + 1) (xs ++ news)) (hgrow : w0.grownBy w3 v.ownBlock) (hex : ∀ k, v3.ownBlock = some k → v.ownBlock = some k ∨ wr.heap.size + 1 ≤ k) (hor : v3.ownBlock = v.ownBlock ∨ w0.grownBy w3 none) : OGL w w3 wb bsV linV rulV ov ls r0 n k v3 m rulV' rs' := by
  have hb : Below wr.heap.size wr w0 := (((Kept.refl [] wr).alloc ob).trans (hs.kept [])).below (Nat.le_refl _) (by simp)
  have hL0 := h.lists.same hb
  have hK0 := Kept.of_below_size (S := []) hb
  have ho0 := own_kept hown0 hK0 (by simp)
  have hL3 := hL0.grownL ho0 hown hgrow hor h.room
  have hK3 : Kept v.ownBlock.toList w0 w3 := Kept.of_grown hgrow (fun k hk => by simp [hk])
  refine ⟨hL3, ⟨_, hown⟩, ⟨room_grown0 h.lists.lmk h.room (fun k hk => (hex k hk).imp id (fun e => by omega)), room_grown (xs := xs) (w' := w3) h.lists.lmk h.room (fun k hk => (hex k hk).imp id (fun e => by omega))⟩, h.len, h.count, ?_, h.rul, ?_⟩
  · refine ⟨hK3.os.trans (hK0.os.trans h.kept.os), hK3.tape.trans (hK0.tape.trans h.kept.tape), hK3.output.trans (hK0.output.trans h.kept.output), Nat.le_trans h.kept.size (Nat.le_trans hK0.size hK3.size), fun j hj hn => ?_⟩
    have hjr : j < wr.heap.size := Nat.lt_of_lt_of_le hj h.kept.size
    rw [hK3.block j (Nat.lt_of_lt_of_le hjr hK0.size) ?_, hK0.block j hjr (by simp), h.kept.block j hj hn]
    simp
    intro e
    rcases h.cur j e with e | e
    · exact hn (by simp [e])
    · omega
  · intro j hj
    rcases hex j hj with e | e
    · exact h.cur j e
    · exact .inr (by have := h.kept.size; omega)

theorem OGL.row {w w3 : World} {wb : Nat} {bsV linV rulV ov : Value} {ls : List Value} {r0 n k g3 cap3 : Nat} {m : Nat} {rulV' : Value} {rs' : List Value} (h : OGL w w3 wb bsV linV rulV ov ls r0 n k (.slice (some ⟨g3, 0, none⟩) (m + 1) cap3) m rulV' rs') :
    Src w3 54 8 (some ⟨g3, m * 8, none⟩) 1 ∧ Off rs' 8 (some ⟨g3, m * 8, none⟩) 1 := by
  obtain ⟨xs, hown⟩ := h.own
  obtain ⟨cur, hc, hs, _⟩ := own_take hown (g := g3) rfl
  refine ⟨.inr ⟨g3, m * 8, cur, rfl, hc, by omega⟩, ?_⟩
  intro v hv g o n1 cap o1 hsa he
  simp at hsa
  obtain ⟨rfl, rfl⟩ := hsa
  rcases h.room.1 v hv g3 o1 n1 cap rfl he with h | h
  · exact .inl h
  · exact .inr (.inl h)

theorem OGL.next {w w3 w4 : World} {wb : Nat} {bsV linV rulV ov : Value} {ls : List Value} {r0 n k g3 cap3 cap4 : Nat} {m : Nat} {rulV' rulV2 : Value} {rs' : List Value} (h : OGL w w3 wb bsV linV rulV ov ls r0 n k (.slice (some ⟨g3, 0, none⟩) (m + 1) cap3) m rulV' rs')
    (hp : MarkPost w3 w4 wb (fun v => wblock bsV linV v) 54 50 rulV' rs' (some ⟨g3, m * 8, none⟩) 1 cap4 (lineMark rs'.length) rulV2) (hL : Lists w4 wb bsV linV rulV2 ls (rs' ++ [.slice (some ⟨g3, m * 8, none⟩) 1 cap4])) :
    OIL w w4 wb bsV linV rulV ov ls r0 n (k + 1) (.slice (some ⟨g3, 0, none⟩) (m + 1) cap3) (m + 1) rulV2 (rs' ++ [.slice (some ⟨g3, m * 8, none⟩) 1 cap4]) := by
  obtain ⟨xs, hown⟩ := h.own
  refine ⟨hL, own_marked hp hown ⟨_, h.lists.blk⟩ h.lists.lown (by decide) (by decide) (.inr ⟨g3, m * 8, rfl, rfl⟩), ?_, by have := h.len; omega, by have := h.count; simp; omega, ?_, ?_, h.cur⟩
  · intro u hu g o1 n1 cap hv he
    rcases List.mem_append.1 hu with h1 | h1
    · exact h.room.2 u h1 g o1 n1 cap hv he
    · simp at h1
      rw [he] at h1
      simp at h1
      obtain ⟨⟨rfl, rfl⟩, rfl, rfl⟩ := h1
      right
      rw [Nat.add_mul]; omega
  · refine ⟨hp.kept.os.trans h.kept.os, hp.kept.tape.trans h.kept.tape, hp.kept.output.trans h.kept.output, Nat.le_trans h.kept.size hp.kept.size, fun j hj hn => ?_⟩
    rw [hp.kept.block j (Nat.lt_of_lt_of_le hj h.kept.size) ?_, h.kept.block j hj hn]
    rw [if_neg (by omega)]
    simp at hn ⊢
    refine ⟨hn.1, fun e => ?_, fun e => ?_⟩
    · rcases h.rul j e with e | e
      · exact hn.2.1 e
      · omega
    · subst e
      rcases h.cur j rfl with e | e
      · exact hn.2.2 e
      · omega
  · intro j hj
    rcases hp.fresh j hj with e | e
    · exact h.rul j e
    · exact .inr (by have := h.kept.size; omega)

set_option maxRecDepth 20000 in
set_option maxHeartbeats 1600000 in
theorem ownLines_any (wb : Nat) (bsV rulV linV : Value) (rs ls xs : List Value) (sa : Option Addr) (n cap : Nat) (w : World) (hL : Lists w wb bsV linV rulV ls rs) (hrs : rs.length ≤ 9000000) (hown : w.ownsRow 0 54 8 (.slice sa n cap) n xs) (hout : Out rs (.slice sa n cap)) (hn : n ≤ 900000) :
    Calls Tryz.prog 27 #[.pointer (some ⟨wb, 0, none⟩), .slice sa n cap] w fun e w' => e = .returned (.tuple #[]) ∧ OwnL w w' wb bsV linV rulV (.slice sa n cap) ls rs.length := by
  have HL := hide hL
  have HOWN := hide hown
  have HOUT := hide hout
  clear hL hown hout
  go_enter Tryz.func27, Tryz.ntmps27
  go_wp2_with fail
  refine (markLines_any wb bsV linV rulV ls rs sa n cap _ HL.out (by omega) (src_own HOWN.out) (off_out HOUT.out) (by omega)).mono ?_
  rintro e w1 ⟨rfl, rulV1, hp, hL1⟩
  have H0 : Hid (OIL w w1 wb bsV linV rulV (.slice sa n cap) ls (rs.length + 1) n 0 (.slice sa n cap) n rulV1 (rs ++ [.slice sa n cap])) := by
    refine ⟨hL1, own_marked hp HOWN.out ⟨_, HL.out.blk⟩ HL.out.lown (by decide) (by decide) ?_, ?_, rfl, by simp, hp.kept.mono ?_, hp.fresh, fun j h => .inl h⟩
    · rcases HOWN.out.2 with ⟨h1, h2⟩ | ⟨g, cap', cur, h1, _⟩
      · exact .inl h2
      · simp at h1; obtain ⟨rfl, rfl⟩ := h1; exact .inr ⟨g, 0, rfl, rfl⟩
    · intro u hu g o1 n1 cap1 hv he
      rcases List.mem_append.1 hu with h | h
      · exact .inl (HOUT.out u h g o1 n1 cap1 hv he)
      · simp at h
        rw [he] at h
        simp at h
        obtain ⟨h1, rfl, rfl⟩ := h
        right
        rcases HOWN.out.2 with ⟨h2, h3⟩ | ⟨g', cap', cur, h2, _⟩
        · simp at h2; rw [← h1] at h2; simp at h2
        · simp at h2; rw [← h1] at h2; simp at h2; rw [h2.1.2]; omega
    · intro k hk _
      rcases List.mem_cons.1 hk with rfl | hk
      · simp
      · rcases List.mem_append.1 hk with hk | hk
        · exact List.mem_cons_of_mem _ (List.mem_append_left _ hk)
        · refine List.mem_cons_of_mem _ (List.mem_append_right _ ?_)
          by_cases h0 : n = 0
          · rw [if_pos h0] at hk; simp at hk
          · rw [if_neg h0] at hk
            cases sa with
            | none => simp at hk
            | some a => simp at hk; subst hk; simp [Value.ownBlock]
  clear hp hL1
  go_wp2_with fail
  go_loopw [1, 4] (fun lv kv wr => ∃ (k m : Nat) (sa' : Option Addr) (cap' : Nat) (rulV' : Value) (rs' : List Value), kv = .int .i64 (k : Int) ∧ lv = .slice sa' m cap' ∧ k ≤ 4 ∧ Hid (OIL w wr wb bsV linV rulV (.slice sa n cap) ls (rs.length + 1) n k (.slice sa' m cap') m rulV' rs')) (fun _ kv _ => 4 - (intOf kv).toNat)
  case atStart => exact ⟨0, n, sa, cap, rulV1, _, rfl, rfl, by omega, H0⟩
  case round =>
    clear H0
    obtain ⟨k, m, sa', cap', rulV', rs', rfl, rfl, hk, hI⟩ := hrel
    by_cases hlt : k < 4
    · obtain ⟨xs2, hown2⟩ := hI.out.own
      have hm := hI.out.len
      have hc := hI.out.count
      have HOW := hide hown2
      clear hown2
      obtain ⟨i0, hi0, hz0, hz1, hz2⟩ := info_parts Tryz.infoLine
      have HI0 := hide hi0
      have HZ0 := hide hz0
      have HZ1 := hide hz1
      have HZ2 := hide hz2
      clear hi0 hz0 hz1 hz2
      have hltI : (k : Int) < 4 := by omega
      have hm2 : m ≤ 900004 := by omega
      clear hm
      go_wp2_with (at_builtin; refine wpList_append_two _ rfl (.tmp 15) (.tmp 17) 50 rfl 0 54 i0 (.agg lineZero.toArray) 8 96 Tryz.underlying50 HI0.out HZ0.out HZ1.out HZ2.out rfl (by decide) (.slice sa' m cap') m xs2 rfl ?c1 ⟨wr.heap.size, 0, none⟩ 1 1 lineZero rfl rfl ?c2 eight_one ?c3 ?c4 ?c5 ?_)
      case c1 => exact HOW.out.alloc _
      case c2 => exact newCell8 wr _
      case c3 => unfold maxLen; omega
      case c4 => omega
      case c5 => exact Nat.zero_le _
      intro v3 w3 hown hgrow hex hor
      obtain ⟨g3, cap3, rfl⟩ := own_shape hown
      have hcap := own_cap hown
      have R := hide (hI.out.grown HOW.out (by exact ⟨rfl, rfl, rfl, rfl⟩ : SameW (wr.alloc _) _) hown hgrow hex hor)
      have HOW3 := hide hown
      clear hown hgrow hex hor
      go_wp2_with fail
      refine (markLines_any wb bsV linV rulV' ls rs' (some ⟨g3, m * 8, none⟩) 1 (cap3 - m) _ R.out.lists (by omega) R.out.row.1 R.out.row.2 (by omega)).mono ?_
      rintro e w4 ⟨rfl, rulV2, hp, hL4⟩
      have HN := hide (R.out.next hp hL4)
      clear hp hL4
      go_wp2
      go_roundw
      case rel => exact ⟨k + 1, m + 1, _, cap3, rulV2, _, by go_num, rfl, by omega, HN⟩
      case measure => simp [intOf]; omega
    · have hk4 : k = 4 := by omega
      subst hk4
      have HE : Hid (OwnL w wr wb bsV linV rulV (.slice sa n cap) ls rs.length) := ⟨rulV', rs', hI.out.lists, by have := hI.out.count; omega, hI.out.kept, hI.out.rul⟩
      go_wp2
      go_end0
      exact ⟨rfl, HE.out⟩
end Go.Proofs.YtfiebibpgbadlaaGreat
namespace Go.Proofs.YtfiebibpgbadlaaGreat
open Go.RowKit
set_option linter.unusedVariables false
set_option linter.unusedSimpArgs false

theorem own_cell {w : World} {lt : TypeId} {v : Value} {xs : List Value} {k : Nat} {u : Value} (h : w.ownsRow 0 lt 1 v xs.length xs) (hk : xs[k]? = some u) : ∃ g cap, v = .slice (some ⟨g, 0, none⟩) xs.length cap ∧ w.cell? ⟨g, k, none⟩ = some u := by
  have hlt := (List.getElem?_eq_some_iff.1 hk).1
  rcases h.2 with ⟨_, h2⟩ | ⟨g, cap, cur, rfl, hb, hg, hn, hm, hsz, ht⟩
  · omega
  · refine ⟨g, cap, rfl, ?_⟩
    rw [cell_of_row w g k cur _ _ hg]
    have e : (cur.toList.take (xs.length * 1))[k]? = some u := by rw [ht, hk]
    rw [List.getElem?_take, if_pos (by omega)] at e
    simpa using e

theorem own_slice {w : World} {lt : TypeId} {v : Value} {xs : List Value} (h : w.ownsRow 0 lt 1 v xs.length xs) : ∃ sa cap, v = .slice sa xs.length cap := by
  rcases h.2 with ⟨h1, h2⟩ | ⟨g, cap, cur, h1, _⟩
  · exact ⟨none, 0, by rw [h1, h2]⟩
  · exact ⟨_, _, h1⟩

theorem mark_cells {w : World} {ty : TypeId} {mk : List Value} {sa : Option Addr} {n cap i : Nat} (h : Marked1 w ty mk (.slice sa n cap)) (hi : i < n) : ∃ g o, sa = some ⟨g, o, none⟩ ∧ ∀ j u, mk[j]? = some u → w.cell? ⟨g, o + i * mk.length + j, none⟩ = some u := by
  obtain ⟨sa', n', cap', he, hn, h⟩ := h
  simp at he
  obtain ⟨rfl, rfl, rfl⟩ := he
  obtain ⟨g, o, cur, rfl, hg, hc⟩ := h (by omega)
  refine ⟨g, o, rfl, fun j u hu => ?_⟩
  have hj := (List.getElem?_eq_some_iff.1 hu).1
  exact cellAt hg (by rw [hc i hi j hj, hu])

theorem no_four : ((⟨#[]⟩ : ByteArray) ++ (⟨#[]⟩ : ByteArray) ++ (⟨#[]⟩ : ByteArray) ++ (⟨#[]⟩ : ByteArray)).toList = [] := by rw [ByteArray.toList_eq]; rfl

set_option maxRecDepth 20000 in
set_option maxHeartbeats 1600000 in
theorem still_any (wb : Nat) (bsV rulV linV : Value) (rs ls : List Value) (w : World) (hL : Lists w wb bsV rulV linV rs ls) (hrs : rs.length ≤ 10000000) (hls : ls.length ≤ 10000000) :
    Calls Tryz.prog 11 #[.pointer (some ⟨wb, 0, none⟩)] w fun e w' => e = .returned (.bool true) ∧ Below w.heap.size w w' := by
  obtain ⟨ra, rcap, hrv⟩ := own_slice hL.rown
  obtain ⟨la, lcap, hlv⟩ := own_slice hL.lown
  subst hrv hlv
  have HL := hide hL
  clear hL
  go_enter Tryz.func11, Tryz.ntmps11
  go_wp2_with fail
  go_loopw [3] (fun kv wr => ∃ (k : Nat), k ≤ rs.length ∧ kv = .int .i64 (k : Int) ∧ Hid (Below w.heap.size w wr)) (fun kv _ => rs.length - (intOf kv).toNat)
  case atStart => exact ⟨0, Nat.zero_le _, rfl, Below.refl _ _⟩
  case round =>
    obtain ⟨k, hk, rfl, hb⟩ := hrel
    have hL1 := HL.out.same hb.out
    have c1 : wr.cell? ⟨wb, 1, none⟩ = some (.slice ra rs.length rcap) := cellAt hL1.blk rfl
    by_cases hlt : k < rs.length
    · have hltI : (k : Int) < (rs.length : Int) := by omega
      clear hL1
      go_wp2_with fail
      refine (label_any k _ (by omega)).mono ?_
      rintro e w1 ⟨rfl, hb1⟩
      have HB1 : Hid (Below w.heap.size w w1) := hb.out.trans (hb1.mono hb.out.size)
      clear hb1 c1
      obtain ⟨lb, hlb⟩ : ∃ lb, Hw.lab k [35] = lb := ⟨_, rfl⟩
      have HLB := hide hlb
      rw [hlb]
      clear hlb
      obtain ⟨u, hu⟩ : ∃ u, rs[k]? = some u := ⟨rs[k], List.getElem?_eq_getElem hlt⟩
      obtain ⟨sa, n, cap, hsl, hn, _⟩ := HL.out.rmk k u hu
      subst hsl
      have HU := hide hu
      clear hu
      go_wp2_with fail
      go_loopw [5] (fun iv wi => ∃ (i : Nat), i ≤ n ∧ iv = .int .i64 (i : Int) ∧ Hid (Below w.heap.size w wi)) (fun iv _ => n - (intOf iv).toNat)
      case atStart => exact ⟨0, Nat.zero_le _, rfl, HB1⟩
      case round =>
        clear HB1 hb
        obtain ⟨i, hi, rfl, hb⟩ := hrel
        have hL1 := HL.out.same hb.out
        have c1 : wr.cell? ⟨wb, 1, none⟩ = some (.slice ra rs.length rcap) := cellAt hL1.blk rfl
        obtain ⟨gr, rc2, hre, c2⟩ := own_cell hL1.rown HU.out
        simp only [Value.slice.injEq] at hre
        obtain ⟨rfl, -, rfl⟩ := hre
        by_cases hlt2 : i < n
        · have hltI2 : (i : Int) < (n : Int) := by omega
          obtain ⟨g, o, rfl, hc⟩ := mark_cells (hL1.rmk k _ HU.out) hlt2
          have d0 : wr.cell? ⟨g, o + i * 2, none⟩ = some (.string ⟨lb.toArray⟩) := by have h := hc 0 _ rfl; rw [HLB.out] at h; exact h
          have d1 : wr.cell? ⟨g, o + i * 2 + 1, none⟩ = some (.string ⟨#[]⟩) := hc 1 _ rfl
          clear hc hL1
          go_wp2
          go_roundw
          case rel => exact ⟨i + 1, by omega, by go_num, hb⟩
          case measure => simp [intOf]; omega
        · clear hL1
          go_wp2
          go_roundw
          case rel => exact ⟨k + 1, by omega, by go_num, hb⟩
          case measure => simp [intOf]; omega
    · clear hL1
      go_wp2_with fail
      clear c1
      go_loopw [6] (fun kv wr => ∃ (k : Nat), k ≤ ls.length ∧ kv = .int .i64 (k : Int) ∧ Hid (Below w.heap.size w wr)) (fun kv _ => ls.length - (intOf kv).toNat)
      case atStart => exact ⟨0, Nat.zero_le _, rfl, hb⟩
      case round =>
        clear hb
        obtain ⟨k, hk, rfl, hb⟩ := hrel
        have hL1 := HL.out.same hb.out
        have c1 : wr.cell? ⟨wb, 2, none⟩ = some (.slice la ls.length lcap) := cellAt hL1.blk rfl
        by_cases hlt : k < ls.length
        · have hltI : (k : Int) < (ls.length : Int) := by omega
          clear hL1
          obtain ⟨u, hu⟩ : ∃ u, ls[k]? = some u := ⟨ls[k], List.getElem?_eq_getElem hlt⟩
          obtain ⟨sa, n, cap, hsl, hn, _⟩ := HL.out.lmk k u hu
          subst hsl
          have HU := hide hu
          clear hu
          go_wp2_with fail
          go_loopw [7] (fun iv wi => ∃ (i : Nat), i ≤ n ∧ iv = .int .i64 (i : Int) ∧ Hid (Below w.heap.size w wi)) (fun iv _ => n - (intOf iv).toNat)
          case atStart => exact ⟨0, Nat.zero_le _, rfl, hb⟩
          case round =>
            clear hb c1
            obtain ⟨i, hi, rfl, hb⟩ := hrel
            have hL1 := HL.out.same hb.out
            have c1 : wr.cell? ⟨wb, 2, none⟩ = some (.slice la ls.length lcap) := cellAt hL1.blk rfl
            obtain ⟨gr, rc2, hre, c2⟩ := own_cell hL1.lown HU.out
            simp only [Value.slice.injEq] at hre
            obtain ⟨rfl, -, rfl⟩ := hre
            by_cases hlt2 : i < n
            · have hltI2 : (i : Int) < (n : Int) := by omega
              obtain ⟨g, o, rfl, hc⟩ := mark_cells (hL1.lmk k _ HU.out) hlt2
              have d0 : wr.cell? ⟨g, o + i * 8, none⟩ = some (.int .i64 (-1 - (k : Int))) := hc 0 _ rfl
              have d1 : wr.cell? ⟨g, o + i * 8 + 1, none⟩ = some (.string ⟨#[]⟩) := hc 1 _ rfl
              have d2 : wr.cell? ⟨g, o + i * 8 + 2, none⟩ = some (.string ⟨#[]⟩) := hc 2 _ rfl
              have d3 : wr.cell? ⟨g, o + i * 8 + 3, none⟩ = some (.int .i64 0) := hc 3 _ rfl
              have d4 : wr.cell? ⟨g, o + i * 8 + 4, none⟩ = some (.int .i64 0) := hc 4 _ rfl
              have d5 : wr.cell? ⟨g, o + i * 8 + 5, none⟩ = some (.int .i64 0) := hc 5 _ rfl
              have d6 : wr.cell? ⟨g, o + i * 8 + 6, none⟩ = some (.string ⟨#[]⟩) := hc 6 _ rfl
              have d7 : wr.cell? ⟨g, o + i * 8 + 7, none⟩ = some (.string ⟨#[]⟩) := hc 7 _ rfl
              clear hc hL1
              have hno := no_four
              go_wp2
              go_roundw
              case rel => exact ⟨i + 1, by omega, by go_num, hb.out.alloc hb.out.size _⟩
              case measure => simp [intOf]; omega
            · clear hL1
              go_wp2
              go_roundw
              case rel => exact ⟨k + 1, by omega, by go_num, hb⟩
              case measure => simp [intOf]; omega
        · clear hL1
          go_wp2
          go_ret
          exact ⟨rfl, hb.out⟩
end Go.Proofs.YtfiebibpgbadlaaGreat
