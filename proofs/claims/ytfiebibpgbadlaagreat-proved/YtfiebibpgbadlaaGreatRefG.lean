import Derived.Test.YtfiebibpgbadlaaGreatRefE
import Derived.Test.YtfiebibpgbadlaaGreatKb
import Derived.Test.YtfiebibpgbadlaaGreatProgO
namespace Go.Proofs.YtfiebibpgbadlaaGreat
open Go.RowKit
set_option linter.unusedVariables false
set_option linter.unusedSimpArgs false

def Fix (L : Nat) (xs : List Nat) (S : Hw.Wd) (a t : Nat) : Prop := Hw.of xs (Hw.fold L ((S.take t).drop a)) = Hw.fold L ((S.take t).drop a)

theorem whole_no {L M : Nat} {xs : List Nat} {i : Nat} {S : Hw.Wd} (hS : Hw.wordAt L M i = S) {a t : Nat} (h1 : a ≤ t) (h2 : t ≤ S.length) (h : ¬ Fix L xs S a t) : ¬ Hw.Whole L M xs i := by
  intro k
  have := k a t h1 (by rw [hS]; exact h2)
  rw [hS] at this
  exact h this
theorem whole_yes {L M : Nat} {xs : List Nat} {i : Nat} {S : Hw.Wd} (hS : Hw.wordAt L M i = S) {at_ : Nat} (h0 : S.length < at_) (h : ∀ a t, a < at_ → a ≤ t → t ≤ S.length → Fix L xs S a t) : Hw.Whole L M xs i := by
  intro a t h1 h2
  rw [hS] at h2 ⊢
  exact h a t (by omega) h1 h2

set_option maxHeartbeats 800000 in
theorem whole_any (w : World) (i b g gw cw L M : Nat) (saidV : Value) (said : List (Hw.Wd × Hw.Wd)) (gs xs : List Nat) (fresh : Bool) (hi : i < (Hw.upTo L M).length)
    (hR : RefR w b gw cw L M saidV (.slice (some ⟨g, 0, none⟩) (Hw.upTo L M).length (Hw.upTo L M).length) said gs fresh) (hg : w.heap[g]? = some (.cells (intRow xs) 3 (0, 0))) (hd : Hw.Done L M said xs) :
    Calls Tryz.prog 71 #[.pointer (some ⟨b, 0, none⟩), .int .i64 (i : Int)] w fun e w' => ∃ bv n, e = .returned (.bool bv) ∧ (bv = true ↔ Hw.Whole L M xs i) ∧ w' = w.drewN n := by
  have c0 := ref_c0 hR.blk
  have c3 := ref_c3 hR.blk
  have c4 := ref_c4 hR.blk
  have cwi := hR.wrd.cell i hi
  have hL1 := hR.L1
  have hL3 := hR.L3
  have hM6 := hR.M6
  have hN := upTo_small hL3 hM6
  have hwi : Hw.isWord L M (Hw.wordAt L M i) = true := Hw.wordAt_word hL3 hi
  have hlen6 : (Hw.wordAt L M i).length ≤ 6 := by have := Hw.isWord_len hwi; omega
  have HG := hide hg
  have HD := hide hd
  have HWI := hide hwi
  clear hR hg hd hwi
  generalize hS : Hw.wordAt L M i = S at *
  generalize hNN : (Hw.upTo L M).length = N at *
  have HS := hide hS
  have HNN := hide hNN
  clear hS hNN
  go_enter Tryz.func71, Tryz.ntmps71
  go_wp2
  go_loopw [6] (fun a wr => ∃ (at_ n : Nat), at_ ≤ S.length + 1 ∧ a = .int .i64 at_ ∧ wr = w.drewN n ∧ Hid (∀ a t, a < at_ → a ≤ t → t ≤ S.length → Fix L xs S a t)) (fun a _ => S.length + 1 - (intOf a).toNat)
  case atStart => exact ⟨0, 0, by omega, rfl, rfl, fun a t h => by omega⟩
  case round =>
    obtain ⟨at_, n, hat, rfl, rfl, HI⟩ := hrel
    by_cases hlt : at_ ≤ S.length
    · go_wp2
      go_loopw [7] (fun a wr => ∃ (to n : Nat), at_ ≤ to ∧ to ≤ S.length + 1 ∧ a = .int .i64 to ∧ wr = w.drewN n ∧ Hid (∀ a t, (a < at_ ∨ (a = at_ ∧ t < to)) → a ≤ t → t ≤ S.length → Fix L xs S a t)) (fun a _ => S.length + 1 - (intOf a).toNat)
      case atStart => exact ⟨at_, n, Nat.le_refl _, by omega, rfl, rfl, fun a t h h1 h2 => HI.out a t (by omega) h1 h2⟩
      case round =>
        clear HI
        obtain ⟨to, n, hat2, hto, rfl, rfl, HI⟩ := hrel
        by_cases hlt2 : to ≤ S.length
        · have hpw := Hw.piece_word hL3 HD.out.good HWI.out at_ to hat2 hlt2
          have e1 : Hw.index L ((⟨S.toArray⟩ : ByteArray).extract at_ to).data.toList = Hw.fold L ((S.take to).drop at_) := by
            rw [toList_extract]; exact Hw.index_eq hpw.1
          have hw1 : Hw.isWord L M ((⟨S.toArray⟩ : ByteArray).extract at_ to).data.toList = true := by rw [toList_extract]; exact hpw.1
          have hKl := hpw.2.1
          have hKN : Hw.fold L ((S.take to).drop at_) < N := by rw [← HNN.out, ← HD.out.good.len]; exact hKl
          have hfx : Fix L xs S at_ to ↔ Hw.of xs (Hw.fold L ((S.take to).drop at_)) = Hw.fold L ((S.take to).drop at_) := Iff.rfl
          have HFX := hide hfx
          clear hpw hfx
          generalize hK : Hw.fold L ((S.take to).drop at_) = K at *
          have cK : w.cell? ⟨g, K, none⟩ = some (.int .i64 ((Hw.of xs K : Nat) : Int)) := by
            rw [cell_intRow HG.out K hKl]; simp [Hw.of, hKl]
          have HE1 := hide e1
          clear e1 hK
          go_wp2_with fail
          refine (index_any _ L M b _ hL1 hL3 hM6 hw1 (by exact c0)).mono ?_
          rintro e w1 ⟨rfl, n1, rfl⟩
          rw [HE1.out]
          clear hw1
          by_cases hk : Hw.of xs K = K
          · have hkb : (((Hw.of xs K : Nat) : Int) != (K : Int)) = false := by simp [hk]
            have HK := hide hk
            clear hk
            go_wp2
            go_roundw
            case rel =>
              refine ⟨to + 1, _, by omega, by omega, by go_num, rfl, fun a t h h1 h2 => ?_⟩
              by_cases hq : a < at_ ∨ (a = at_ ∧ t < to)
              · exact HI.out a t hq h1 h2
              · obtain ⟨rfl, rfl⟩ : a = at_ ∧ t = to := by omega
                exact HFX.out.2 HK.out
            case measure => simp [intOf]; omega
          · have hkb : (((Hw.of xs K : Nat) : Int) != (K : Int)) = true := by rw [bne_iff_ne]; omega
            have HK := hide hk
            clear hk
            go_wp2
            go_ret
            refine ⟨false, _, rfl, ?_, rfl⟩
            simp only [Bool.false_eq_true, false_iff]
            exact whole_no HS.out hat2 hlt2 (fun h => HK.out (HFX.out.1 h))
        · go_wp2
          go_roundw
          case rel => exact ⟨at_ + 1, n, by omega, by go_num, rfl, fun a t h h1 h2 => HI.out a t (by omega) h1 h2⟩
          case measure => simp [intOf]; omega
    · go_wp2
      go_ret
      exact ⟨true, _, rfl, by simp only [true_iff]; exact whole_yes HS.out (by omega) HI.out, rfl⟩

def cntTo (xs : List Nat) (i : Nat) : Nat := (List.range i).countP fun k => Hw.of xs k == k
theorem cntTo_succ (xs : List Nat) (i : Nat) : cntTo xs (i + 1) = cntTo xs i + if Hw.of xs i = i then 1 else 0 := by
  unfold cntTo; rw [List.range_succ, List.countP_append]; simp [List.countP_cons]
theorem cntTo_le (xs : List Nat) (i : Nat) : cntTo xs i ≤ i := by
  have := List.countP_le_length (p := fun k => Hw.of xs k == k) (l := List.range i)
  simpa [cntTo] using this

set_option maxHeartbeats 800000 in
theorem refCount_any (w : World) (b gw cw L M : Nat) (saidV sameV : Value) (said : List (Hw.Wd × Hw.Wd)) (gs : List Nat) (fresh : Bool) (hR : RefR w b gw cw L M saidV sameV said gs fresh) :
    Calls Tryz.prog 22 #[.pointer (some ⟨b, 0, none⟩)] w fun e w' => ∃ xs, e = .returned (.int .i64 ((Hw.cnt xs : Nat) : Int)) ∧ Hw.Done L M said xs ∧ Kept [b] w w' ∧ ∃ sameV', RefR w' b gw cw L M saidV sameV' said gs true := by
  go_enter Tryz.func22, Tryz.ntmps22
  go_wp2_with fail
  refine (close_any w b gw cw L M saidV sameV said gs fresh hR).mono ?_
  rintro e w2 ⟨rfl, hK, sameV', hR2⟩
  obtain ⟨g, xs, rfl, hg, hd⟩ := hR2.done rfl
  have c4 := ref_c4 hR2.blk
  have hN := upTo_small hR2.L3 hR2.M6
  have hlen := hd.good.len
  have HR2 := hide hR2
  have HG := hide hg
  have HD := hide hd
  have HK := hide hK
  have HLEN := hide hlen
  clear hR hR2 hg hd hK hlen
  generalize hNN : (Hw.upTo L M).length = N at *
  have HNN := hide hNN
  clear hNN
  go_wp2_with fail
  go_loopw [3, 4] (fun nv iv wr => ∃ (k : Nat), k ≤ N ∧ nv = .int .i64 ((cntTo xs k : Nat) : Int) ∧ iv = .int .i64 (k : Int) ∧ wr = w2) (fun _ iv _ => N - (intOf iv).toNat)
  case atStart => exact ⟨0, Nat.zero_le _, rfl, rfl, rfl⟩
  case round =>
    obtain ⟨k, hk, rfl, rfl, rfl⟩ := hrel
    have hle := cntTo_le xs k
    by_cases hlt : k < N
    · have hkl : k < xs.length := by rw [HLEN.out]; exact hlt
      have ck : wr.cell? ⟨g, k, none⟩ = some (.int .i64 ((Hw.of xs k : Nat) : Int)) := by
        rw [cell_intRow HG.out k hkl]; simp [Hw.of, hkl]
      have hsu := cntTo_succ xs k
      by_cases he : Hw.of xs k = k
      · rw [if_pos he] at hsu
        have hb : (((Hw.of xs k : Nat) : Int) == (k : Int)) = true := by simp [he]
        have HSU := hide hsu
        clear hsu he
        go_wp2
        go_roundw
        case rel => exact ⟨k + 1, by omega, by rw [HSU.out]; go_num, by go_num, trivial⟩
        case measure => simp [intOf]; omega
      · rw [if_neg he] at hsu
        have hb : (((Hw.of xs k : Nat) : Int) == (k : Int)) = false := by simp; omega
        have HSU := hide hsu
        clear hsu he
        go_wp2
        go_roundw
        case rel => exact ⟨k + 1, by omega, by rw [HSU.out]; rfl, by go_num, trivial⟩
        case measure => simp [intOf]; omega
    · have hkN : k = xs.length := by rw [HLEN.out]; omega
      go_wp2
      go_ret
      refine ⟨xs, ?_, HD.out, HK.out, _, HR2.out⟩
      rw [hkN]; rfl
end Go.Proofs.YtfiebibpgbadlaaGreat
namespace Go.Proofs.YtfiebibpgbadlaaGreat
open Go.RowKit
set_option linter.unusedVariables false
set_option linter.unusedSimpArgs false

theorem RefR.grow {w w' : World} {b gw cw L M : Nat} {saidV sameV : Value} {said : List (Hw.Wd × Hw.Wd)} {gs : List Nat} {fresh : Bool} (h : RefR w b gw cw L M saidV sameV said gs fresh) (hb : Below w.heap.size w w') : RefR w' b gw cw L M saidV sameV said gs fresh := by
  have hK : Kept [] w w' := Kept.of_below_size hb
  refine ⟨h.L1, h.L3, h.M1, h.M6, h.few, hK.at h.blk (by simp), h.wrd.kept hK (by simp), h.sd.kept hK (by simp) (by simp), h.words, fun hf => ?_⟩
  obtain ⟨g, xs, h1, h2, h3⟩ := h.done hf
  exact ⟨g, xs, h1, hK.at h2 (by simp), h3⟩

structure RI (w wr : World) (L M : Nat) (xs : List Nat) (k : Nat) (ov : Value) (l : List Hw.Rl) : Prop where
  below : Below w.heap.size w wr
  rows : RulesAt wr w.heap.size ov l
  ref : Hw.RefRules L M xs k l
  len : l.length ≤ k

theorem RI.skip {w wr : World} {L M : Nat} {xs : List Nat} {k : Nat} {ov : Value} {l : List Hw.Rl} (h : RI w wr L M xs k ov l) (hc : ¬ Hw.RefCond L M xs k) : RI w wr L M xs (k + 1) ov l :=
  ⟨h.below, h.rows, h.ref.skip hc, by have := h.len; omega⟩

theorem RulesAt.below {w w' : World} {B : Nat} {rv : Value} {R : List Hw.Rl} (h : RulesAt w B rv R) (hb : Below w.heap.size w w') : RulesAt w' B rv R := h.kept (S := []) (Kept.of_below_size hb) (by simp)

theorem RulesAt.lower {w : World} {B B' : Nat} {rv : Value} {R : List Hw.Rl} (h : RulesAt w B rv R) (hB : B' ≤ B) : RulesAt w B' rv R := by
  refine ⟨h.1, ?_⟩
  rcases h.2 with h1 | ⟨g, cap, cur, h1, h2, r⟩
  · exact .inl h1
  · exact .inr ⟨g, cap, cur, h1, Nat.le_trans hB h2, r⟩

theorem below_draw {w : World} (n : Nat) : Below w.heap.size w (w.drewN n) := (Kept.of_drewN [] w n).below (Nat.le_refl _) (by simp)

theorem RI.drewN {w wr : World} {L M : Nat} {xs : List Nat} {k : Nat} {ov : Value} {l : List Hw.Rl} (h : RI w wr L M xs k ov l) (n : Nat) : RI w (wr.drewN n) L M xs k ov l :=
  ⟨h.below.trans ((below_draw n).mono h.below.size), h.rows.below (below_draw n), h.ref, h.len⟩

theorem RI.more {w W w0 w1 : World} {L M : Nat} {xs : List Nat} {k cap : Nat} {sa : Option Addr} {v' : Value} {l : List Hw.Rl} {o : Obj} (hL : L ≤ 3) (h : RI w W L M xs k (.slice sa l.length cap) l) (h0 : SameW (W.alloc o) w0) (hi : k < (Hw.upTo L M).length) (hc : Hw.RefCond L M xs k)
    (hown : w1.ownsRow w.heap.size 77 2 v' (l.length + 1) (rcells l ++ [.string ⟨(Hw.wordAt L M k).toArray⟩, .string ⟨(Hw.wordAt L M (Hw.of xs k)).toArray⟩])) (hgrow : w0.grownBy w1 (Value.slice sa l.length cap).ownBlock) :
    RI w w1 L M xs (k + 1) v' (l ++ [(Hw.wordAt L M k, Hw.wordAt L M (Hw.of xs k))]) := by
  have hK : Kept (Value.slice sa l.length cap).ownBlock.toList W w1 := (((Kept.refl _ W).alloc _).trans (h0.kept _)).trans (Kept.of_grown hgrow (fun k hk => by simp [hk]))
  refine ⟨h.below.trans (hK.below h.below.size ?_), ?_, h.ref.more hL hi hc, by have := h.len; simp; omega⟩
  · intro k hk
    simp at hk
    rcases h.rows.2 with ⟨h1, _⟩ | ⟨g, cap2, cur, h1, hb2, hg, _⟩
    · rw [h1] at hk; simp [Value.ownBlock] at hk
    · rw [h1] at hk; simp [Value.ownBlock] at hk; omega
  · unfold RulesAt
    rw [show rcells (l ++ [(Hw.wordAt L M k, Hw.wordAt L M (Hw.of xs k))]) = rcells l ++ [.string ⟨(Hw.wordAt L M k).toArray⟩, .string ⟨(Hw.wordAt L M (Hw.of xs k)).toArray⟩] by simp [rcells], show (l ++ [(Hw.wordAt L M k, Hw.wordAt L M (Hw.of xs k))]).length = l.length + 1 by simp]
    exact hown

set_option maxRecDepth 100000 in
set_option maxHeartbeats 1600000 in
theorem refRules_any (w : World) (b gw cw L M : Nat) (saidV sameV : Value) (said : List (Hw.Wd × Hw.Wd)) (gs : List Nat) (fresh : Bool) (hR : RefR w b gw cw L M saidV sameV said gs fresh) :
    Calls Tryz.prog 45 #[.pointer (some ⟨b, 0, none⟩)] w fun e w' => ∃ l ov, e = .returned ov ∧ Hw.RulesAns L M said l ∧ RulesAt w' w.heap.size ov l ∧ Kept [b] w w' ∧ ∃ sameV', RefR w' b gw cw L M saidV sameV' said gs true := by
  go_enter Tryz.func45, Tryz.ntmps45
  go_wp2_with fail
  refine (close_any w b gw cw L M saidV sameV said gs fresh hR).mono ?_
  rintro e w2 ⟨rfl, hK, sameV', hR2⟩
  obtain ⟨g, xs, rfl, hg, hd⟩ := hR2.done rfl
  have hL1 := hR2.L1
  have hL3 := hR2.L3
  have hM6 := hR2.M6
  have hN := upTo_small hL3 hM6
  have HR2 := hide hR2
  have HG := hide hg
  have HD := hide hd
  have HK := hide hK
  clear hR hR2 hg hd hK
  go_wp2_with fail
  go_loopw [3, 4] (fun ov iv wr => ∃ (k : Nat) (l : List Hw.Rl), k ≤ (Hw.upTo L M).length ∧ iv = .int .i64 (k : Int) ∧ RI w2 wr L M xs k ov l) (fun _ iv _ => (Hw.upTo L M).length - (intOf iv).toNat)
  case atStart => exact ⟨0, [], Nat.zero_le _, rfl, Below.refl _ _, World.ownsRow_nil _ _ _ _, Hw.RefRules.zero _ _ _, Nat.le_refl _⟩
  case round =>
    obtain ⟨k, l, hk, rfl, hI⟩ := hrel
    obtain ⟨sa, cap, rfl⟩ := hI.rows.shape
    have HI := hide hI
    have hr := HR2.out.grow hI.below
    have c0 := ref_c0 hr.blk
    have c3 := ref_c3 hr.blk
    have c4 := ref_c4 hr.blk
    have hll := hI.len
    have HRR := hide hr
    by_cases hlt : k < (Hw.upTo L M).length
    · have hkl : k < xs.length := by rw [HD.out.good.len]; exact hlt
      have hgr : wr.heap[g]? = some (.cells (intRow xs) 3 (0, 0)) := (hI.below.block _ (lt_of_block HG.out)).trans HG.out
      have ck : wr.cell? ⟨g, k, none⟩ = some (.int .i64 ((Hw.of xs k : Nat) : Int)) := by
        rw [cell_intRow hgr k hkl]; simp [Hw.of, hkl]
      have cwk := hr.wrd.cell k hlt
      have hwi : Hw.isWord L M (Hw.wordAt L M k) = true := Hw.wordAt_word hL3 hlt
      have hlen6 : (Hw.wordAt L M k).length ≤ 6 := by have := Hw.isWord_len hwi; omega
      have hof : Hw.of xs k < (Hw.upTo L M).length := by have := HD.out.good.le k hkl; omega
      have cv := hr.wrd.cell _ hof
      have HGR := hide hgr
      have HWI := hide hwi
      have HC : Hid (Hw.RefCond L M xs k ↔ Hw.RefCond L M xs k) := Iff.rfl
      unfold Hw.RefCond at HC
      clear hI hr hgr hwi
      by_cases he : Hw.of xs k = k
      · have hb : (((Hw.of xs k : Nat) : Int) == (k : Int)) = true := by simp [he]
        have hc : ¬ Hw.RefCond L M xs k := fun h => h.1 he
        have HCC := hide hc
        clear he hc
        generalize (Hw.upTo L M).length = N at *
        go_wp2
        go_roundw
        case rel => exact ⟨k + 1, l, by omega, by go_num, HI.out.skip HCC.out⟩
        case measure => simp [intOf]; omega
      · have hb : (((Hw.of xs k : Nat) : Int) == (k : Int)) = false := by simp; omega
        by_cases hS0 : Hw.wordAt L M k = []
        · have hlb : (((Hw.wordAt L M k).length : Int) == 0) = true := by simp [hS0]
          have hc : ¬ Hw.RefCond L M xs k := fun h => h.2.1 hS0
          have HCC := hide hc
          clear he hc hS0
          generalize (Hw.upTo L M).length = N at *
          generalize Hw.wordAt L M k = S at *
          go_wp2
          go_roundw
          case rel => exact ⟨k + 1, l, by omega, by go_num, HI.out.skip HCC.out⟩
          case measure => simp [intOf]; omega
        · have hpos : 1 ≤ (Hw.wordAt L M k).length := List.length_pos_iff.2 hS0
          have hlb : (((Hw.wordAt L M k).length : Int) == 0) = false := by simp; exact hS0
          have hx1 : Hw.isWord L M ((Hw.wordAt L M k).drop 1) = true := (Hw.occ_drop1 _).word HWI.out
          have hx2 : Hw.isWord L M ((Hw.wordAt L M k).take ((Hw.wordAt L M k).length - 1)) = true := (Hw.occ_take1 _).word HWI.out
          have hf1 := Hw.fold_lt_length hL3 hx1
          have hf2 := Hw.fold_lt_length hL3 hx2
          have e1 : ((⟨(Hw.wordAt L M k).toArray⟩ : ByteArray).extract 1 (Hw.wordAt L M k).length).data.toList = (Hw.wordAt L M k).drop 1 := by
            rw [toList_extract, List.take_of_length_le (Nat.le_refl _)]
          have e2 : ((⟨(Hw.wordAt L M k).toArray⟩ : ByteArray).extract 0 ((Hw.wordAt L M k).length - 1)).data.toList = (Hw.wordAt L M k).take ((Hw.wordAt L M k).length - 1) := by
            rw [toList_extract, List.drop_zero]
          have HXC : Hid (Hw.Whole L M xs (Hw.fold L ((Hw.wordAt L M k).drop 1)) → Hw.Whole L M xs (Hw.fold L ((Hw.wordAt L M k).take ((Hw.wordAt L M k).length - 1))) → Hw.RefCond L M xs k) := fun h1 h2 => ⟨he, hS0, h1, h2⟩
          have HXN1 : Hid (¬ Hw.Whole L M xs (Hw.fold L ((Hw.wordAt L M k).drop 1)) → ¬ Hw.RefCond L M xs k) := fun h1 h => h1 h.2.2.1
          have HXN2 : Hid (¬ Hw.Whole L M xs (Hw.fold L ((Hw.wordAt L M k).take ((Hw.wordAt L M k).length - 1))) → ¬ Hw.RefCond L M xs k) := fun h1 h => h1 h.2.2.2
          have hw1 : Hw.isWord L M ((⟨(Hw.wordAt L M k).toArray⟩ : ByteArray).extract 1 (Hw.wordAt L M k).length).data.toList = true := by rw [e1]; exact hx1
          have hw2 : Hw.isWord L M ((⟨(Hw.wordAt L M k).toArray⟩ : ByteArray).extract 0 ((Hw.wordAt L M k).length - 1)).data.toList = true := by rw [e2]; exact hx2
          have hi1 : Hw.index L ((⟨(Hw.wordAt L M k).toArray⟩ : ByteArray).extract 1 (Hw.wordAt L M k).length).data.toList = Hw.fold L ((Hw.wordAt L M k).drop 1) := by rw [Hw.index_eq hw1, e1]
          have hi2 : Hw.index L ((⟨(Hw.wordAt L M k).toArray⟩ : ByteArray).extract 0 ((Hw.wordAt L M k).length - 1)).data.toList = Hw.fold L ((Hw.wordAt L M k).take ((Hw.wordAt L M k).length - 1)) := by rw [Hw.index_eq hw2, e2]
          have HW1 := hide hw1
          have HW2 := hide hw2
          have HI1 := hide hi1
          have HI2 := hide hi2
          clear hw1 hw2 hi1 hi2 e1 e2 hx1 hx2 he hS0 HC
          generalize Hw.fold L ((Hw.wordAt L M k).drop 1) = X at *
          generalize Hw.fold L ((Hw.wordAt L M k).take ((Hw.wordAt L M k).length - 1)) = Y at *
          go_wp2_with fail
          refine (index_is _ L M b X _ hL1 hL3 hM6 (by exact HW1.out) (by exact HI1.out) (by exact c0)).mono ?_
          rintro e w3 ⟨rfl, n3, rfl⟩
          go_wp2_with fail
          refine (index_is _ L M b Y _ hL1 hL3 hM6 (by exact HW2.out) (by exact HI2.out) (by exact c0)).mono ?_
          rintro e w4 ⟨rfl, n4, rfl⟩
          go_wp2_with fail
          refine (whole_any _ X b g gw cw L M saidV said gs xs true hf1 (by exact HRR.out.same rfl) (by exact HGR.out) HD.out).mono ?_
          rintro e w5 ⟨b1, n5, rfl, hb1, rfl⟩
          have HB1 := hide hb1
          clear hb1
          go_wp2_with fail
          refine (whole_any _ Y b g gw cw L M saidV said gs xs true hf2 (by exact HRR.out.same rfl) (by exact HGR.out) HD.out).mono ?_
          rintro e w6 ⟨b2, n6, rfl, hb2, rfl⟩
          have HB2 := hide hb2
          clear hb2
          cases b1 with
          | false =>
            have HCC := hide (HXN1.out (fun h => Bool.false_ne_true (HB1.out.2 h)))
            go_wp2
            go_roundw
            case rel => exact ⟨k + 1, l, by omega, by go_num, (HI.out.skip HCC.out).drewN _⟩
            case measure => simp [intOf]; omega
          | true =>
            cases b2 with
            | false =>
              have HCC := hide (HXN2.out (fun h => Bool.false_ne_true (HB2.out.2 h)))
              go_wp2
              go_roundw
              case rel => exact ⟨k + 1, l, by omega, by go_num, (HI.out.skip HCC.out).drewN _⟩
              case measure => simp [intOf]; omega
            | true =>
              have HCC := hide (HXC.out (HB1.out.1 rfl) (HB2.out.1 rfl))
              go_wp2_with fail
              have HIW := hide (HI.out.drewN (n3 + n4 + n5 + n6))
              have d3 : (wr.drewN (n3 + n4 + n5 + n6)).cell? ⟨b, 3, none⟩ = _ := c3
              have d4 : (wr.drewN (n3 + n4 + n5 + n6)).cell? ⟨b, 4, none⟩ = _ := c4
              have dk : (wr.drewN (n3 + n4 + n5 + n6)).cell? ⟨g, k, none⟩ = _ := ck
              have dv : (wr.drewN (n3 + n4 + n5 + n6)).cell? ⟨gw, Hw.of xs k, none⟩ = _ := cv
              clear HI HRR HGR c0 c3 c4 ck cwk cv HB1 HB2 HXC HXN1 HXN2 HI1 HI2 HW1 HW2
              generalize wr.drewN (n3 + n4 + n5 + n6) = W at *
              have HOWN : Hid (∀ o1, ((W.alloc o1).drew).ownsRow w2.heap.size 77 2 (.slice sa l.length cap) l.length (rcells l)) := fun o1 => HIW.out.rows.alloc o1
              obtain ⟨i0, hi0, hz0, hz1, hz2⟩ := info_parts Tryz.infoRule
              have HI0 := hide hi0
              have HZ0 := hide hz0
              have HZ1 := hide hz1
              have HZ2 := hide hz2
              clear hi0 hz0 hz1 hz2
              have hWs := HIW.out.below.size
              go_region_law (refine step_append_own rfl (.tmp 63) (.tmp 79) 68 rfl w2.heap.size 77 i0 (.agg #[.string ⟨#[]⟩, .string ⟨#[]⟩]) 2 32 Tryz.underlying68 HI0.out HZ0.out HZ1.out HZ2.out rfl (by decide) (.slice sa l.length cap) l.length (rcells l) (by simp [Act.eval, Act.put]) (by exact HOWN.out _) ⟨W.heap.size, 0, none⟩ 1 1 [.string ⟨(Hw.wordAt L M k).toArray⟩, .string ⟨(Hw.wordAt L M (Hw.of xs k)).toArray⟩] (by simp [Act.eval, Act.put]) rfl (by exact rule_new1 W _ _ _) (by intro u hu; simp at hu; rcases hu with rfl | rfl <;> rfl) (by unfold maxLen; omega) (by omega) (by simp; omega) ?_; intro v' w1 hown hgrow; obtain ⟨g2, cap2, rfl⟩ := own_shape hown; have R2 := hide (RI.more hL3 HIW.out (by exact ⟨rfl, rfl, rfl, rfl⟩) hlt HCC.out hown hgrow); clear hown hgrow)
              all_goals
                go_wp2
                go_roundw
                case rel => exact ⟨k + 1, _, by omega, by go_num, Hid.out (by assumption)⟩
                case measure => simp [intOf]; omega
    · have hkN : k = (Hw.upTo L M).length := by omega
      have hans := hI.ref.ans hL3 HD.out HR2.out.words hkN
      have HANS := hide hans
      clear hI hr hans
      generalize (Hw.upTo L M).length = N at *
      go_wp2
      go_ret
      refine ⟨l, _, rfl, HANS.out, ?_, HK.out.trans (Kept.of_below_size HI.out.below), _, HRR.out⟩
      exact RulesAt.lower HI.out.rows HK.out.size
end Go.Proofs.YtfiebibpgbadlaaGreat
