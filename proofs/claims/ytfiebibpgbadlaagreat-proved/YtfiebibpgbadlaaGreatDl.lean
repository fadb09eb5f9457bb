import Derived.Test.YtfiebibpgbadlaaGreatPu
import Derived.Test.YtfiebibpgbadlaaGreatBg
import Derived.Test.YtfiebibpgbadlaaGreatSt
import Derived.Test.YtfiebibpgbadlaaGreatCat
import Derived.Deep.LoopGhost
namespace Go.Proofs.YtfiebibpgbadlaaGreat
open Go.RowKit
set_option linter.unusedVariables false
set_option linter.unusedSimpArgs false
namespace Dr

theorem PairsAt.read {w : World} {base : Nat} {sv : Value} {said : List Hw.Rl} (h : PairsAt w base sv said) (hpos : 0 < said.length) : ∃ g cap, sv = .slice (some ⟨g, 0, none⟩) said.length cap ∧ g < w.heap.size ∧ ∀ i x y, said[i]? = some (x, y) → w.cell? ⟨g, i * 2, none⟩ = some (.string ⟨x.toArray⟩) ∧ w.cell? ⟨g, i * 2 + 1, none⟩ = some (.string ⟨y.toArray⟩) := by
  rcases h.2 with ⟨h1, h2⟩ | ⟨g, cap, cur, h1, hb, hg, hn, _, hsz, ht⟩
  · omega
  · refine ⟨g, cap, h1, lt_of_block hg, fun i x y hi => ?_⟩
    have hlt : i < said.length := (List.getElem?_eq_some_iff.1 hi).1
    have e := rcells_at said i hlt
    have hxy : said[i] = (x, y) := by rw [List.getElem?_eq_getElem hlt] at hi; simpa using hi
    rw [hxy, ← ht] at e
    rw [List.getElem?_take, if_pos (by omega), List.getElem?_take, if_pos (by omega)] at e
    refine ⟨?_, ?_⟩
    · rw [cell_of_row w g _ cur _ _ hg]; simpa using e.1
    · rw [cell_of_row w g _ cur _ _ hg]; simpa using e.2

/-- while lines are drawn. -/
def LI (w wr : World) (base d bm L M pm qb : Nat) (said : List Hw.Rl) (T i : Nat) : Prop :=
  ∃ (lv iv : Value) (ls : List Hw.Ln) (P : Hw.Pl) (K : List KM) (Q : List Hw.Wd), DM wr base d bm L M pm qb lv iv said ls P K Q ∧ Hw.DI L M said ls P (kes K) Q [] T ∧ Below base w wr ∧ ∀ (k : Nat) (p : Hw.Rl), k < i → said[k]? = some p → Hw.Tog P p.1 p.2

theorem rooted {L M T : Nat} {said : List Hw.Rl} {ls : List Hw.Ln} {P : Hw.Pl} {K : List Hw.KE} {Q ex : List Hw.Wd} (h : Hw.DI L M said ls P K Q ex T) {x y : Hw.Wd} {k l1 l2 : Nat} (hx : P x = some (k, l1)) (hy : P y = some (k, l2)) : ∃ r, Hw.Says ls l1 x r ∧ Hw.Says ls l2 y r := by
  obtain ⟨A, hA, e1, xA⟩ := h.only x k l1 hx
  obtain ⟨B, hB, e2, yB⟩ := h.only y k l2 hy
  obtain rfl : B = A := Hw.k_inj h.ids hB hA (e2.trans e1.symm)
  obtain ⟨r, hr⟩ := h.root B hB
  obtain ⟨m1, a1, a2⟩ := hr x xA
  obtain ⟨m2, b1, b2⟩ := hr y yB
  rw [hx] at a1; cases a1
  rw [hy] at b1; cases b1
  exact ⟨r, a2, b2⟩
theorem LinesAt.low {w : World} {a b : Nat} {lv : Value} {ls : List Hw.Ln} (h : LinesAt w b lv ls) (hab : a ≤ b) : LinesAt w a lv ls := by
  refine ⟨h.1, ?_⟩
  rcases h.2 with h1 | ⟨g, cap, cur, e, hb, r⟩
  · exact .inl h1
  · exact .inr ⟨g, cap, cur, e, Nat.le_trans hab hb, r⟩
/-- What Lines answers. -/
def LnP (w w' : World) (L M : Nat) (said : List Hw.Rl) (x y : Hw.Wd) (e : Ending) : Prop := ∃ ov ls, e = .returned ov ∧ LinesAt w' w.heap.size ov ls ∧ Below w.heap.size w w' ∧ ((¬ Hw.Eqv L M said x y ∧ ls = []) ∨ (Hw.Eqv L M said x y ∧ Hw.Sheet L M said ls ∧ ls.length ≤ 50000 ∧ ∃ t n, ls = t ++ [n] ∧ n.left = x ∧ n.right = y))
theorem lnp_tell {w w3 w4 : World} {d bm L M pm qb n : Nat} {lv3 iv3 : Value} {said : List Hw.Rl} {ls3 : List Hw.Ln} {P : Hw.Pl} {K : List KM} {Q : List Hw.Wd} {x y : Hw.Wd} {c : Nat} {ov : Value} {told : List Hw.Ln} (h3 : DMn w3 w.heap.size d bm L M pm qb lv3 iv3 said ls3 P K Q n) (hlow : Below w.heap.size w w3) (hs : Hw.Says ls3 c x y) (hl : ls3.length ≤ 50000)
    (h1 : LinesAt w4 w3.heap.size ov told) (h2 : Below w3.heap.size w3 w4) (h4 : Hw.Sheet L M said told) (h5 : told.length ≤ c + 1) (h6 : ∃ t n, told = t ++ [n] ∧ n.left = x ∧ n.right = y) : LnP w w4 L M said x y (.returned ov) := by
  have hz := hlow.size
  have hc := hs.lt
  exact ⟨ov, told, rfl, LinesAt.low h1 hz, hlow.trans (h2.mono hz), .inr ⟨h3.sh.sheet.sound c x y hs, h4, by omega, h6⟩⟩
theorem lnp_none {w w4 : World} {L M T : Nat} {said : List Hw.Rl} {ls : List Hw.Ln} {P : Hw.Pl} {K : List Hw.KE} {x y : Hw.Wd} {k1 l1 k2 l2 : Nat} (hL : L ≤ 3) (h : Hw.DI L M said ls P K [] [] T) (hx : P x = some (k1, l1)) (hy : P y = some (k2, l2)) (hk : k1 ≠ k2) (hw : ∀ p, p ∈ said → Hw.isWord L M p.1 = true ∧ Hw.isWord L M p.2 = true) (ht : ∀ (k : Nat) (p : Hw.Rl), k < said.length → said[k]? = some p → Hw.Tog P p.1 p.2)
    (hb : Below w.heap.size w w4) : LnP w w4 L M said x y (.returned (.slice none 0 0)) := by
  refine ⟨_, [], rfl, ⟨rfl, .inl ⟨rfl, rfl⟩⟩, hb, .inl ⟨fun he => ?_, rfl⟩⟩
  have := h.done hL (fun p hp => by
    obtain ⟨k, hk, e⟩ := List.getElem_of_mem hp
    exact ⟨(hw p hp).1, (hw p hp).2, .inr (ht k p hk (by rw [List.getElem?_eq_getElem hk, e]))⟩) he
  rcases this with rfl | ⟨k, m1, m2, a1, a2⟩
  · rw [hx] at hy; cases hy; exact hk rfl
  · rw [hx] at a1; cases a1
    rw [hy] at a2; cases a2
    exact hk rfl

theorem LI.step {w wr w1 : World} {base d bm L M pm qb : Nat} {said : List Hw.Rl} {T i : Nat} {o : Obj} {lv1 iv1 : Value} {ls1 : List Hw.Ln} {P P1 : Hw.Pl} {K1 : List KM} {Q1 : List Hw.Wd} {a b : Hw.Wd} (hlow : Below base w wr) (hsz : base ≤ wr.heap.size)
    (h : DS (wr.alloc o) w1 base d bm L M pm qb lv1 iv1 said P ls1 P1 K1 Q1 [] T) (ht : Hw.Tog P1 a b) (hn : said[i]? = some (a, b)) (hold : ∀ (k : Nat) (p : Hw.Rl), k < i → said[k]? = some p → Hw.Tog P p.1 p.2) : LI w w1 base d bm L M pm qb said T (i + 1) := by
  refine ⟨lv1, iv1, ls1, P1, K1, Q1, h.dm, h.di, (hlow.trans (low_of hsz (below_alloc wr o))).trans h.low, fun k p hk hp => ?_⟩
  by_cases e : k = i
  · subst e
    rw [hn] at hp; cases hp
    exact ht
  · exact h.tog _ _ (hold k p (by omega) hp)

set_option maxRecDepth 20000 in
set_option maxHeartbeats 3200000 in
theorem lines_any (HJC : JoinC) (w : World) (sdv : Value) (L M : Nat) (said : List Hw.Rl) (x y : Hw.Wd) (hL1 : 1 ≤ L) (hL3 : L ≤ 3) (hM6 : M ≤ 6) (hlen : said.length ≤ 100000) (hsaid : ∀ p, p ∈ said → Hw.isWord L M p.1 = true ∧ Hw.isWord L M p.2 = true) (hx : Hw.isWord L M x = true) (hy : Hw.isWord L M y = true) (hP : PairsAt w 0 sdv said) :
    Calls Tryz.prog 34 #[sdv, .int .i64 (L : Int), .int .i64 (M : Int), .string ⟨x.toArray⟩, .string ⟨y.toArray⟩] w fun e w' => LnP w w' L M said x y e := by
  obtain ⟨sa, cap, rfl⟩ := hP.shape
  have HP := hide hP
  have HSD := hide hsaid
  have HX := hide hx
  have HY := hide hy
  clear hP hsaid hx hy
  go_enter Tryz.func34, Tryz.ntmps34
  go_wp2_with fail
  refine (begin_any w L M said).mono ?_
  rintro e w1 ⟨d, bm, pm, qb, lv1, iv1, rfl, hd1, hb1⟩
  have H0 : Hid (LI w w1 w.heap.size d bm L M pm qb said 0 0) := ⟨lv1, iv1, [], _, [], [], hd1, Hw.DI.start L M said, hb1, fun k p hk => by omega⟩
  clear hd1 hb1
  go_wp2_with fail
  go_loopw [21] (fun iv wr => ∃ i : Nat, i ≤ said.length ∧ iv = .int .i64 (i : Int) ∧ Hid (LI w wr w.heap.size d bm L M pm qb said 0 i)) (fun iv _ => said.length - (intOf iv).toNat)
  case atStart => exact ⟨0, Nat.zero_le _, rfl, H0⟩
  case round =>
    clear H0
    obtain ⟨i, hi, rfl, HI⟩ := hrel
    by_cases hlt : i < said.length
    · obtain ⟨lv, iv, ls, P, K, Q, hd, hdi, hlow, htog⟩ := HI.out
      obtain ⟨g, cap', e1, hgl, hcells⟩ := PairsAt.read HP.out (by omega)
      simp only [Value.slice.injEq] at e1
      obtain ⟨rfl, -, rfl⟩ := e1
      have hn := List.getElem?_eq_getElem hlt
      generalize said[i] = p at hn
      obtain ⟨a, b⟩ := p
      obtain ⟨k0, k1⟩ := hcells i a b hn
      have c0 := (hlow.cell (p := ⟨g, i * 2, none⟩) hgl).trans k0
      have c1 := (hlow.cell (p := ⟨g, i * 2 + 1, none⟩) hgl).trans k1
      obtain ⟨hwa, hwb⟩ := HSD.out (a, b) (List.mem_of_getElem? hn)
      have HWA : Hid (Hw.isWord L M a = true) := hwa
      have HWB : Hid (Hw.isWord L M b = true) := hwb
      have HN := hide hn
      have HD := hide hd
      have HDI := hide hdi
      have HLOW := hide hlow
      have HTOG := hide htog
      clear hd hdi hlow htog hn hwa hwb hcells k0 k1 HI
      have hiI : (i : Int) < (said.length : Int) := by omega
      have HDA := hide (HD.out.below (below_alloc wr (.cells #[.string ⟨a.toArray⟩, .string ⟨b.toArray⟩] 102)))
      go_wp2_with fail
      refine (apart_anyF _ w.heap.size d bm L M pm qb lv iv said ls P K Q [] 0 a b hL3 hM6 HWA.out HWB.out HDA.out HDI.out).mono ?_
      rintro e w2 ⟨⟨bq, k1, l1, k2, l2, lv2, ls2, P2, K2, rfl, hbq, hs2, hp1, hp2, _, _, he2⟩, hfr⟩
      have hbx := hfr _ _ _ (heap_alloc_new wr (.cells #[.string ⟨a.toArray⟩, .string ⟨b.toArray⟩] 102))
      have x0 := cellAt hbx (j := 0) (v := .string ⟨a.toArray⟩) rfl
      have x1 := cellAt hbx (j := 1) (v := .string ⟨b.toArray⟩) rfl
      have HS2 := hide hs2
      have HP2 := hide (And.intro hp1 hp2)
      clear hs2 hp1 hp2 he2 hfr hbx c0 c1
      cases bq with
      | false =>
        have hk : k1 = k2 := by
          by_cases h : k1 = k2
          · exact h
          · exact absurd (hbq.2 h) (by simp)
        clear hbq
        have HF := hide (LI.step HLOW.out HD.out.size HS2.out (a := a) (b := b) ⟨_, _, _, HP2.out.1, by rw [hk]; exact HP2.out.2⟩ HN.out HTOG.out)
        clear hk
        go_wp2
        go_roundw
        case rel => exact ⟨i + 1, by omega, by go_num, HF⟩
        case measure => simp [intOf]; omega
      | true =>
        have hk := hide (hbq.1 rfl)
        clear hbq
        have hlen2 := hide (HS2.out.di.bound hL3 hM6).2.1
        have HS2d := hide (HS2.out.dm.same (drew_same w2))
        have HST : Hid (∀ {w3 w4 c3 lv3 ls3 lv4 iv4 ls4 P4 K4 Q4}, ShS w2.drew w3 w.heap.size d bm L M pm qb lv2 lv3 said ls2 ls3 1 → Hw.Says ls3 c3 a b → DS w3 w4 w.heap.size d bm L M pm qb lv4 iv4 said P2 ls4 P4 K4 Q4 [] 0 → Hw.Tog P4 a b → LI w w4 w.heap.size d bm L M pm qb said 0 (i + 1)) := fun {w3 w4 c3 lv3 ls3 lv4 iv4 ls4 P4 K4 Q4} h3 hc h4 t4 =>
          LI.step HLOW.out HD.out.size (o := .cells #[.string ⟨a.toArray⟩, .string ⟨b.toArray⟩] 102) (a := a) (b := b) ⟨h4.dm, h4.di, ((HS2.out.low.trans (low_of HS2.out.dm.size (below_same (drew_same w2)))).trans (HS2d.out.sheet h3).2).trans h4.low, fun y z hyz => h4.tog _ _ (HS2.out.tog _ _ hyz)⟩ t4 HN.out HTOG.out
        have ha6 : a.length ≤ 6 := by have := Hw.isWord_len HWA.out; omega
        have hb6 : b.length ≤ 6 := by have := Hw.isWord_len HWB.out; omega
        go_wp2_with fail
        go_region_with
          (first
            | (have hh3 := H3; clear hh3; go_at_call 57; refine (HJC w3 w.heap.size d bm L M pm qb lv3 iv said ls3 ls2 P2 K2 Q [] 0 c k1 l1 k2 l2 a b hL1 hL3 hM6 H3.out.1 HS2.out.di HS3.out.ext ⟨HC3.out, HP2.out.1, HP2.out.2, hk.out, ha6, hb6⟩).mono ?_; rintro e w4 ⟨rfl, lv4, iv4, ls4, P4, K4, Q4, h4, t4, _⟩; have HF := hide (HST.out HS3.out HC3.out h4 t4); clear h4 t4)
            | (go_at_call 58; refine (said_any _ w.heap.size d bm L M pm qb lv2 said ls2 i a b HN.out (by exact HS2d.out.sh) (Nat.le_trans hlen2.out (by decide)) (by exact HS2d.out.size) HWA.out HWB.out).mono ?_; rintro e w3 ⟨c, lv3, ls3, rfl, hs3, hc3⟩; have H3 := hide (HS2d.out.sheet hs3); have HS3 := hide hs3; have HC3 := hide hc3; clear hs3 hc3))
        all_goals
          clear x0 x1
          go_wp2
          go_roundw
          case rel => exact ⟨i + 1, by omega, by go_num, HF⟩
          case measure => simp [intOf]; omega
    · obtain rfl : i = said.length := by omega
      go_wp2_with fail
      go_loopg [] 1094 (fun gk wr => ∃ T : Nat, T + gk = 1094 ∧ Hid (LI w wr w.heap.size d bm L M pm qb said T said.length))
      case atStart => exact ⟨0, rfl, HI⟩
      case round =>
        clear HI
        obtain ⟨T, hT, HI⟩ := hrel
        obtain ⟨lv, iv, ls, P, K, Q, hd, hdi, hlow, htog⟩ := HI.out
        have HD := hide hd
        have HDI := hide hdi
        have HLOW := hide hlow
        have HTOG := hide htog
        clear hd hdi hlow htog HI
        have HTT := hide hT
        clear hT
        go_wp2_with fail
        refine (apart_any wr w.heap.size d bm L M pm qb lv iv said ls P K Q [] T x y hL3 hM6 HX.out HY.out HD.out HDI.out).mono ?_
        rintro e w2 ⟨bq, k1, l1, k2, l2, lv2, ls2, P2, K2, rfl, hbq, hs2, hp1, hp2, _, _, he2⟩
        have HS2 := hide hs2
        have HP1 := hide hp1
        have HP2 := hide hp2
        have HL2 := hide (HLOW.out.trans hs2.low)
        have HT2 : Hid (∀ (k : Nat) (p : Hw.Rl), k < said.length → said[k]? = some p → Hw.Tog P2 p.1 p.2) := fun k p h1 h2 => hs2.tog _ _ (HTOG.out k p h1 h2)
        clear hs2 hp1 hp2 he2 HD HDI HLOW HTOG
        cases bq with
        | false =>
          have hk : k1 = k2 := by
            by_cases h : k1 = k2
            · exact h
            · exact absurd (hbq.2 h) (by simp)
          clear hbq
          subst hk
          obtain ⟨r, hr1, hr2⟩ := rooted HS2.out.di HP1.out HP2.out
          have HR1 := hide hr1
          have HR2 := hide hr2
          have hlen2 := hide (HS2.out.di.bound hL3 hM6).2.1
          have HS2d := hide (HS2.out.dm.same (drew_same w2))
          have HL2d := hide (HL2.out.trans (low_of HS2.out.dm.size (below_same (drew_same w2))))
          have hx6 : x.length ≤ 6 := by have := Hw.isWord_len HX.out; omega
          have hy6 : y.length ≤ 6 := by have := Hw.isWord_len HY.out; omega
          clear hr1 hr2
          go_wp2_with fail
          go_region_with
            (first
              | (have hh3 := H3; clear hh3; go_at_call 61; refine (tell_any w3 w.heap.size d bm L M pm qb lv3 said ls3 c x y hM6 H3.out.1.sh H3.out.2.2.2 H3.out.2.2.1).mono ?_; rintro e w4 ⟨ov, told, rfl, t1, t2, t3, t4, t5⟩; have HF := hide (lnp_tell H3.out.1 H3.out.2.1 H3.out.2.2.1 H3.out.2.2.2 t1 t2 t3 t4 t5); clear t1 t2 t3 t4 t5)
              | (go_at_call 62; refine (between_any _ w.heap.size d bm L M pm qb lv2 iv said ls2 P2 K2 Q x y r k1 l1 l2 _ hx6 hy6 (by exact HS2d.out) (Nat.le_trans hlen2.out (by decide)) HP1.out HP2.out HR1.out HR2.out).mono ?_; rintro e w3 ⟨c, lv3, ls3, rfl, hd3, hb3, he3, hs3⟩; have H3 := hide (And.intro hd3 (And.intro (HL2d.out.trans hb3) (And.intro hs3 (Nat.le_trans he3.len (Nat.le_trans (Nat.add_le_add_right hlen2.out 2) (show 39348 + 2 ≤ 50000 by decide)))))); clear hd3 hb3 he3 hs3))
          all_goals
            go_wp2
            go_ret
            exact HF.out
        | true =>
          have hk := hide (hbq.1 rfl)
          clear hbq
          have d5 : w2.cell? ⟨d, 5, none⟩ = some (.pointer (some ⟨qb, 0, none⟩)) := cellAt HS2.out.dm.sh.blk rfl
          go_wp2_with fail
          cases Q with
          | nil =>
            refine (Qs.take_none w2 w.heap.size qb iv HS2.out.dm.q).mono ?_
            rintro e w3 ⟨rfl, hb3⟩
            have HF := hide (lnp_none (w4 := w3) hL3 HS2.out.di HP1.out HP2.out hk.out HSD.out HT2.out (HL2.out.trans (low_of HS2.out.dm.size hb3)))
            clear hb3 d5
            go_wp2
            go_ret
            exact HF.out
          | cons q0 Q0 =>
            have hQl := (HS2.out.di.bound hL3 hM6).2.2
            have HQL := hide hQl
            simp at hQl
            refine (Qs.take_some w2 w.heap.size qb iv (q0 :: Q0) (by simp; omega) (by simp) HS2.out.dm.q).mono ?_
            rintro e w3 ⟨q, iv3, Q3, rfl, ht3⟩
            have HD3 := hide (HS2.out.dm.queue ht3.kept ht3.fresh ht3.q)
            have HQ3 := hide ht3
            clear ht3 d5 hQl
            go_wp2_with fail
            refine (spread_any HJC w3 w.heap.size d bm L M pm qb lv2 iv3 said ls2 P2 K2 (q0 :: Q0) Q3 [] T q hL1 hL3 hM6 HD3.out.1 HS2.out.di HQ3.out.mem1 HQ3.out.mem2 HQ3.out.mem3 HQ3.out.len).mono ?_
            rintro e w4 ⟨rfl, lv4, iv4, ls4, P4, K4, Q4, h4⟩
            have HF : Hid (LI w w4 w.heap.size d bm L M pm qb said (T + 1) said.length) := ⟨lv4, iv4, ls4, P4, K4, Q4, h4.dm, h4.di, (HL2.out.trans HD3.out.2).trans h4.low, fun k p h1 h2 => h4.tog _ _ (HT2.out k p h1 h2)⟩
            clear h4
            go_wp2
            go_roundg (gk - 1)
            case measure => have := HTT.out; have := HQL.out; simp at this; omega
            case rel => exact ⟨T + 1, by have := HTT.out; have := HQL.out; simp at this; omega, HF⟩
end Dr
end Go.Proofs.YtfiebibpgbadlaaGreat
