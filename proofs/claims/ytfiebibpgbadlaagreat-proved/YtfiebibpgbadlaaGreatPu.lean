import Derived.Test.YtfiebibpgbadlaaGreatDp
import Derived.Deep.QuietTactic
import Derived.BigQuiet
import Derived.Test.YtfiebibpgbadlaaGreatCnt
namespace Go.Proofs.YtfiebibpgbadlaaGreat
open Go.RowKit
set_option linter.unusedVariables false
set_option linter.unusedSimpArgs false
namespace Dr

/-- What join does (it is proved in a text of its own). -/
def JoinC : Prop := ∀ (w : World) (base d bm L M pm qb : Nat) (lv iv0 : Value) (said : List Hw.Rl) (ls ls0 : List Hw.Ln) (P : Hw.Pl) (K : List KM) (Q ex : List Hw.Wd) (T : Nat) (c k1 l1 k2 l2 : Nat) (x y : Hw.Wd) (hL1 : 1 ≤ L) (hL3 : L ≤ 3) (hM6 : M ≤ 6) (hD : DM w base d bm L M pm qb lv iv0 said ls P K Q) (hI : Hw.DI L M said ls0 P (kes K) Q ex T) (he : Hw.Ext ls0 ls 1) (hJ : JIn L ls P K c k1 l1 k2 l2 x y),
    Calls Tryz.prog 57 #[.pointer (some ⟨d, 0, none⟩), .int .i64 (c : Int)] w fun e w' => e = .returned (.tuple #[]) ∧ ∃ lv' iv' ls' P' K' Q', DS w w' base d bm L M pm qb lv' iv' said P ls' P' K' Q' ex T ∧ Hw.Tog P' x y ∧ ∃ N, Hw.Ext ls ls' N

/-- What put does: both words stand in one kind then. -/
def PuP (w w' : World) (base d bm L M pm qb : Nat) (said : List Hw.Rl) (P : Hw.Pl) (ls : List Hw.Ln) (ex : List Hw.Wd) (T : Nat) (x y : Hw.Wd) : Prop :=
  ∃ (lv' iv' : Value) (ls' : List Hw.Ln) (P' : Hw.Pl) (K' : List KM) (Q' : List Hw.Wd), DS w w' base d bm L M pm qb lv' iv' said P ls' P' K' Q' ex T ∧ Hw.Tog P' x y ∧ ∃ N, Hw.Ext ls ls' N

theorem pup_join {w w1 w2 w3 : World} {base d bm L M pm qb : Nat} {lv1 lv3 iv1 iv3 : Value} {said : List Hw.Rl} {ls ls1 ls2 ls3 : List Hw.Ln} {P P1 P3 : Hw.Pl} {K1 K3 : List KM} {Q1 Q3 ex : List Hw.Wd} {T n : Nat} {x y : Hw.Wd}
    (h1 : DS w w1 base d bm L M pm qb lv1 iv1 said P ls1 P1 K1 Q1 ex T) (e1 : Hw.Ext ls ls1 n) (h2 : Below base w1 w2) (e2 : Hw.Ext ls1 ls2 1) (h3 : DS w2 w3 base d bm L M pm qb lv3 iv3 said P1 ls3 P3 K3 Q3 ex T) (t3 : Hw.Tog P3 x y) (e3 : ∃ N, Hw.Ext ls2 ls3 N) : PuP w w3 base d bm L M pm qb said P ls ex T x y := by
  obtain ⟨N, e3⟩ := e3
  exact ⟨lv3, iv3, ls3, P3, K3, Q3, ⟨h3.dm, h3.di, (h1.low.trans h2).trans h3.low, fun a b hab => h3.tog _ _ (h1.tog _ _ hab)⟩, t3, _, (e1.trans e2).trans e3⟩

set_option maxRecDepth 20000 in
set_option maxHeartbeats 3200000 in
theorem put_any (HJC : JoinC) (w : World) (base d bm L M pm qb : Nat) (lv iv : Value) (said : List Hw.Rl) (ls : List Hw.Ln) (P : Hw.Pl) (K : List KM) (Q ex : List Hw.Wd) (T a : Nat) (x y u v : Hw.Wd) (hL1 : 1 ≤ L) (hL3 : L ≤ 3) (hM6 : M ≤ 6) (hD : DM w base d bm L M pm qb lv iv said ls P K Q) (hI : Hw.DI L M said ls P (kes K) Q ex T)
    (hs : Hw.Says ls a x y) (hx : Hw.isWord L M (u ++ x ++ v) = true) (hy : Hw.isWord L M (u ++ y ++ v) = true) :
    Calls Tryz.prog 93 #[.pointer (some ⟨d, 0, none⟩), .int .i64 (a : Int), .string ⟨u.toArray⟩, .string ⟨v.toArray⟩] w fun e w' => e = .returned (.tuple #[]) ∧ PuP w w' base d bm L M pm qb said P ls ex T (u ++ x ++ v) (u ++ y ++ v) := by
  have hlen := (hI.bound hL3 hM6).2.1
  obtain ⟨g, cap, rfl, hgl, hline⟩ := hD.sh.line hs
  have hal := hs.lt
  have HS := hide hs
  obtain ⟨n1, hn1, hx1, hy1⟩ := hs
  obtain ⟨_, a1, a2, _⟩ := hline a n1 hn1
  rw [hx1] at a1
  rw [hy1] at a2
  have c0 := cellAt hD.sh.blk (j := 0) (v := .slice (some ⟨g, 0, none⟩) ls.length cap) rfl
  have hdl : d < w.heap.size := lt_of_block hD.sh.blk
  have haI : (a : Int) < (ls.length : Int) := by omega
  have hxl := Hw.isWord_len hx
  have hyl := Hw.isWord_len hy
  have hX6 : (u ++ x ++ v).length ≤ 6 := by omega
  have hY6 : (u ++ y ++ v).length ≤ 6 := by omega
  simp at hxl hyl
  have p1 := add3 u x v
  have p2 := add3 u y v
  have HD := hide hD
  have HI := hide hI
  have HX := hide hx
  have HY := hide hy
  clear hD hI hline hn1 hx1 hy1 hx hy
  generalize hEX : u ++ x ++ v = X at *
  generalize hEY : u ++ y ++ v = Y at *
  have HEX := hide hEX
  have HEY := hide hEY
  clear hEX hEY
  go_enter Tryz.func93, Tryz.ntmps93
  go_wp2_with fail
  go_quiet (fail)
  have HD1 := hide (HD.out.same (w' := w.drewN nq) ⟨rfl, rfl, rfl, rfl⟩)
  have HB1 := hide (below_same (w := w) (w' := w.drewN nq) ⟨rfl, rfl, rfl, rfl⟩)
  generalize w.drewN nq = w0 at HD1 HB1 ⊢
  clear c0 a1 a2
  go_wp2_with fail
  refine (apart_any w0 base d bm L M pm qb _ iv said ls P K Q ex T X Y hL3 hM6 HX.out HY.out HD1.out HI.out).mono ?_
  rintro e w1 ⟨b, k1, l1, k2, l2, lv1, ls1, P1, K1, rfl, hb1, hs1, hp1, hp2, _, _, he1⟩
  have HA : Hid (DS w w1 base d bm L M pm qb lv1 iv said P ls1 P1 K1 Q ex T) := ⟨hs1.dm, hs1.di, (low_of HD.out.size HB1.out).trans hs1.low, hs1.tog⟩
  have HP := hide (And.intro hp1 (And.intro hp2 he1))
  clear hs1 hp1 hp2 he1
  cases b with
  | false =>
    have hk : k1 = k2 := by
      by_cases h : k1 = k2
      · exact h
      · exact absurd (hb1.2 h) (by simp)
    subst hk
    go_wp2
    go_end0
    exact ⟨rfl, lv1, iv, ls1, P1, K1, Q, HA.out, ⟨_, _, _, HP.out.1, HP.out.2.1⟩, 2, HP.out.2.2⟩
  | true =>
    have hk := hide (hb1.1 rfl)
    clear hb1
    have hlen1 := hide (HA.out.di.bound hL3 hM6).2.1
    clear hlen
    go_wp2_with fail
    refine (within_any base d bm L M pm qb hM6 said a w1 lv1 ls1 x y u v (HP.out.2.2.says HS.out) HA.out.dm.sh (Nat.le_trans hlen1.out (by decide)) HA.out.dm.size (by rw [HEX.out]; exact HX.out) (by rw [HEY.out]; exact HY.out)).mono ?_
    rintro e w2 ⟨c, lv2, ls2, rfl, hs2, hc2⟩
    rw [HEX.out, HEY.out] at hc2
    have H2 := hide (HA.out.dm.sheet hs2)
    have HE2 := hide hs2.ext
    have HC2 := hide hc2
    clear hs2 hc2
    go_wp2_with fail
    refine (HJC w2 base d bm L M pm qb lv2 iv said ls2 ls1 P1 K1 Q ex T c k1 l1 k2 l2 X Y hL1 hL3 hM6 H2.out.1 HA.out.di HE2.out ⟨HC2.out, HP.out.1, HP.out.2.1, hk.out, hX6, hY6⟩).mono ?_
    rintro e w3 ⟨rfl, lv3, iv3, ls3, P3, K3, Q3, h3, t3, e3⟩
    have HF := hide (pup_join HA.out HP.out.2.2 H2.out.2 HE2.out h3 t3 e3)
    clear h3 t3 e3
    go_wp2
    go_end0
    exact ⟨rfl, HF.out⟩
end Dr
end Go.Proofs.YtfiebibpgbadlaaGreat
namespace Hw
theorem chr_of {L : Nat} {c : UInt8} (h : okc L c = true) : ∃ j, j < L ∧ c = chr j := by
  simp [okc] at h
  refine ⟨c.toNat - 97, by omega, ?_⟩
  unfold chr
  rw [show 97 + (c.toNat - 97) = c.toNat by omega]
  simp
end Hw
namespace Go.Proofs.YtfiebibpgbadlaaGreat
open Go.RowKit
set_option linter.unusedVariables false
set_option linter.unusedSimpArgs false
namespace Dr

/-- the first letters are put around. -/
def SpI (w wr : World) (base d bm L M pm qb : Nat) (said : List Hw.Rl) (P0 : Hw.Pl) (ex : List Hw.Wd) (T : Nat) (x m : Hw.Wd) (c i : Nat) : Prop :=
  ∃ (lv iv : Value) (ls : List Hw.Ln) (P : Hw.Pl) (K : List KM) (Q : List Hw.Wd), DS w wr base d bm L M pm qb lv iv said P0 ls P K Q ex T ∧ Hw.Says ls c x m ∧ ∀ j, j < i → Hw.Tog P (x ++ [Hw.chr j]) (m ++ [Hw.chr j]) ∧ Hw.Tog P (Hw.chr j :: x) (Hw.chr j :: m)

theorem SpI.step {w wr w1 w2 : World} {base d bm L M pm qb : Nat} {lv iv lv1 iv1 : Value} {said : List Hw.Rl} {P0 P P1 : Hw.Pl} {ls ls1 : List Hw.Ln} {K K1 : List KM} {Q Q1 ex : List Hw.Wd} {T : Nat} {x m : Hw.Wd} {c i : Nat}
    (h : DS w wr base d bm L M pm qb lv iv said P0 ls P K Q ex T) (hs : Hw.Says ls c x m) (hj : ∀ j, j < i → Hw.Tog P (x ++ [Hw.chr j]) (m ++ [Hw.chr j]) ∧ Hw.Tog P (Hw.chr j :: x) (Hw.chr j :: m))
    (h1 : DS wr w1 base d bm L M pm qb lv1 iv1 said P ls1 P1 K1 Q1 ex T) (t1 : Hw.Tog P1 ([] ++ x ++ [Hw.chr i]) ([] ++ m ++ [Hw.chr i])) (e1 : ∃ N, Hw.Ext ls ls1 N) (h2 : PuP w1 w2 base d bm L M pm qb said P1 ls1 ex T ([Hw.chr i] ++ x ++ []) ([Hw.chr i] ++ m ++ [])) :
    SpI w w2 base d bm L M pm qb said P0 ex T x m c (i + 1) := by
  obtain ⟨lv2, iv2, ls2, P2, K2, Q2, d2, t2, N2, e2⟩ := h2
  obtain ⟨N1, e1⟩ := e1
  refine ⟨lv2, iv2, ls2, P2, K2, Q2, (h.trans h1).trans d2, e2.says (e1.says hs), fun j hj' => ?_⟩
  by_cases e : j = i
  · subst e
    refine ⟨?_, ?_⟩
    · have := d2.tog _ _ t1
      simpa using this
    · simpa using t2
  · have := hj j (by omega)
    exact ⟨d2.tog _ _ (h1.tog _ _ this.1), d2.tog _ _ (h1.tog _ _ this.2)⟩

/-- What spread does. -/
def SpP (w w' : World) (base d bm L M pm qb : Nat) (said : List Hw.Rl) (P : Hw.Pl) (ex : List Hw.Wd) (T : Nat) : Prop :=
  ∃ (lv' iv' : Value) (ls' : List Hw.Ln) (P' : Hw.Pl) (K' : List KM) (Q' : List Hw.Wd), DS w w' base d bm L M pm qb lv' iv' said P ls' P' K' Q' ex T

theorem SpI.fin {w wr : World} {base d bm L M pm qb : Nat} {said : List Hw.Rl} {P0 : Hw.Pl} {ex : List Hw.Wd} {T : Nat} {x m : Hw.Wd} {c : Nat} (h : SpI w wr base d bm L M pm qb said P0 (x :: ex) T x m c L) (ht : Hw.Tog P0 x m) (hf : Hw.fold L m < Hw.fold L x) : SpP w wr base d bm L M pm qb said P0 ex T := by
  obtain ⟨lv, iv, ls, P, K, Q, hd, hs, hj⟩ := h
  refine ⟨lv, iv, ls, P, K, Q, hd.dm, hd.di.spread ⟨m, hd.tog _ _ ht, hf, fun c hc => ?_⟩, hd.low, hd.tog⟩
  obtain ⟨j, h1, rfl⟩ := Hw.chr_of hc
  exact hj j h1

set_option maxRecDepth 20000 in
set_option maxHeartbeats 3200000 in
theorem spread_any (HJC : JoinC) (w : World) (base d bm L M pm qb : Nat) (lv iv : Value) (said : List Hw.Rl) (ls : List Hw.Ln) (P : Hw.Pl) (K : List KM) (Q0 Q ex : List Hw.Wd) (T : Nat) (x : Hw.Wd) (hL1 : 1 ≤ L) (hL3 : L ≤ 3) (hM6 : M ≤ 6) (hD : DM w base d bm L M pm qb lv iv said ls P K Q) (hI : Hw.DI L M said ls P (kes K) Q0 ex T)
    (hx : x ∈ Q0) (hQ : ∀ y, y ∈ Q0 → y = x ∨ y ∈ Q) (hQ' : ∀ y, y ∈ Q → y ∈ Q0) (hl : Q.length + 1 = Q0.length) :
    Calls Tryz.prog 60 #[.pointer (some ⟨d, 0, none⟩), .string ⟨x.toArray⟩] w fun e w' => e = .returned (.tuple #[]) ∧ SpP w w' base d bm L M pm qb said P ex (T + 1) := by
  have hlen := hide (hI.bound hL3 hM6).2.1
  obtain ⟨hxM, A, hA, hxA, hxm⟩ := hI.qs x hx
  obtain ⟨r, hr⟩ := hI.root A hA
  obtain ⟨hm, hle⟩ := hI.least A hA
  obtain ⟨l1, p1, s1⟩ := hr x hxA
  obtain ⟨l2, p2, s2⟩ := hr A.m hm
  have hwx := hI.placed hA hxA
  have hwm := hI.placed hA hm
  have hmx := hle x hxA
  have hlx := Hw.isWord_len hwx
  have hlm := Hw.length_le_of_fold hL3 ((Hw.isWord_iff _ _ _).1 hwm).1 ((Hw.isWord_iff _ _ _).1 hwx).1 hmx
  have hfl : Hw.fold L A.m < Hw.fold L x := by
    rcases Nat.lt_or_eq_of_le hmx with h | h
    · exact h
    · exact absurd (Hw.fold_inj hL3 M _ _ hwm hwx h).symm hxm
  obtain ⟨A, hA0, rfl⟩ := List.mem_map.1 hA
  have kb := (hD.kd A hA0).blk
  have HT : Hid (Hw.Tog P x A.m) := ⟨_, _, _, p1, p2⟩
  have HP1 : Hid (P x = some (A.k, l1)) := p1
  have HP2 : Hid (P A.m = some (A.k, l2)) := p2
  have HS1 : Hid (Hw.Says ls l1 x r) := s1
  have HS2 : Hid (Hw.Says ls l2 A.m r) := s2
  have hm6 : A.m.length ≤ 6 := by have h : A.m.length ≤ x.length := hlm; omega
  have hx6 : x.length ≤ 6 := by omega
  have HFL : Hid (Hw.fold L A.m < Hw.fold L x) := hfl
  have hw : ∀ i, i < L → Hw.isWord L M ([] ++ x ++ [Hw.chr i]) = true ∧ Hw.isWord L M ([] ++ A.m ++ [Hw.chr i]) = true ∧ Hw.isWord L M ([Hw.chr i] ++ x ++ []) = true ∧ Hw.isWord L M ([Hw.chr i] ++ A.m ++ []) = true := by
    intro i hi
    have hc := Hw.chr_ok hL3 hi
    have w1 := (Hw.isWord_iff _ _ _).1 hwx
    have w2 := (Hw.isWord_iff _ _ _).1 hwm
    have hlm' : A.m.length ≤ x.length := hlm
    simp at w1 w2
    have e1 : A.ke.m = A.m := rfl
    rw [e1] at w2
    refine ⟨?_, ?_, ?_, ?_⟩ <;> rw [Hw.isWord_iff] <;> simp [hc] <;> first | exact ⟨w1.1, by omega⟩ | exact ⟨w2.1, by omega⟩
  have HW := hide hw
  have HEXT : Hid (∀ ls', Hw.Sheet L M said ls' → Hw.Ext ls ls' 2 → Hw.DI L M said ls' P (kes K) Q (x :: ex) (T + 1)) := fun ls' h1 h2 => hI.ext h1 h2 hx hQ hQ' hl
  have kc := cellAt kb (j := 1) (v := .string ⟨A.m.toArray⟩) rfl
  have hkl := lt_of_block kb
  generalize hmm : A.m = m at *
  have HD := hide hD
  have hfld := field0
  clear hI hx hQ hQ' hl hA hxA hxm hr hm hle p1 p2 s1 s2 hwx hwm hmx hlm hfl hw kb hmm hD
  go_enter Tryz.func60, Tryz.ntmps60
  go_wp2_with fail
  refine (at_old w base d bm L M pm qb lv iv said ls P K Q x A.k l1 _ hx6 HD.out HP1.out).mono ?_
  rintro e w1 ⟨rfl, hb1⟩
  have HD1 := hide (HD.out.below hb1)
  have HB1 := hide (low_of HD.out.size hb1)
  have kc1 := (hb1.cell (p := ⟨A.k, 1, none⟩) hkl).trans kc
  clear hb1 kc
  go_wp2_with fail
  refine (between_any w1 base d bm L M pm qb lv iv said ls P K Q x m r A.k l1 l2 _ hx6 hm6 HD1.out (Nat.le_trans hlen.out (by decide)) HP1.out HP2.out HS1.out HS2.out).mono ?_
  rintro e w2 ⟨c, lv2, ls2, rfl, hd2, hb2, he2, hs2⟩
  have H0 : Hid (SpI w w2 base d bm L M pm qb said P (x :: ex) (T + 1) x m c 0) := ⟨lv2, iv, ls2, P, K, Q, ⟨hd2, HEXT.out ls2 hd2.sh.sheet he2, HB1.out.trans hb2, fun _ _ h => h⟩, hs2, fun j hj => by omega⟩
  have d2 : w2.cell? ⟨d, 2, none⟩ = some (.int .i64 (L : Int)) := cellAt hd2.sh.blk rfl
  clear hd2 hb2 he2 hs2 kc1 hfld HEXT hlen
  go_wp2_with fail
  clear d2
  go_loopw [21] (fun iv wr => ∃ i : Nat, i ≤ L ∧ iv = .int .i64 (i : Int) ∧ Hid (SpI w wr base d bm L M pm qb said P (x :: ex) (T + 1) x m c i)) (fun iv _ => L - (intOf iv).toNat)
  case atStart => exact ⟨0, Nat.zero_le _, rfl, H0⟩
  case round =>
    clear H0 HD HD1 HB1 HP1 HP2 HS1 HS2
    obtain ⟨i, hi, rfl, HSI⟩ := hrel
    by_cases hlt : i < L
    · have hcv := conv_chr i (by omega)
      obtain ⟨W1, W2, W3, W4⟩ := HW.out i hlt
      have HW1 := hide W1
      have HW2 := hide W2
      have HW3 := hide W3
      have HW4 := hide W4
      clear W1 W2 W3 W4
      obtain ⟨lv3, iv3, ls3, P3, K3, Q3, hd3, hs3, hj3⟩ := HSI.out
      have HD3 := hide hd3
      have HS3 := hide hs3
      have HJ3 := hide hj3
      clear hd3 hs3 hj3 HSI HW
      have HST : Hid (∀ {w1 w2 lv1 iv1 ls1 P1 K1 Q1}, DS wr w1 base d bm L M pm qb lv1 iv1 said P3 ls1 P1 K1 Q1 (x :: ex) (T + 1) → Hw.Tog P1 ([] ++ x ++ [Hw.chr i]) ([] ++ m ++ [Hw.chr i]) → (∃ N, Hw.Ext ls3 ls1 N) → PuP w1 w2 base d bm L M pm qb said P1 ls1 (x :: ex) (T + 1) ([Hw.chr i] ++ x ++ []) ([Hw.chr i] ++ m ++ []) → SpI w w2 base d bm L M pm qb said P (x :: ex) (T + 1) x m c (i + 1)) := fun a1 a2 a3 a4 => SpI.step HD3.out HS3.out HJ3.out a1 a2 a3 a4
      clear HJ3
      generalize Hw.chr i = ch at *
      go_wp2_with fail
      refine (put_any HJC wr base d bm L M pm qb lv3 iv3 said ls3 P3 K3 Q3 (x :: ex) (T + 1) c x m [] [ch] hL1 hL3 hM6 HD3.out.dm HD3.out.di HS3.out HW1.out HW2.out).mono ?_
      rintro e w3 ⟨rfl, lv4, iv4, ls4, P4, K4, Q4, hd4, ht4, he4⟩
      have HD4 := hide hd4
      have HT4 := hide ht4
      have HE4 := hide he4
      clear hd4 ht4 he4
      go_wp2_with fail
      refine (put_any HJC w3 base d bm L M pm qb lv4 iv4 said ls4 P4 K4 Q4 (x :: ex) (T + 1) c x m [ch] [] hL1 hL3 hM6 HD4.out.dm HD4.out.di (by obtain ⟨N, he⟩ := HE4.out; exact he.says HS3.out) HW3.out HW4.out).mono ?_
      rintro e w5 ⟨rfl, hp5⟩
      have HN := hide (HST.out HD4.out HT4.out HE4.out hp5)
      clear hp5
      go_wp2
      go_roundw
      case rel => exact ⟨i + 1, by omega, by go_num, HN⟩
      case measure => simp [intOf]; omega
    · obtain rfl : i = L := by omega
      have HF := hide (SpI.fin HSI.out HT.out HFL.out)
      go_wp2
      go_end0
      exact ⟨rfl, HF.out⟩
end Dr
end Go.Proofs.YtfiebibpgbadlaaGreat
