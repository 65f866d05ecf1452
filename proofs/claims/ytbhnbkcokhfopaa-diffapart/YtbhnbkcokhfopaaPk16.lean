import Derived.Test.YtbhnbkcokhfopaaPk9
import Derived.Test.YtbhnbkcokhfopaaPk15
import Derived.Deep.Cut
import Derived.Deep.LoopGhost
import Derived.Deep.QuietTactic
import Derived.BigQuiet
import Derived.Lib.Hide
import Derived.Test.YtbhnbkcokhfopaaPk13
import Derived.Test.YtbhnbkcokhfopaaPk10
import Derived.Test.YtbhnbkcokhfopaaPk8

/-
  What diff's Lines comes to, as a call.
-/
namespace Go.Proofs.Ytbhnbkcokhfopaa
open Go.RowKit Go.Maps

section
variable {k n : Nat} {w w' : World} {b o : Nat} {css : List (List Value)}
theorem RowK.off (h : RowK k w (some ⟨b, o, .none⟩) n css) {g : Nat} (ht : Turned g w w') (hne : b ≠ g) : RowK k w' (some ⟨b, o, .none⟩) n css :=
  ⟨h.1, h.2.1, fun hn => by
    obtain ⟨b', o', e, hc⟩ := h.2.2 hn
    cases e
    refine ⟨b, o, rfl, fun j i cs v h1 h2 => ?_⟩
    have h3 := hc j i cs v h1 h2
    rw [World.cell?_of_block (ht.block b (lt_of_cell h3) (by simpa using hne))]
    exact h3⟩
theorem RowK.grew (h : RowK k w (some ⟨b, o, .none⟩) n css) {r : Option Nat} (ht : w.grownBy w' r) (hne : r ≠ some b) : RowK k w' (some ⟨b, o, .none⟩) n css :=
  ⟨h.1, h.2.1, fun hn => by
    obtain ⟨b', o', e, hc⟩ := h.2.2 hn
    cases e
    refine ⟨b, o, rfl, fun j i cs v h1 h2 => ?_⟩
    have h3 := hc j i cs v h1 h2
    rw [World.cell?_of_block (ht.block b (lt_of_cell h3) (fun e => hne e.symm))]
    exact h3⟩
theorem RowK.pair {L : List (Nat × Nat)} (h : RowK 2 w (some ⟨b, o, .none⟩) n (pairsV L)) {j : Nat} (hj : j < n) : ∃ s, L[j]? = some s ∧ w.cell? ⟨b, o + j * 2, .none⟩ = some (.int .i64 (s.1 : Nat)) ∧ w.cell? ⟨b, o + j * 2 + 1, .none⟩ = some (.int .i64 (s.2 : Nat)) := by
  obtain ⟨b', o', e, cs, hcs, _, hc⟩ := h.get hj
  cases e
  have hl : j < L.length := by have := h.len; rw [pairsV_length] at this; omega
  have hz := List.getElem?_eq_getElem hl
  simp only [pairsV, List.getElem?_map, hz, Option.map_some, Option.some.injEq] at hcs
  subst hcs
  exact ⟨L[j], hz, hc 0 _ rfl, hc 1 _ rfl⟩
end

/-- Two pairs compared. -/
theorem wpList_neq_two {ops : Array Oper} {rest : List Oper} {op : Oper} {a : Act} {w : World} {Q : Exit → Act → World → Prop} (hgd : op.guard = none) (x y : Operand) (ho : op.op = .binOp .neq 31 x y 31) {i k i' k' : Nat}
    (hx : a.eval x = .agg #[.int .i64 (i : Nat), .int .i64 (k : Nat)]) (hy : a.eval y = .agg #[.int .i64 (i' : Nat), .int .i64 (k' : Nat)]) (b : Bool) (hb : b = decide (¬ (i = i' ∧ k = k')))
    (h : wpList Try.prog ops Q rest (a.put op.dst (.bool b)) w) : wpList Try.prog ops Q (op :: rest) a w := by
  refine wpList_plain hgd fun K hK => ?_
  have hr : (execOp a.eval op).run Try.prog w = .ok (.value (.bool b)) w := by
    unfold execOp
    rw [ho]
    simp only [hx, hy]
    go_simp
    subst hb
    by_cases h1 : i = i'
    · by_cases h2 : k = k'
      · simp [h1, h2]
      · have : ¬ ((k : Int) = k') := by omega
        simp [h1, h2, this]
    · have : ¬ ((i : Int) = i') := by omega
      simp [h1, this]
  unfold Oper.wp
  rw [hr]
  exact hK _ _ h

set_option maxRecDepth 100000 in
set_option maxHeartbeats 3200000 in
theorem lines_any (nm : ByteArray) (A B : Option Addr) (n c m d : Nat) (la lb : List ByteArray) (w : World) (ha : Row w A n la) (hb : Row w B m lb) (hc : n ≤ c) (hd : m ≤ d) (hn : n ≤ 65536) (hm : m ≤ 65536)
    (hnm : nm.size ≤ maxLen) (hsa : ∀ s ∈ la, s.size ≤ maxLen) (hsb : ∀ s ∈ lb, s.size ≤ maxLen) :
    Calls Try.prog 14 #[.string nm, .slice A n c, .slice B m d] w (GivesC (linesP nm la lb) w) := by
  have hna := ha.len; have hnb := hb.len
  by_cases h1 : 200 < n
  · have HE := Lib.hid (lines_great (name := nm) (a := la) (b := lb) (.inl (by omega)))
    clear ha hb hna hnb hsa hsb
    go_enter Try.func14, Try.ntmps14
    go_wp2
    go_ret
    exact ⟨_, [], rfl, OwnPs.nil (Later.refl w), HE.out.symm, fun x hx => by cases hx⟩
  · by_cases h2 : 200 < m
    · have HE := Lib.hid (lines_great (name := nm) (a := la) (b := lb) (.inr (by omega)))
      clear ha hb hna hnb hsa hsb
      go_enter Try.func14, Try.ntmps14
      go_wp2
      go_ret
      exact ⟨_, [], rfl, OwnPs.nil (Later.refl w), HE.out.symm, fun x hx => by cases hx⟩
    · have HTO := Lib.hid (lines_to (name := nm) (a := la) (b := lb) (by omega) (by omega))
      have HRI := Lib.hid (common_rises (a := la) (b := lb) (by omega) (by omega))
      have hLn := common_length la lb
      rw [hna, hnb] at HTO HRI
      have hlF : Later w (w.alloc (.cells #[.int .i64 0, .int .i64 0] 31)) := (Later.refl w).alloc _
      have HCM := Lib.hid (common_any A B n c m d la lb _ (ha.later hlF) (hb.later hlF) hn hm)
      have HA := Lib.hid ha; have HB := Lib.hid hb; have HSA := Lib.hid hsa; have HSB := Lib.hid hsb
      clear ha hb hna hnb hsa hsb
      obtain ⟨i0, hi, hz0, hz1, hz2⟩ := info_parts Try.pairInfo
      obtain ⟨i1, hi1, hy0, hy1, hy2⟩ := info_parts Try.primInfo
      have hbF : BoxAt (w.alloc (.cells #[.int .i64 0, .int .i64 0] 31)) w.heap.size #[.int .i64 0, .int .i64 0] 31 := BoxAt.made w _ _
      have hszF : (w.alloc (.cells #[.int .i64 0, .int .i64 0] 31)).heap.size = w.heap.size + 1 := World.size_alloc _ _
      go_enter Try.func14, Try.ntmps14
      go_wp2_with fail
      refine HCM.out.mono ?_
      rintro e w2 ⟨v0, rfl, ho0⟩
      clear HCM
      generalize w.alloc (.cells #[.int .i64 0, .int .i64 0] 31) = w1 at ho0 hlF hbF hszF ⊢
      generalize hgF : w.heap.size = gF at hbF hszF ⊢
      have hlb : Later w2 (w2.alloc (.cells #[.int .i64 (n : Nat), .int .i64 (m : Nat)] 31)) := (Later.refl w2).alloc _
      have HR : Hid (RowK 2 (w2.alloc (.cells #[.int .i64 (n : Nat), .int .i64 (m : Nat)] 31)) (some ⟨w2.heap.size, 0, none⟩) 1 [[.int .i64 (n : Nat), .int .i64 (m : Nat)]]) := RowK.one w2 [.int .i64 (n : Nat), .int .i64 (m : Nat)] 31
      have HO0 := Lib.hid (ho0.on hlb)
      have HL0 := Lib.hid ((hlF.trans ho0.later).trans hlb)
      have HBF := Lib.hid ((hbF.later ho0.later).later hlb)
      have HZF := Lib.hid hszF; have HGF := Lib.hid hgF
      clear hlF hbF hszF hgF ho0 hlb
      go_wp2_with (at_builtin; refine Hid.out ?_)
      generalize w2.alloc (.cells #[.int .i64 (n : Nat), .int .i64 (m : Nat)] 31) = w2' at HR HO0 HL0 HBF ⊢
      refine Lib.hid (wpList_append_rowK5 rfl _ _ 25 rfl i0 _ 16 Try.underlying25 hi hz0 hz1 hz2 rfl (by decide) HO0.out rfl _ _ 1 1 _ rfl HR.out (by decide) (by simp [Value.oneCell']) (by rw [pairsV_length]; omega) (by decide) ?_)
      intro v3 w3 ho3 hg3 h5
      rw [← pairsV_append] at ho3
      generalize hL : commonL la lb ++ [(n, m)] = L at ho3 HTO HRI
      have hLl : L.length ≤ 201 := by rw [← hL]; simp; omega
      have hL1 : 0 < L.length := by rw [← hL]; simp
      clear hL hLn
      obtain ⟨A3, c3, hv3, hc3, hr3⟩ := ho3.row
      rw [pairsV_length] at hv3 hc3 hr3
      obtain ⟨g3, o3, hA3, _⟩ := hr3.2.2 hL1
      subst hA3
      subst hv3
      have hg3b := ho3.1.lt g3 rfl
      have HNF : Hid (g3 ≠ gF) := by
        have := hg3b.1
        rw [HZF.out] at this
        intro e; omega
      have HL3 := Lib.hid (show Later w w3 from Below.grown HL0.out hg3 HL0.out.size (fun b hb => by have := (HO0.out.1.lt b hb).1; rw [HZF.out] at this; rw [HGF.out]; omega))
      have HBF3 := Lib.hid (HBF.out.grew hg3 (fun e => by have := (HO0.out.1.lt _ e).1; rw [HZF.out] at this; omega))
      have HR3 := Lib.hid hr3
      have hg3l := hg3b.2
      have HF3 := Lib.hid HBF3.out.lt
      clear ho3 hg3 h5 hg3b hr3 HR HO0 HL0 HBF
      generalize hN3 : w3.heap.size = N3 at hg3l HF3
      have HN3 := Lib.hid hN3
      clear hN3
      go_wp2
      go_loopg [7, 31] (L.length + 1) (fun g s7 s31 wr => ∃ (j i k : Nat) (v : Value) (ys : List PrC), j ≤ L.length ∧ L.length - j ≤ g ∧ s31 = .int .i64 (j : Nat) ∧ s7 = v ∧ ys.length ≤ j ∧ Hid (OwnPs 51 w wr v ys) ∧ Hid (valsP ys ++ hunksTo nm la lb (L.drop j) i k = linesP nm la lb) ∧ Hid (Rises n m (L.drop j) i k) ∧ Hid (BoxAt wr gF #[.int .i64 (i : Nat), .int .i64 (k : Nat)] 31) ∧ Hid (∀ b, v.ownBlock = some b → N3 ≤ b) ∧ Hid (∀ y ∈ ys, Fresh w3 y) ∧ Hid (RowK 2 wr (some ⟨g3, o3, none⟩) L.length (pairsV L)) ∧ Hid (N3 ≤ wr.heap.size))
      case atStart => exact ⟨0, 0, 0, _, [], Nat.zero_le _, by omega, rfl, rfl, Nat.le_refl _, OwnPs.nil HL3.out, by show _ = _; rw [HTO.out]; rfl, HRI, HBF3, (fun b hb => by cases hb), (fun y hy => by cases hy), HR3, Nat.le_of_eq HN3.out.symm⟩
      case round =>
        obtain ⟨j, i, k, v, ys, hj, hg, rfl, hv, hyl, hO, hEq, hRi, hBF, hvb, hfr, hR, hS⟩ := hrel
        obtain rfl := hv.symm
        clear hv HBF3 HR3 HL3 HTO HRI
        by_cases hlt : j < L.length
        · obtain ⟨s, hs, p0, p1⟩ := hR.out.pair hlt
          obtain ⟨x, y⟩ := s
          obtain ⟨hix, hky, hxn, hym, hri2⟩ := rises_at hs hRi.out
          have HST := Lib.hid (hunksTo_at (name := nm) (a := la) (b := lb) (i := i) (k := k) hs)
          dsimp only at p0 p1 hix hky hxn hym hri2 HST
          have HRI2 := Lib.hid hri2
          clear hs hri2
          go_upto_region 8 with fail
          have hlT : Later wr (wr.alloc (.cells #[.int .i64 (x : Nat), .int .i64 (y : Nat)] 31)) := (Later.refl wr).alloc _
          have bT : BoxAt (wr.alloc (.cells #[.int .i64 (x : Nat), .int .i64 (y : Nat)] 31)) wr.heap.size #[.int .i64 (x : Nat), .int .i64 (y : Nat)] 31 := BoxAt.made wr _ _
          have hO0 := hO
          replace hO := Lib.hid (hO.out.on hlT); replace hBF := Lib.hid (hBF.out.later hlT); replace hR := Lib.hid (hR.out.later hlT)
          have hNr : N3 ≤ wr.heap.size := hS.out
          have HLTV := Lib.hid (fun b hb => (hO0.out.lt b hb : b < wr.heap.size))
          generalize (wr.alloc (.cells #[.int .i64 (x : Nat), .int .i64 (y : Nat)] 31)) = wT at hO hBF hR bT hlT ⊢
          generalize wr.heap.size = gT at bT hNr HLTV ⊢
          clear hlT p0 p1 hO0 hS
          have q0 := hBF.out.cell (i := 0) rfl; have q1 := hBF.out.cell (i := 1) rfl
          have r0 := bT.cell (i := 0) rfl; have r1 := bT.cell (i := 1) rfl
          simp only [List.getElem_toArray, List.getElem_cons_zero, List.getElem_cons_succ] at q0 q1 r0 r1
          have BT := Lib.hid bT
          clear bT
          go_wp2_with (with_reducible show wpList _ _ _ ({ dst := _, op := Op.binOp BinOp.neq 31 _ _ _, type := _, pos := _, after := _, guard := _ } :: _) _ _; refine Hid.out ?_)
          by_cases hxy : i < x ∨ k < y
          · refine Lib.hid (wpList_neq_two rfl _ _ rfl rfl rfl true (by rw [decide_eq_true (by omega)]) ?_)
            obtain ⟨Ax, hAx⟩ : ∃ Ax, (if c = i then A else Option.map (fun x => x.add i) A) = Ax := ⟨_, rfl⟩
            obtain ⟨Bx, hBx⟩ : ∃ Bx, (if d = k then B else Option.map (fun x => x.add k) B) = Bx := ⟨_, rfl⟩
            have hlZ : Later wT (wT.alloc (.cells #[.int .i64 0, .string ⟨#[]⟩, .string ⟨#[]⟩, .int .i64 0, .slice none 0 0, .slice none 0 0] 51)) := (Later.refl wT).alloc _
            have q0' := hlZ.cell q0; have q1' := hlZ.cell q1; have r0' := hlZ.cell r0; have r1' := hlZ.cell r1
            go_wp2
            go_frame
            go_region
            clear hlZ q0 q1 r0 r1 q0' q1' r0' r1'
            have hla := HA.out.later hO.out.later; have hlb := HB.out.later hO.out.later
            have RA : Row wT Ax (x - i) (gapL la i x) := by
              have := hla.piece (f := i) (t := x) (m := c) (by omega) (by omega) (by omega)
              rw [Nat.mul_one, hAx] at this
              exact this
            have RB : Row wT Bx (y - k) (gapL lb k y) := by
              have := hlb.piece (f := k) (t := y) (m := d) (by omega) (by omega) (by omega)
              rw [Nat.mul_one, hBx] at this
              exact this
            have HHK : Hid (valsP ys ++ [hunkP nm k (gapL la i x) (gapL lb k y)] ++ hunksTo nm la lb (L.drop (j + 1)) (x + 1) (y + 1) = linesP nm la lb) := by
              show _ = _
              rw [← hEq.out, HST.out, if_pos hxy, List.append_assoc]
            have hlH : Later wT (wT.alloc (.cells #[.int .i64 0, .string nm, .string ⟨#[]⟩, .int .i64 (k : Nat), .slice Ax (x - i) (c - i), .slice Bx (y - k) (d - k)] 51)).drew := ((Later.refl wT).alloc _).drew
            have bH : BoxAt (wT.alloc (.cells #[.int .i64 0, .string nm, .string ⟨#[]⟩, .int .i64 (k : Nat), .slice Ax (x - i) (c - i), .slice Bx (y - k) (d - k)] 51)).drew wT.heap.size (prL ⟨hunkP nm k (gapL la i x) (gapL lb k y), Ax, x - i, c - i, Bx, y - k, d - k⟩).toArray 51 := (BoxAt.made wT _ _).later (Later.refl _).drew
            have okH : PrOk (wT.alloc (.cells #[.int .i64 0, .string nm, .string ⟨#[]⟩, .int .i64 (k : Nat), .slice Ax (x - i) (c - i), .slice Bx (y - k) (d - k)] 51)).drew ⟨hunkP nm k (gapL la i x) (gapL lb k y), Ax, x - i, c - i, Bx, y - k, d - k⟩ :=
              ⟨RA.later hlH, RB.later hlH, by dsimp only; omega, by dsimp only; omega, by dsimp only; omega, by dsimp only; omega, hnm, Nat.zero_le _, by dsimp only [hunkP]; omega, by dsimp only [hunkP]; omega, fun s hs => HSA.out s (List.mem_of_mem_drop (List.mem_of_mem_take hs)), fun s hs => HSB.out s (List.mem_of_mem_drop (List.mem_of_mem_take hs))⟩
            replace hO := Lib.hid (hO.out.on hlH); replace hBF := Lib.hid (hBF.out.later hlH); replace hR := Lib.hid (hR.out.later hlH); replace BT := Lib.hid (BT.out.later hlH)
            have hTs := hlH.le
            have hTl := BT.out.lt
            generalize (wT.alloc (.cells #[.int .i64 0, .string nm, .string ⟨#[]⟩, .int .i64 (k : Nat), .slice Ax (x - i) (c - i), .slice Bx (y - k) (d - k)] 51)).drew = wH at hO hBF hR BT bH okH hTs hTl ⊢
            clear hlH RA RB hla hlb hEq HST hAx hBx
            generalize Ax = A' at bH okH ⊢
            generalize Bx = B' at bH okH ⊢
            obtain ⟨g0, g1, g2, g4, g5, g6⟩ := BoxAt.all (x := ⟨hunkP nm k (gapL la i x) (gapL lb k y), A', x - i, c - i, B', y - k, d - k⟩) bH
            dsimp only [hunkP] at g0 g1 g2 g4 g5 g6
            simp only [show ByteArray.empty = (⟨#[]⟩ : ByteArray) from rfl] at g2
            have HC := Lib.hid (cloneP_any _ wH okH)
            unfold prV at HC
            dsimp only [hunkP] at HC
            simp only [show ByteArray.empty = (⟨#[]⟩ : ByteArray) from rfl] at HC
            clear bH okH
            go_wp2_with fail
            refine HC.out.mono ?_
            rintro e w5 ⟨z, rfl, hz, hokz, hfrz, hl5⟩
            clear g0 g1 g2 g4 g5 g6 HC
            have HZ : Hid (valsP (ys ++ [z]) = valsP ys ++ [hunkP nm k (gapL la i x) (gapL lb k y)]) := by
              show _ = _
              simp only [valsP, List.map_append, List.map_cons, List.map_nil]
              rw [hz]
              rfl
            have hO1 := (hO.out.on hl5).on ((Later.refl w5).alloc (.cells #[.int .i64 z.v.kind, .string z.v.name, .string z.v.to, .int .i64 z.v.place, .slice z.A z.n z.c, .slice z.B z.m z.d] 51))
            have HO1 := Lib.hid hO1
            have hl5' : Later wH (w5.alloc (.cells #[.int .i64 z.v.kind, .string z.v.name, .string z.v.to, .int .i64 z.v.place, .slice z.A z.n z.c, .slice z.B z.m z.d] 51)) := hl5.alloc _
            have HOK := Lib.hid hokz
            have HAW : Hid (∀ q ∈ [z], ∀ g, v.ownBlock = some g → Away g q) := by
              intro q hq g hgb
              simp at hq; subst hq
              have h1 := HLTV.out g hgb
              exact hfrz.away (by omega)
            have HFZ : Hid (Fresh w3 z) := ⟨fun b hb => Nat.le_trans (by rw [HN3.out]; omega) (hfrz.1 b hb), fun b hb => Nat.le_trans (by rw [HN3.out]; omega) (hfrz.2 b hb)⟩
            replace hBF := Lib.hid (hBF.out.later hl5'); replace hR := Lib.hid (hR.out.later hl5'); replace BT := Lib.hid (BT.out.later hl5')
            have hs5 := hl5'.le
            clear hl5 hl5' hO hO1 hz hokz hfrz
            go_wp2_with (at_builtin; refine Hid.out ?_)
            refine Lib.hid (wpList_append_ps5 rfl _ _ 33 rfl i1 _ 96 Try.underlying33 hi1 hy0 hy1 hy2 rfl HO1.out rfl _ _ _ [z] rfl (row_one _ _ _) (fun q hq => by simp at hq; subst hq; exact HOK.out.later6 _) HAW.out (by omega) (by omega) ?_)
            intro v6 w6 ho6 hg6 h56
            have hv6 : ∀ b, v6.ownBlock = some b → N3 ≤ b := by
              intro b hb
              rcases h56 with e | e
              · rw [e] at hb; exact hvb.out b hb
              · rw [e] at hb; cases hb; omega
            have hgF := HF3.out
            have HO6 := Lib.hid ho6
            have HV6 := Lib.hid hv6
            have HBF6 := Lib.hid (hBF.out.grew hg6 (fun e => by have := hvb.out _ e; omega))
            have HR6 := Lib.hid (hR.out.grew hg6 (fun e => by have := hvb.out _ e; omega))
            have bT6 := BT.out.grew hg6 (fun e => by have := HLTV.out _ e; omega)
            have r0 := bT6.cell (i := 0) rfl; have r1 := bT6.cell (i := 1) rfl
            simp only [List.getElem_toArray, List.getElem_cons_zero, List.getElem_cons_succ] at r0 r1
            have hs6 := hg6.size
            clear ho6 hg6 h56 hv6 bT6 HO1 HOK HAW hBF hR BT
            go_wp2_with (with_reducible show wpList _ _ _ ({ dst := none, op := Op.store 31 _ _, type := _, pos := _, after := _, guard := _ } :: _) _ _; refine Hid.out ?_)
            refine Lib.hid (wpList_store_two rfl rfl 31 _ _ rfl Try.pairSize gF ((x + 1 : Nat) : Int) ((y + 1 : Nat) : Int) rfl rfl HBF6.out rfl ?_)
            intro w7 hb7 ht7
            have HFR : Hid (∀ q ∈ ys ++ [z], Fresh w3 q) := by
              intro q hq
              rcases List.mem_append.1 hq with h | h
              · exact hfr.out q h
              · simp at h; subst h; exact HFZ.out
            have HO7 := Lib.hid (HO6.out.other ht7 (fun e => by have := HV6.out _ e; omega) (fun q hq => (HFR.out q hq).away (by rw [HN3.out]; exact hgF)) (HO6.out.later.turn ht7 (by rw [HGF.out]; exact Nat.le_refl _)))
            have HB7 := Lib.hid hb7
            have HR7 := Lib.hid (HR6.out.off ht7 HNF.out)
            have HS7 : Hid (N3 ≤ w7.heap.size) := by have := ht7.size; show _ ≤ _; omega
            clear hb7 ht7 HO6 HBF6 HR6 r0 r1 HNF
            go_wp2
            go_roundg (L.length - (j + 1))
            case measure => omega
            case rel => exact ⟨j + 1, x + 1, y + 1, v6, ys ++ [z], by omega, Nat.le_refl _, by go_num, rfl, by simp; omega, HO7, by show _ = _; rw [HZ.out]; exact HHK.out, HRI2, HB7, HV6, HFR, HR7, HS7⟩
          · obtain rfl : i = x := by omega
            obtain rfl : k = y := by omega
            refine Lib.hid (wpList_neq_two rfl _ _ rfl rfl rfl false (by simp) ?_)
            have HHK : Hid (valsP ys ++ hunksTo nm la lb (L.drop (j + 1)) (i + 1) (k + 1) = linesP nm la lb) := by
              show _ = _
              rw [← hEq.out, HST.out, if_neg (by omega), List.nil_append]
            have hgF := HF3.out
            go_wp2_with (with_reducible show wpList _ _ _ ({ dst := none, op := Op.store 31 _ _, type := _, pos := _, after := _, guard := _ } :: _) _ _; refine Hid.out ?_)
            refine Lib.hid (wpList_store_two rfl rfl 31 _ _ rfl Try.pairSize gF ((i + 1 : Nat) : Int) ((k + 1 : Nat) : Int) rfl rfl hBF.out rfl ?_)
            intro w7 hb7 ht7
            have HO7 := Lib.hid (hO.out.other ht7 (fun e => by have := hvb.out _ e; omega) (fun q hq => (hfr.out q hq).away (by rw [HN3.out]; exact hgF)) (hO.out.later.turn ht7 (by rw [HGF.out]; exact Nat.le_refl _)))
            have HB7 := Lib.hid hb7
            have HR7 := Lib.hid (hR.out.off ht7 HNF.out)
            have HS7 : Hid (N3 ≤ w7.heap.size) := by have := ht7.size; have := BT.out.lt; show _ ≤ _; omega
            clear hb7 ht7 hO hBF hR q0 q1 r0 r1 BT
            go_wp2
            go_roundg (L.length - (j + 1))
            case measure => omega
            case rel => exact ⟨j + 1, i + 1, k + 1, v, ys, by omega, Nat.le_refl _, by go_num, rfl, by omega, HO7, HHK, HRI2, HB7, hvb, hfr, HR7, HS7⟩
        · have HE : Hid (valsP ys = linesP nm la lb) := by
            have := hEq.out
            rw [List.drop_of_length_le (by omega)] at this
            simp only [hunksTo, List.append_nil] at this
            exact this
          have HNW : Hid (w.heap.size ≤ w3.heap.size) := by have := HF3.out; show _ ≤ _; rw [HN3.out, HGF.out]; omega
          go_wp2
          go_ret
          exact ⟨v, ys, rfl, hO.out, HE.out, fun q hq => ⟨fun b hb => Nat.le_trans HNW.out ((hfr.out q hq).1 b hb), fun b hb => Nat.le_trans HNW.out ((hfr.out q hq).2 b hb)⟩⟩

end Go.Proofs.Ytbhnbkcokhfopaa

/-
  What diff's some and tooLong come to, as calls.
-/
namespace Go.Proofs.Ytbhnbkcokhfopaa
open Go.RowKit Go.Maps

/-- A tree, or none. -/
def TreeOr (w : World) (v : Value) (t : Tr) : Prop := (v = .pointer none ∧ t = []) ∨ ∃ p B, v = .pointer (some ⟨p, 0, none⟩) ∧ TreeAt w p B t
theorem TreeOr.later {w w' : World} {v : Value} {t : Tr} (h : TreeOr w v t) (hl : Later w w') : TreeOr w' v t := by
  rcases h with h | ⟨p, B, h1, h2⟩
  · exact .inl h
  · exact .inr ⟨p, B, h1, h2.later hl⟩

set_option maxHeartbeats 400000 in
theorem some_any (v : Value) (t : Tr) (w : World) (ht : TreeOr w v t) :
    Calls Try.prog 53 #[v] w fun e w' => ∃ p B, e = .returned (.pointer (some ⟨p, 0, none⟩)) ∧ TreeAt w' p B t ∧ Later w w' := by
  rcases ht with ⟨rfl, rfl⟩ | ⟨p, B, rfl, ht⟩
  · have HN := Lib.hid (new_any w)
    go_enter Try.func53, Try.ntmps53
    go_wp2_with fail
    refine HN.out.mono ?_
    rintro e w1 ⟨p, B, rfl, ht, h1, h2, hl⟩
    have HT := Lib.hid ht; have HL := Lib.hid hl
    clear ht h1 h2 hl HN
    go_wp2
    go_ret
    exact ⟨p, B, rfl, HT.out, HL.out⟩
  · have HT := Lib.hid ht
    clear ht
    go_enter Try.func53, Try.ntmps53
    go_wp2
    go_ret
    exact ⟨p, B, rfl, HT.out, Later.refl w⟩

set_option maxHeartbeats 400000 in
theorem longFn_any (p B b : Nat) (nm : ByteArray) (t : Tr) (w : World) (ht : TreeAt w p B t) (hb : w.cell? ⟨b, 0, none⟩ = some (.pointer (some ⟨p, 0, none⟩))) (hs : nm.size ≤ maxLen) (hl : longT t = false) :
    Calls Try.prog 76 #[.string nm, .pointer (some ⟨b, 0, none⟩)] w (Says false w) := by
  have hsh : ((getT t nm).getD []).length ≤ 200 := by
    cases hg : getT t nm with
    | none => exact Nat.zero_le _
    | some l => exact long_no hl ((getT_iff ht.files.rise).1 hg)
  have HG := Lib.hid (get_any p B nm t w ht hs (fun f hf => Nat.le_trans (long_no hl hf) (by decide)))
  clear ht
  go_enter Try.func76, Try.ntmps76
  go_wp2_with fail
  refine HG.out.mono ?_
  rintro e w1 ⟨v, rfl, ho⟩
  obtain ⟨A1, c1, hv, hc, hr⟩ := ho.row
  subst hv
  have HL := Lib.hid ho.later
  generalize ((getT t nm).getD []).length = k at hsh hc hr ⊢
  clear ho hr HG
  go_wp2
  go_ret
  exact ⟨ret_bool (decide_eq_false (by omega)), HL.out⟩

set_option maxHeartbeats 800000 in
theorem indexLong_any (A : Option Addr) (n c p B b : Nat) (l : List ByteArray) (t : Tr) (w : World) (hx : Row w A n l) (hn : n ≤ 65536) (ht : TreeAt w p B t) (hb : w.cell? ⟨b, 0, none⟩ = some (.pointer (some ⟨p, 0, none⟩))) (hs : ∀ s ∈ l, s.size ≤ maxLen) (hl : longT t = false) :
    Calls Try.prog 89 #[.slice A n c, .func (.func 76) #[] #[.pointer (some ⟨b, 0, none⟩)]] w fun e w' => e = .returned (.int .i64 (-1)) ∧ Later w w' := by
  have HX := Lib.hid hx
  have HF := Lib.hid (fun s (hs : s.size ≤ maxLen) w' (h : Later w w') => longFn_any p B b s t w' (ht.later h) (h.cell hb) hs hl)
  have HS := Lib.hid hs
  have eg : ∀ (args : Array Value) (w : World), (callFunc 76 args).run Try.prog w = .ok (.enter 76 args) w := enters_of Try.func76 (by kernel_rfl) rfl
  clear hx hb ht hs hl
  go_enter Try.func89, Try.ntmps89
  go_wp2
  go_loopg [8] (n + 1) (fun g i wr => ∃ k : Nat, k ≤ n ∧ n - k ≤ g ∧ i = .int .i64 k ∧ Hid (Later w wr))
  case atStart => exact ⟨0, Nat.zero_le _, by omega, rfl, Later.refl w⟩
  case round =>
    obtain ⟨k, hk, hg, rfl, hwr⟩ := hrel
    by_cases hlt : k < n
    · obtain ⟨b1, o1, rfl, g1⟩ := (HX.out.later hwr.out).get hlt
      have hkl : k < l.length := by rw [HX.out.len]; exact hlt
      have HFy := Lib.hid (HF.out (l.getD k ByteArray.empty) (HS.out _ (mem_getD hkl)) wr hwr.out)
      generalize l.getD k ByteArray.empty = y at g1 HFy
      clear hkl
      go_wp2_with (go_at_fn 76; refine HFy.out.mono ?_; rintro e w2 ⟨rfl, hl2⟩; replace hl2 := Lib.hid hl2)
      go_roundg (n - (k + 1))
      case measure => omega
      case rel => exact ⟨k + 1, by omega, Nat.le_refl _, by go_num, hwr.out.trans hl2.out⟩
    · go_wp2
      go_ret
      exact ⟨rfl, hwr.out⟩

set_option maxHeartbeats 400000 in
theorem containsLong_any (A : Option Addr) (n c p B b : Nat) (l : List ByteArray) (t : Tr) (w : World) (hx : Row w A n l) (hn : n ≤ 65536) (ht : TreeAt w p B t) (hb : w.cell? ⟨b, 0, none⟩ = some (.pointer (some ⟨p, 0, none⟩))) (hs : ∀ s ∈ l, s.size ≤ maxLen) (hl : longT t = false) :
    Calls Try.prog 75 #[.slice A n c, .func (.func 76) #[] #[.pointer (some ⟨b, 0, none⟩)]] w (Says false w) := by
  have HI := Lib.hid (indexLong_any A n c p B b l t w hx hn ht hb hs hl)
  clear hx hb ht
  go_enter Try.func75, Try.ntmps75
  go_wp2_with fail
  refine HI.out.mono ?_
  rintro e w' ⟨rfl, hl'⟩
  have HL := Lib.hid hl'
  clear hl' HI
  go_wp2
  go_ret
  exact ⟨rfl, HL.out⟩

set_option maxHeartbeats 400000 in
theorem tooLong_any (p B : Nat) (t : Tr) (w : World) (ht : TreeAt w p B t) (hn : t.length ≤ 65536) (hs : ∀ f ∈ t, f.1.size ≤ maxLen) (hl : longT t = false) :
    Calls Try.prog 54 #[.pointer (some ⟨p, 0, none⟩)] w (Says false w) := by
  have hlb : Later w (w.alloc (.cells #[.pointer (some ⟨p, 0, none⟩)] 39)) := (Later.refl w).alloc _
  have hb : (w.alloc (.cells #[.pointer (some ⟨p, 0, none⟩)] 39)).cell? ⟨w.heap.size, 0, none⟩ = some (.pointer (some ⟨p, 0, none⟩)) := (BoxAt.made w _ _).cell rfl
  have HN := Lib.hid (names_any p B t _ (ht.later hlb) hn)
  have HT := Lib.hid (ht.later hlb); have HB := Lib.hid hb; have HLB := Lib.hid hlb
  clear ht
  go_enter Try.func54, Try.ntmps54
  go_wp2_with fail
  clear hlb
  generalize w.alloc (.cells #[.pointer (some ⟨p, 0, none⟩)] 39) = w1 at HN HT HB HLB hb ⊢
  refine HN.out.mono ?_
  rintro e w2 ⟨v, rfl, ho⟩
  obtain ⟨A1, c1, hv, hc, hr⟩ := ho.row
  subst hv
  have hlen : (namesT t).length ≤ 65536 := by simp only [namesT, List.length_map]; exact hn
  have HC := Lib.hid (containsLong_any A1 _ c1 p B w.heap.size (namesT t) t w2 hr hlen (HT.out.later ho.later) (ho.later.cell HB.out) (fun s hs' => by
    simp only [namesT, List.mem_map] at hs'
    obtain ⟨f, hf, rfl⟩ := hs'
    exact hs f hf) hl)
  have HL := Lib.hid (HLB.out.trans ho.later)
  clear ho hr hb HN
  go_wp2_with fail
  refine HC.out.mono ?_
  rintro e w3 ⟨rfl, hl3⟩
  have HL3 := Lib.hid hl3
  clear hl3 HC
  go_wp2
  go_ret
  exact ⟨rfl, HL.out.trans HL3.out⟩

end Go.Proofs.Ytbhnbkcokhfopaa

/-
  What slices.Grow (of nothing) and slices.Concat come to over rows of prims, and diff's Cost, as calls.
-/
namespace Go.Proofs.Ytbhnbkcokhfopaa
open Go.RowKit Go.Maps

section
variable {P : Program} (w : World)
/-- append(nil, make(.., m)...). -/
theorem run_append_zeros (t tn ty e : TypeId) (kd : IntKind) (i : TypeInfo) (z : Value) (ht : P.underlying t = some (.slice e)) (htn : P.underlying tn = some (.int kd)) (hi : P.info? e = some i) (hz : i.zero = some z) (m : Nat) (h0 : 0 < m) (hm : m ≤ 1000000) (hs : 0 < i.size) (hb : i.bytes ≤ 1000) :
    (Builtin.append_ #[t, tn] ty #[.slice none 0 0, .int .i64 (m : Nat)]).run P w =
      .ok (.slice (some ⟨w.heap.size, 0, none⟩) m (grownCap w m 0 e)) (w.drew.alloc (.cells (Builtin.zeroCells z.cells m ++ Builtin.zeroCells z.cells (grownCap w m 0 e - m)) e)) := by
  have hn : m ≠ 0 := by omega
  have hwr : IntKind.i64.wrap (m : Int) = m := IntWalk.i64_in _ (by omega)
  have hneg : ¬ ((m : Int) < 0) := by omega
  have hmb : m * i.bytes ≤ 1000000 * 1000 := Nat.mul_le_mul hm hb
  have hbig : ¬ (281474976710656 < (m : Int) * (i.bytes : Int)) := by
    have : ((m * i.bytes : Nat) : Int) ≤ 1000000000 := by omega
    rw [Int.natCast_mul] at this
    omega
  have h63' : ¬ (9223372036854775807 < (m : Int)) := by omega
  have h48' : ¬ (281474976710656 < Builtin.nextslicecap m 0 * i.bytes) := by rw [nextslicecap_zero h0]; omega
  have hms : ¬ (i.size = 0) := by omega
  simp [Builtin.append_, run_underlying ht, run_underlying htn, sizeOf, typeInfo, zeroValue, hi, hz, asInt, asIntOf, hwr, hneg, hbig, hn, h63', h48', Question.forced, run_firstCells_none, newRow, grownCap]
  exact fun h => absurd h (Nat.mul_ne_zero hn hms)
end
section
variable {P : Program} {w w0 : World} {e : TypeId}
theorem wpList_append_zeros {ops : Array Oper} {rest : List Oper} {o : Oper} {a : Act} {Q : Exit → Act → World → Prop} (hgd : o.guard = none) (s x : Operand) (t tn : TypeId) (ho : o.op = .call { callee := .builtin .append, args := #[s, x], argTypes := #[t, tn] }) (kd : IntKind) (i : TypeInfo) (z : Value)
    (ht : P.underlying t = some (.slice e)) (htn : P.underlying tn = some (.int kd)) (hi : P.info? e = some i) (hz : i.zero = some z) (hsz : i.size = 6) (hzs : z.cells.size = 6) (hb : i.bytes ≤ 1000) (hs : a.eval s = .slice none 0 0) (m : Nat) (hx : a.eval x = .int .i64 (m : Nat)) (h0 : 0 < m) (hm : m ≤ 1000000) (hl : Later w0 w)
    (h : ∀ c w', m ≤ c → OwnPs e w0 w' (.slice (some ⟨w.heap.size, 0, none⟩) 0 c) [] → wpList P ops Q rest (a.put o.dst (.slice (some ⟨w.heap.size, 0, none⟩) m c)) w') : wpList P ops Q (o :: rest) a w := by
  refine wpList_plain hgd fun K hK => ?_
  have hrun := run_append_zeros (P := P) w t tn o.type e kd i z ht htn hi hz m h0 hm (by omega) hb
  have hge := grownCap_ge w m 0 e
  have hcm : grownCap w m 0 e ≤ maxLen := grownCap_le_maxLen w m 0 e (by simp only [maxLen]; omega)
  unfold Oper.wp execOp
  simp only [ho, resolve, invoke, builtin, Sem.run_bind, Sem.run_pure, Result.andThen_ok, List.map_toArray, List.map_cons, List.map_nil, hs, hx, hrun]
  refine hK _ _ (h _ _ hge ⟨⟨?_, (fun _ h => by cases h), hl.drew.alloc _⟩, (fun _ h => by cases h), fun _ h => by cases h⟩)
  have := World.ownsRow_made (base := w0.heap.size) (e := e) (size := 6) w.drew (Builtin.zeroCells z.cells m ++ Builtin.zeroCells z.cells (grownCap w m 0 e - m)) (grownCap w m 0 e) hl.drew.le hcm (by
    simp only [Array.size_append, size_zeroCells, hzs, ← Nat.add_mul]
    congr 1
    omega)
  exact this
end

set_option maxRecDepth 100000 in
set_option maxHeartbeats 800000 in
theorem grow_any (m : Nat) (w : World) (hm : m ≤ 60000) :
    Calls Try.prog 79 #[.slice none 0 0, .int .i64 (m : Nat)] w fun e w' => ∃ v, e = .returned v ∧ OwnPs 51 w w' v [] := by
  obtain ⟨i0, hi, hz0, hz1, hz2⟩ := info_parts Try.primInfo
  by_cases h0 : m = 0
  · subst h0
    go_enter Try.func79, Try.ntmps79
    go_wp2
    go_ret
    exact ⟨_, rfl, OwnPs.nil (Later.refl w)⟩
  · have hpos : 0 < m := by omega
    go_enter Try.func79, Try.ntmps79
    go_wp2_with (at_builtin; refine wpList_append_zeros (w0 := w) rfl _ _ 33 3 rfl .i64 i0 _ Try.underlying33 Try.underlying3 hi hz0 hz1 rfl (by rw [hz2]; decide) rfl m rfl hpos (by omega) (Later.refl w) ?_; intro c1 w1 hc1 ho1; have HO := Lib.hid ho1; clear ho1)
    go_ret
    exact ⟨_, rfl, HO.out⟩

/-- A row of prims, and where it stands. -/
structure PsC where
  A : Option Addr
  n : Nat
  c : Nat
  xs : List PrC
/-- The slice reads as these rows. -/
structure RowsOk (w : World) (A : Option Addr) (n : Nat) (rs : List PsC) : Prop where
  row : RowK 1 w A n (rs.map fun r => [.slice r.A r.n r.c])
  each : ∀ r ∈ rs, PsOk w r.A r.n r.xs
section
variable {w w' : World} {A : Option Addr} {n : Nat} {rs : List PsC}
theorem RowsOk.later (h : RowsOk w A n rs) (hl : Later w w') : RowsOk w' A n rs := ⟨h.row.later hl, fun r hr => (h.each r hr).later hl⟩
theorem RowsOk.len (h : RowsOk w A n rs) : rs.length = n := by have := h.row.len; simpa using this
theorem RowsOk.get (h : RowsOk w A n rs) {j : Nat} (hj : j < n) : ∃ b o r, A = some ⟨b, o, .none⟩ ∧ rs[j]? = some r ∧ PsOk w r.A r.n r.xs ∧ w.cell? ⟨b, o + j, .none⟩ = some (.slice r.A r.n r.c) := by
  obtain ⟨b, o, e, cs, hcs, _, hc⟩ := h.row.get hj
  have hl : j < rs.length := by rw [h.len]; exact hj
  have hz := List.getElem?_eq_getElem hl
  simp only [List.getElem?_map, hz, Option.map_some, Option.some.injEq] at hcs
  subst hcs
  have := hc 0 _ rfl
  rw [Nat.mul_one, Nat.add_zero] at this
  exact ⟨b, o, rs[j], e, hz, h.each _ (List.getElem_mem hl), this⟩
end
def allC (rs : List PsC) : List PrC := rs.flatMap (·.xs)
theorem allC_take {rs : List PsC} {k : Nat} {r : PsC} (h : rs[k]? = some r) : allC (rs.take (k + 1)) = allC (rs.take k) ++ r.xs := by
  obtain ⟨hk, rfl⟩ := List.getElem?_eq_some_iff.1 h
  unfold allC
  rw [List.take_succ_eq_append_getElem hk, List.flatMap_append]
  simp
theorem allC_le {rs : List PsC} (k : Nat) : (allC (rs.take k)).length ≤ (allC rs).length := by
  unfold allC
  conv => rhs; rw [← List.take_append_drop k rs, List.flatMap_append, List.length_append]
  omega

set_option maxRecDepth 100000 in
set_option maxHeartbeats 1600000 in
theorem concat_any (A : Option Addr) (n c : Nat) (rs : List PsC) (w : World) (hr : RowsOk w A n rs) (hn : n ≤ 1000) (hm : (allC rs).length ≤ 60000) :
    Calls Try.prog 56 #[.slice A n c] w fun e w' => ∃ v, e = .returned v ∧ OwnPs 51 w w' v (allC rs) := by
  obtain ⟨i0, hi, hz0, hz1, hz2⟩ := info_parts Try.primInfo
  have HX := Lib.hid hr; clear hr
  go_enter Try.func56, Try.ntmps56
  go_wp2
  go_loopg [3, 11] (n + 1) (fun g s3 s11 wr => ∃ k t : Nat, k ≤ n ∧ n - k ≤ g ∧ s11 = .int .i64 (k : Nat) ∧ s3 = .int .i64 (t : Nat) ∧ Hid (t = (allC (rs.take k)).length) ∧ Hid (w = wr))
  case atStart => exact ⟨0, 0, Nat.zero_le _, by omega, rfl, rfl, by simp [Hid, allC], Lib.hid rfl⟩
  case round =>
    obtain ⟨k, t, hk, hg, rfl, rfl, ht, hw⟩ := hrel
    obtain rfl := hw.out
    clear hw
    have htb : t ≤ 60000 := by have := allC_le (rs := rs) k; rw [ht.out]; omega
    by_cases hlt : k < n
    · obtain ⟨b, o, r, rfl, hz, hok, c0⟩ := HX.out.get hlt
      have htk := allC_take hz
      have hle := allC_le (rs := rs) (k + 1)
      rw [htk, List.length_append, ← ht.out, hok.len] at hle
      have HT : Hid (t + r.n = (allC (rs.take (k + 1))).length) := by
        show _ = _
        rw [htk, List.length_append, ← ht.out, hok.len]
      clear htk hz hok
      go_wp2
      go_roundg (n - (k + 1))
      case measure => omega
      case rel => exact ⟨k + 1, t + r.n, by omega, Nat.le_refl _, by go_num, by go_num, HT, Lib.hid rfl⟩
    · have HG := Lib.hid (grow_any t w htb)
      clear ht
      go_wp2_with fail
      refine HG.out.mono ?_
      rintro e w1 ⟨v1, rfl, ho1⟩
      have HO1 := Lib.hid ho1
      clear ho1 HG
      go_wp2
      go_loopg [6, 27] (n + 1) (fun g s6 s27 wq => ∃ (k : Nat) (v : Value), k ≤ n ∧ n - k ≤ g ∧ s27 = .int .i64 (k : Nat) ∧ s6 = v ∧ Hid (OwnPs 51 w wq v (allC (rs.take k))))
      case atStart => exact ⟨0, _, Nat.zero_le _, by omega, rfl, rfl, by simpa [Hid, allC] using HO1.out⟩
      case round =>
        obtain ⟨k2, v, hk2, hg2, rfl, hv, hO⟩ := hrel
        obtain rfl := hv.symm
        clear hv HO1
        by_cases hlt2 : k2 < n
        · obtain ⟨b, o, r, rfl, hz, hok, c0⟩ := (HX.out.later hO.out.later).get hlt2
          have HTK := Lib.hid (allC_take hz)
          have hle := allC_le (rs := rs) (k2 + 1)
          rw [HTK.out, List.length_append, hok.len] at hle
          have HOK := Lib.hid hok
          have HAW : Hid (∀ y ∈ r.xs, ∀ g, v.ownBlock = some g → Away g y) := fun y hy g hg => ((HX.out.each r (List.mem_of_getElem? hz)).each y hy).away (hO.out.block g hg)
          clear hz hok
          go_wp2_with (at_builtin; refine wpList_append_ps rfl _ _ 33 rfl i0 _ 96 Try.underlying33 hi hz0 hz1 hz2 rfl hO.out rfl _ _ _ r.xs rfl HOK.out.row HOK.out.each HAW.out (by omega) (by omega) ?_; intro v4 w4 hown4 hg4; have HO4 := Lib.hid hown4; clear hown4 hg4)
          go_roundg (n - (k2 + 1))
          case measure => omega
          case rel => exact ⟨k2 + 1, v4, by omega, Nat.le_refl _, by go_num, rfl, by show OwnPs _ _ _ _ _; rw [HTK.out]; exact HO4.out⟩
        · have hE := hO.out
          rw [List.take_of_length_le (by rw [HX.out.len]; omega)] at hE
          have HE := Lib.hid hE
          clear hE
          go_wp2
          go_ret
          exact ⟨v, rfl, HE.out⟩

theorem cost_ok {w : World} : ∀ {xs : List PrC}, (∀ x ∈ xs, PrOk w x) → costP (valsP xs) ≤ xs.length * 131072
  | [], _ => by simp [costP, valsP]
  | x :: xs, h => by
    have ih := cost_ok (xs := xs) (fun y hy => h y (List.mem_cons_of_mem _ hy))
    have hx := h x List.mem_cons_self
    have e1 := hx.old.len; have e2 := hx.new.len; have h1 := hx.omost; have h2 := hx.nmost
    simp only [valsP, List.map_cons, cost_cons, List.length_cons] at *
    omega

set_option maxRecDepth 100000 in
set_option maxHeartbeats 800000 in
theorem cost_any (A : Option Addr) (n c : Nat) (xs : List PrC) (w : World) (hx : PsOk w A n xs) (hn : n ≤ 65536) (hc : costP (valsP xs) ≤ 1000000000000) :
    Calls Try.prog 26 #[.slice A n c] w fun e w' => e = .returned (.int .i64 (costP (valsP xs) : Nat)) ∧ Later w w' := by
  have HX := Lib.hid hx; clear hx
  go_enter Try.func26, Try.ntmps26
  go_wp2
  go_loopg [3, 8] (n + 1) (fun g s3 s8 wr => ∃ k t : Nat, k ≤ n ∧ n - k ≤ g ∧ s8 = .int .i64 (k : Nat) ∧ s3 = .int .i64 (t : Nat) ∧ Hid (t = costP ((valsP xs).take k)) ∧ Hid (Later w wr))
  case atStart => exact ⟨0, 0, Nat.zero_le _, by omega, rfl, rfl, by simp [Hid, costP], Later.refl w⟩
  case round =>
    obtain ⟨k, t, hk, hg, rfl, rfl, ht, hwr⟩ := hrel
    have hsplit : ∀ j, costP ((valsP xs).take j) ≤ costP (valsP xs) := by
      intro j
      conv => rhs; rw [← List.take_append_drop j (valsP xs), cost_append]
      omega
    have htb : t ≤ 1000000000000 := by rw [ht.out]; exact Nat.le_trans (hsplit k) hc
    by_cases hlt : k < n
    · obtain ⟨b, o, x, rfl, hz, hok, g0, g1, g2, g3, g4, g5⟩ := (HX.out.later hwr.out).get hlt
      have HLB : Hid (Later wr (wr.alloc (.cells #[.int .i64 x.v.kind, .string x.v.name, .string x.v.to, .int .i64 x.v.place, .slice x.A x.n x.c, .slice x.B x.m x.d] 51))) := (Later.refl wr).alloc _
      have hb2 := hsplit (k + 1)
      have htk := valsP_take hz
      have e1 := hok.old.len; have e2 := hok.new.len
      have hnx : costP ((valsP xs).take (k + 1)) = t + (x.n + x.m) := by
        rw [htk, cost_append, ← ht.out, ← e1, ← e2]
        simp [costP]
      rw [hnx] at hb2
      have HNX := Lib.hid hnx.symm
      clear hsplit htk hnx hok hz e1 e2
      go_wp2
      go_roundg (n - (k + 1))
      case measure => omega
      case rel => exact ⟨k + 1, t + (x.n + x.m), by omega, Nat.le_refl _, by go_num, by go_num, HNX, hwr.out.trans HLB.out⟩
    · have HE : Hid (t = costP (valsP xs)) := by
        have := ht.out
        rw [List.take_of_length_le (by rw [valsP_length, HX.out.len]; omega)] at this
        exact this
      clear hsplit
      go_wp2
      go_ret
      exact ⟨by rw [← HE.out]; rfl, hwr.out⟩

end Go.Proofs.Ytbhnbkcokhfopaa
