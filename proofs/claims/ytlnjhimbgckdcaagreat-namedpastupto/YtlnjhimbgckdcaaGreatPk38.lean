import Derived.Test.YtlnjhimbgckdcaaGreatPk31
import Derived.Test.YtlnjhimbgckdcaaGreatPk37
import Derived.Test.YtlnjhimbgckdcaaGreatPk27
import Derived.Test.YtlnjhimbgckdcaaGreatPk15
import Derived.Deep.LoopGhost
import Derived.Deep.QuietTactic
import Derived.BigQuiet
import Derived.Lib.Hide
import Derived.Test.YtlnjhimbgckdcaaGreatPk29
import Derived.Test.YtlnjhimbgckdcaaGreatPk18

/-
  What the document's own Swap of patches comes to, as a call.
-/
namespace Go.Proofs.YtlnjhimbgckdcaaGreat
open Go.RowKit Go.Maps

theorem away_of_rows {wx : World} {g : Nat} {ls ms : List PrC} {a : PrC} (hl : ∀ z ∈ ls, PrOk wx z) (hm : ∀ z ∈ ms, PrOk wx z) (al : ∀ z ∈ ls, Away g z) (am : ∀ z ∈ ms, Away g z) (h : ∀ w0, (∀ z ∈ ls, PrOk w0 z) -> (∀ z ∈ ms, PrOk w0 z) -> PrOk w0 a) (hlt : g < wx.heap.size) : Away g a := by
  have ht : Turned g wx (wx.putObj g (.map #[] 0)) := ⟨rfl, rfl, rfl, by simp [World.putObj], fun i _ hne => World.putObj_heap_other (fun e => hne (by rw [e]))⟩
  have hmm : (wx.putObj g (.map #[] 0)).heap[g]? = some (.map #[] 0) := World.putObj_heap_same hlt
  have ha := h _ (fun z hz => (hl z hz).off ht (al z hz)) (fun z hz => (hm z hz).off ht (am z hz))
  exact ⟨ha.old.notIn hmm, ha.new.notIn hmm⟩
def GivesRs (p q : PaC) (r : Option (Pa × Pa)) (w : World) (e : Ending) (w' : World) : Prop :=
  ∃ y z : PaC, e = .returned (.tuple #[paV y, paV z, .bool r.isSome]) /\ PaOk w' y /\ PaOk w' z /\ Later w w' /\ (r = none -> y = zeroN /\ z = zeroN) /\ (∀ c, r = some c -> y.v = c.1 /\ z.v = c.2) /\ ∀ k, k < w.heap.size -> AwayN k p -> AwayN k q -> AwayN k y /\ AwayN k z
theorem givesR_none {p q : PaC} {w w' : World} (hl : Later w w') : GivesRs p q none w (.returned (.tuple #[paV zeroN, paV zeroN, .bool false])) w' :=
  ⟨zeroN, zeroN, rfl, zeroN_ok _, zeroN_ok _, hl, (fun _ => ⟨rfl, rfl⟩), (fun _ h => by cases h), fun k _ _ _ => ⟨zeroN_away k, zeroN_away k⟩⟩
theorem results_two4r {P : Program} {fn : Func} (h : fn.results = #[.cell 4 25, .cell 5 25, .tmp 6]) (hP : P = Tryz.prog) (tmps : Array Value) (w : World) (g4 g5 : Nat) (y z : PaC) (b : Value) {t s : TypeId}
    (h4 : tmps.getD 4 undef = .pointer (some ⟨g4, 0, none⟩)) (h5 : tmps.getD 5 undef = .pointer (some ⟨g5, 0, none⟩)) (h6 : tmps.getD 6 undef = b) (c4 : BoxAt w g4 (paL y).toArray t) (c5 : BoxAt w g5 (paL z).toArray s) : (results fn tmps).run P w = .ok (.tuple #[paV y, paV z, b]) w := by
  subst hP
  have p4 : tmps[4]?.getD undef = .pointer (some ⟨g4, 0, none⟩) := by simpa using h4
  have p5 : tmps[5]?.getD undef = .pointer (some ⟨g5, 0, none⟩) := by simpa using h5
  have p6 : tmps[6]?.getD undef = b := by simpa using h6
  have r4 := run_loadVar_row (P := Tryz.prog) w g4 t 25 (paL y).toArray (0, 0) _ c4 Tryz.underlying25 rfl Tryz.rpatchSize
  have r5 := run_loadVar_row (P := Tryz.prog) w g5 s 25 (paL z).toArray (0, 0) _ c5 Tryz.underlying25 rfl Tryz.rpatchSize
  simp [results, h, p4, p5, p6, asAddr, r4, r5, paV, paL]
theorem zero_tailR {w V : World} {g4 g5 : Nat} (h4 : BoxAt V g4 #[.int .i64 0, .string ⟨#[]⟩, .slice none 0 0, .slice none 0 0] 25) (h5 : BoxAt V g5 #[.int .i64 0, .string ⟨#[]⟩, .slice none 0 0, .slice none 0 0] 25) (hne : g4 ≠ g5) (hg4 : w.heap.size <= g4) (hg5 : w.heap.size <= g5) (hl : Later w V) : BoxAt (((((((((V.setCell ⟨g4, 0, none⟩ (.int .i64 0)).setCell ⟨g4, 1, none⟩ (.string ⟨#[]⟩)).setCell ⟨g4, 2, none⟩ (.slice none 0 0)).setCell ⟨g4, 3, none⟩ (.slice none 0 0)).setCell ⟨g5, 0, none⟩ (.int .i64 0)).setCell ⟨g5, 1, none⟩ (.string ⟨#[]⟩)).setCell ⟨g5, 2, none⟩ (.slice none 0 0)).setCell ⟨g5, 3, none⟩ (.slice none 0 0))) g4 (paL zeroN).toArray 25 /\ BoxAt (((((((((V.setCell ⟨g4, 0, none⟩ (.int .i64 0)).setCell ⟨g4, 1, none⟩ (.string ⟨#[]⟩)).setCell ⟨g4, 2, none⟩ (.slice none 0 0)).setCell ⟨g4, 3, none⟩ (.slice none 0 0)).setCell ⟨g5, 0, none⟩ (.int .i64 0)).setCell ⟨g5, 1, none⟩ (.string ⟨#[]⟩)).setCell ⟨g5, 2, none⟩ (.slice none 0 0)).setCell ⟨g5, 3, none⟩ (.slice none 0 0))) g5 (paL zeroN).toArray 25 /\ Later w (((((((((V.setCell ⟨g4, 0, none⟩ (.int .i64 0)).setCell ⟨g4, 1, none⟩ (.string ⟨#[]⟩)).setCell ⟨g4, 2, none⟩ (.slice none 0 0)).setCell ⟨g4, 3, none⟩ (.slice none 0 0)).setCell ⟨g5, 0, none⟩ (.int .i64 0)).setCell ⟨g5, 1, none⟩ (.string ⟨#[]⟩)).setCell ⟨g5, 2, none⟩ (.slice none 0 0)).setCell ⟨g5, 3, none⟩ (.slice none 0 0))) := by
  have t4 := turned_set4 V g4 (.int .i64 0) (.string ⟨#[]⟩) (.slice none 0 0) (.slice none 0 0)
  have t5 := turned_set4 (((((V.setCell ⟨g4, 0, none⟩ (.int .i64 0)).setCell ⟨g4, 1, none⟩ (.string ⟨#[]⟩)).setCell ⟨g4, 2, none⟩ (.slice none 0 0)).setCell ⟨g4, 3, none⟩ (.slice none 0 0))) g5 (.int .i64 0) (.string ⟨#[]⟩) (.slice none 0 0) (.slice none 0 0)
  exact ⟨(h4.set4 _ _ _ _).other t5 hne, (h5.other t4 (fun e => hne e.symm)).set4 _ _ _ _, (hl.turn t4 hg4).turn t5 hg5⟩

set_option maxRecDepth 100000 in
set_option maxHeartbeats 1600000 in
theorem refSwap7_any (p q : PaC) (w : World) (hp : PaOk w p) (hq : PaOk w q) : Calls Tryz.prog 11 #[paV p, paV q] w (GivesRs p q (swapN p.v q.v) w) := by
  have hlb : Later w ((((w.alloc (.cells #[.int .i64 p.v.id, .string p.v.note, .slice p.D p.nd p.cd, .slice p.L p.nl p.cl] 25)).alloc (.cells #[.int .i64 q.v.id, .string q.v.note, .slice q.D q.nd q.cd, .slice q.L q.nl q.cl] 25)).alloc (.cells #[.int .i64 0, .string ⟨#[]⟩, .slice none 0 0, .slice none 0 0] 25)).alloc (.cells #[.int .i64 0, .string ⟨#[]⟩, .slice none 0 0, .slice none 0 0] 25)) := ((((Later.refl w).alloc _).alloc _).alloc _).alloc _
  have hb2 : BoxAt ((((w.alloc (.cells #[.int .i64 p.v.id, .string p.v.note, .slice p.D p.nd p.cd, .slice p.L p.nl p.cl] 25)).alloc (.cells #[.int .i64 q.v.id, .string q.v.note, .slice q.D q.nd q.cd, .slice q.L q.nl q.cl] 25)).alloc (.cells #[.int .i64 0, .string ⟨#[]⟩, .slice none 0 0, .slice none 0 0] 25)).alloc (.cells #[.int .i64 0, .string ⟨#[]⟩, .slice none 0 0, .slice none 0 0] 25)) w.heap.size (paL p).toArray 25 := (((BoxAt.made w (paL p).toArray 25).alloc _).alloc _).alloc _
  have hb3 : BoxAt ((((w.alloc (.cells #[.int .i64 p.v.id, .string p.v.note, .slice p.D p.nd p.cd, .slice p.L p.nl p.cl] 25)).alloc (.cells #[.int .i64 q.v.id, .string q.v.note, .slice q.D q.nd q.cd, .slice q.L q.nl q.cl] 25)).alloc (.cells #[.int .i64 0, .string ⟨#[]⟩, .slice none 0 0, .slice none 0 0] 25)).alloc (.cells #[.int .i64 0, .string ⟨#[]⟩, .slice none 0 0, .slice none 0 0] 25)) (w.heap.size + 1) (paL q).toArray 25 := by
    have := BoxAt.made (w.alloc (.cells #[.int .i64 p.v.id, .string p.v.note, .slice p.D p.nd p.cd, .slice p.L p.nl p.cl] 25)) (paL q).toArray 25
    rw [World.size_alloc] at this
    exact (this.alloc _).alloc _
  have hb4 : BoxAt ((((w.alloc (.cells #[.int .i64 p.v.id, .string p.v.note, .slice p.D p.nd p.cd, .slice p.L p.nl p.cl] 25)).alloc (.cells #[.int .i64 q.v.id, .string q.v.note, .slice q.D q.nd q.cd, .slice q.L q.nl q.cl] 25)).alloc (.cells #[.int .i64 0, .string ⟨#[]⟩, .slice none 0 0, .slice none 0 0] 25)).alloc (.cells #[.int .i64 0, .string ⟨#[]⟩, .slice none 0 0, .slice none 0 0] 25)) (w.heap.size + 1 + 1) #[.int .i64 0, .string ⟨#[]⟩, .slice none 0 0, .slice none 0 0] 25 := by
    have := BoxAt.made ((w.alloc (.cells #[.int .i64 p.v.id, .string p.v.note, .slice p.D p.nd p.cd, .slice p.L p.nl p.cl] 25)).alloc (.cells #[.int .i64 q.v.id, .string q.v.note, .slice q.D q.nd q.cd, .slice q.L q.nl q.cl] 25)) #[.int .i64 0, .string ⟨#[]⟩, .slice none 0 0, .slice none 0 0] 25
    rw [World.size_alloc, World.size_alloc] at this
    exact this.alloc _
  have hb5 : BoxAt ((((w.alloc (.cells #[.int .i64 p.v.id, .string p.v.note, .slice p.D p.nd p.cd, .slice p.L p.nl p.cl] 25)).alloc (.cells #[.int .i64 q.v.id, .string q.v.note, .slice q.D q.nd q.cd, .slice q.L q.nl q.cl] 25)).alloc (.cells #[.int .i64 0, .string ⟨#[]⟩, .slice none 0 0, .slice none 0 0] 25)).alloc (.cells #[.int .i64 0, .string ⟨#[]⟩, .slice none 0 0, .slice none 0 0] 25)) (w.heap.size + 1 + 1 + 1) #[.int .i64 0, .string ⟨#[]⟩, .slice none 0 0, .slice none 0 0] 25 := by
    have := BoxAt.made (((w.alloc (.cells #[.int .i64 p.v.id, .string p.v.note, .slice p.D p.nd p.cd, .slice p.L p.nl p.cl] 25)).alloc (.cells #[.int .i64 q.v.id, .string q.v.note, .slice q.D q.nd q.cd, .slice q.L q.nl q.cl] 25)).alloc (.cells #[.int .i64 0, .string ⟨#[]⟩, .slice none 0 0, .slice none 0 0] 25)) #[.int .i64 0, .string ⟨#[]⟩, .slice none 0 0, .slice none 0 0] 25
    rw [World.size_alloc, World.size_alloc, World.size_alloc] at this
    exact this
  have HP := Lib.hid hp; have HQ := Lib.hid hq
  have HLB := Lib.hid hlb; have HB2 := Lib.hid hb2; have HB3 := Lib.hid hb3; have HB4 := Lib.hid hb4; have HB5 := Lib.hid hb5
  have HR1 := Lib.hid (refRight7_any p _ (hp.later hlb))
  clear hp hq hlb hb2 hb3 hb4 hb5
  unfold paV at HR1 ⊢
  go_enter Tryz.func11, Tryz.ntmps11
  go_wp2_with fail
  generalize ((((w.alloc (.cells #[.int .i64 p.v.id, .string p.v.note, .slice p.D p.nd p.cd, .slice p.L p.nl p.cl] 25)).alloc (.cells #[.int .i64 q.v.id, .string q.v.note, .slice q.D q.nd q.cd, .slice q.L q.nl q.cl] 25)).alloc (.cells #[.int .i64 0, .string ⟨#[]⟩, .slice none 0 0, .slice none 0 0] 25)).alloc (.cells #[.int .i64 0, .string ⟨#[]⟩, .slice none 0 0, .slice none 0 0] 25)) = wb at HLB HB2 HB3 HB4 HB5 HR1 ⊢
  refine HR1.out.mono ?_
  rintro e w1 ⟨rfl, hl1⟩
  replace HLB := Lib.hid (HLB.out.trans hl1); replace HB2 := Lib.hid (HB2.out.later hl1); replace HB3 := Lib.hid (HB3.out.later hl1); replace HB4 := Lib.hid (HB4.out.later hl1); replace HB5 := Lib.hid (HB5.out.later hl1)
  clear hl1 HR1 wb
  have q20 : w1.cell? ⟨w.heap.size, 0, none⟩ = some (.int .i64 p.v.id) := HB2.out.cell rfl
  have q21 : w1.cell? ⟨w.heap.size, 1, none⟩ = some (.string p.v.note) := HB2.out.cell rfl
  have q22 : w1.cell? ⟨w.heap.size, 2, none⟩ = some (.slice p.D p.nd p.cd) := HB2.out.cell rfl
  have q23 : w1.cell? ⟨w.heap.size, 3, none⟩ = some (.slice p.L p.nl p.cl) := HB2.out.cell rfl
  have q30 : w1.cell? ⟨w.heap.size + 1, 0, none⟩ = some (.int .i64 q.v.id) := HB3.out.cell rfl
  have q31 : w1.cell? ⟨w.heap.size + 1, 1, none⟩ = some (.string q.v.note) := HB3.out.cell rfl
  have q32 : w1.cell? ⟨w.heap.size + 1, 2, none⟩ = some (.slice q.D q.nd q.cd) := HB3.out.cell rfl
  have q33 : w1.cell? ⟨w.heap.size + 1, 3, none⟩ = some (.slice q.L q.nl q.cl) := HB3.out.cell rfl
  have y40 : w1.cell? ⟨w.heap.size + 1 + 1, 0, none⟩ = some (.int .i64 0) := HB4.out.cell rfl
  have z40 := HB4.out.frozen 0
  have y41 : w1.cell? ⟨w.heap.size + 1 + 1, 1, none⟩ = some (.string ⟨#[]⟩) := HB4.out.cell rfl
  have z41 := HB4.out.frozen 1
  have y42 : w1.cell? ⟨w.heap.size + 1 + 1, 2, none⟩ = some (.slice none 0 0) := HB4.out.cell rfl
  have z42 := HB4.out.frozen 2
  have y43 : w1.cell? ⟨w.heap.size + 1 + 1, 3, none⟩ = some (.slice none 0 0) := HB4.out.cell rfl
  have z43 := HB4.out.frozen 3
  have y50 : w1.cell? ⟨w.heap.size + 1 + 1 + 1, 0, none⟩ = some (.int .i64 0) := HB5.out.cell rfl
  have z50 := HB5.out.frozen 0
  have y51 : w1.cell? ⟨w.heap.size + 1 + 1 + 1, 1, none⟩ = some (.string ⟨#[]⟩) := HB5.out.cell rfl
  have z51 := HB5.out.frozen 1
  have y52 : w1.cell? ⟨w.heap.size + 1 + 1 + 1, 2, none⟩ = some (.slice none 0 0) := HB5.out.cell rfl
  have z52 := HB5.out.frozen 2
  have y53 : w1.cell? ⟨w.heap.size + 1 + 1 + 1, 3, none⟩ = some (.slice none 0 0) := HB5.out.cell rfl
  have z53 := HB5.out.frozen 3
  cases hr1 : rightN p.v with
  | false =>
    have HEQ := Lib.hid (swapN_none (p := p.v) (q := q.v) (.inl hr1))
    go_wp2
    obtain ⟨n4, n5, nl⟩ := zero_tailR HB4.out HB5.out (by omega) (by omega) (by omega) HLB.out
    refine bodyPost_ret (results_two4r rfl rfl _ _ (w.heap.size + 1 + 1) (w.heap.size + 1 + 1 + 1) zeroN zeroN _ rfl rfl rfl n4 n5) rfl ?_
    rw [HEQ.out]
    exact givesR_none nl
  | true =>
    have HR2 := Lib.hid (refRight7_any q w1 (HQ.out.later HLB.out))
    unfold paV at HR2
    go_wp2_with fail
    refine HR2.out.mono ?_
    rintro e w2 ⟨rfl, hl2⟩
    replace HLB := Lib.hid (HLB.out.trans hl2); replace HB2 := Lib.hid (HB2.out.later hl2); replace HB3 := Lib.hid (HB3.out.later hl2); replace HB4 := Lib.hid (HB4.out.later hl2); replace HB5 := Lib.hid (HB5.out.later hl2)
    clear hl2 HR2 q20 q21 q22 q23 q30 q31 q32 q33 y40 y41 y42 y43 y50 y51 y52 y53 z40 z41 z42 z43 z50 z51 z52 z53 w1
    have q20 : w2.cell? ⟨w.heap.size, 0, none⟩ = some (.int .i64 p.v.id) := HB2.out.cell rfl
    have q21 : w2.cell? ⟨w.heap.size, 1, none⟩ = some (.string p.v.note) := HB2.out.cell rfl
    have q22 : w2.cell? ⟨w.heap.size, 2, none⟩ = some (.slice p.D p.nd p.cd) := HB2.out.cell rfl
    have q23 : w2.cell? ⟨w.heap.size, 3, none⟩ = some (.slice p.L p.nl p.cl) := HB2.out.cell rfl
    have q30 : w2.cell? ⟨w.heap.size + 1, 0, none⟩ = some (.int .i64 q.v.id) := HB3.out.cell rfl
    have q31 : w2.cell? ⟨w.heap.size + 1, 1, none⟩ = some (.string q.v.note) := HB3.out.cell rfl
    have q32 : w2.cell? ⟨w.heap.size + 1, 2, none⟩ = some (.slice q.D q.nd q.cd) := HB3.out.cell rfl
    have q33 : w2.cell? ⟨w.heap.size + 1, 3, none⟩ = some (.slice q.L q.nl q.cl) := HB3.out.cell rfl
    have y40 : w2.cell? ⟨w.heap.size + 1 + 1, 0, none⟩ = some (.int .i64 0) := HB4.out.cell rfl
    have z40 := HB4.out.frozen 0
    have y41 : w2.cell? ⟨w.heap.size + 1 + 1, 1, none⟩ = some (.string ⟨#[]⟩) := HB4.out.cell rfl
    have z41 := HB4.out.frozen 1
    have y42 : w2.cell? ⟨w.heap.size + 1 + 1, 2, none⟩ = some (.slice none 0 0) := HB4.out.cell rfl
    have z42 := HB4.out.frozen 2
    have y43 : w2.cell? ⟨w.heap.size + 1 + 1, 3, none⟩ = some (.slice none 0 0) := HB4.out.cell rfl
    have z43 := HB4.out.frozen 3
    have y50 : w2.cell? ⟨w.heap.size + 1 + 1 + 1, 0, none⟩ = some (.int .i64 0) := HB5.out.cell rfl
    have z50 := HB5.out.frozen 0
    have y51 : w2.cell? ⟨w.heap.size + 1 + 1 + 1, 1, none⟩ = some (.string ⟨#[]⟩) := HB5.out.cell rfl
    have z51 := HB5.out.frozen 1
    have y52 : w2.cell? ⟨w.heap.size + 1 + 1 + 1, 2, none⟩ = some (.slice none 0 0) := HB5.out.cell rfl
    have z52 := HB5.out.frozen 2
    have y53 : w2.cell? ⟨w.heap.size + 1 + 1 + 1, 3, none⟩ = some (.slice none 0 0) := HB5.out.cell rfl
    have z53 := HB5.out.frozen 3
    cases hr2 : rightN q.v with
    | false =>
      have HEQ := Lib.hid (swapN_none (p := p.v) (q := q.v) (.inr (.inl hr2)))
      go_wp2
      obtain ⟨n4, n5, nl⟩ := zero_tailR HB4.out HB5.out (by omega) (by omega) (by omega) HLB.out
      refine bodyPost_ret (results_two4r rfl rfl _ _ (w.heap.size + 1 + 1) (w.heap.size + 1 + 1 + 1) zeroN zeroN _ rfl rfl rfl n4 n5) rfl ?_
      rw [HEQ.out]
      exact givesR_none nl
    | true =>
      by_cases h3 : p.v.id = q.v.id
      ·
        have HEQ := Lib.hid (swapN_none (p := p.v) (q := q.v) (.inr (.inr (.inl h3))))
        go_wp2
        obtain ⟨n4, n5, nl⟩ := zero_tailR HB4.out HB5.out (by omega) (by omega) (by omega) HLB.out
        refine bodyPost_ret (results_two4r rfl rfl _ _ (w.heap.size + 1 + 1) (w.heap.size + 1 + 1 + 1) zeroN zeroN _ rfl rfl rfl n4 n5) rfl ?_
        rw [HEQ.out]
        exact givesR_none nl
      · have HD1 := Lib.hid (refOn7_any p q.v.id w2 (HP.out.later HLB.out))
        unfold paV at HD1
        go_wp2_with fail
        refine HD1.out.mono ?_
        rintro e w3 ⟨rfl, hl3⟩
        replace HLB := Lib.hid (HLB.out.trans hl3); replace HB2 := Lib.hid (HB2.out.later hl3); replace HB3 := Lib.hid (HB3.out.later hl3); replace HB4 := Lib.hid (HB4.out.later hl3); replace HB5 := Lib.hid (HB5.out.later hl3)
        clear hl3 HD1 q20 q21 q22 q23 q30 q31 q32 q33 y40 y41 y42 y43 y50 y51 y52 y53 z40 z41 z42 z43 z50 z51 z52 z53 w2
        have q20 : w3.cell? ⟨w.heap.size, 0, none⟩ = some (.int .i64 p.v.id) := HB2.out.cell rfl
        have q21 : w3.cell? ⟨w.heap.size, 1, none⟩ = some (.string p.v.note) := HB2.out.cell rfl
        have q22 : w3.cell? ⟨w.heap.size, 2, none⟩ = some (.slice p.D p.nd p.cd) := HB2.out.cell rfl
        have q23 : w3.cell? ⟨w.heap.size, 3, none⟩ = some (.slice p.L p.nl p.cl) := HB2.out.cell rfl
        have q30 : w3.cell? ⟨w.heap.size + 1, 0, none⟩ = some (.int .i64 q.v.id) := HB3.out.cell rfl
        have q31 : w3.cell? ⟨w.heap.size + 1, 1, none⟩ = some (.string q.v.note) := HB3.out.cell rfl
        have q32 : w3.cell? ⟨w.heap.size + 1, 2, none⟩ = some (.slice q.D q.nd q.cd) := HB3.out.cell rfl
        have q33 : w3.cell? ⟨w.heap.size + 1, 3, none⟩ = some (.slice q.L q.nl q.cl) := HB3.out.cell rfl
        have y40 : w3.cell? ⟨w.heap.size + 1 + 1, 0, none⟩ = some (.int .i64 0) := HB4.out.cell rfl
        have z40 := HB4.out.frozen 0
        have y41 : w3.cell? ⟨w.heap.size + 1 + 1, 1, none⟩ = some (.string ⟨#[]⟩) := HB4.out.cell rfl
        have z41 := HB4.out.frozen 1
        have y42 : w3.cell? ⟨w.heap.size + 1 + 1, 2, none⟩ = some (.slice none 0 0) := HB4.out.cell rfl
        have z42 := HB4.out.frozen 2
        have y43 : w3.cell? ⟨w.heap.size + 1 + 1, 3, none⟩ = some (.slice none 0 0) := HB4.out.cell rfl
        have z43 := HB4.out.frozen 3
        have y50 : w3.cell? ⟨w.heap.size + 1 + 1 + 1, 0, none⟩ = some (.int .i64 0) := HB5.out.cell rfl
        have z50 := HB5.out.frozen 0
        have y51 : w3.cell? ⟨w.heap.size + 1 + 1 + 1, 1, none⟩ = some (.string ⟨#[]⟩) := HB5.out.cell rfl
        have z51 := HB5.out.frozen 1
        have y52 : w3.cell? ⟨w.heap.size + 1 + 1 + 1, 2, none⟩ = some (.slice none 0 0) := HB5.out.cell rfl
        have z52 := HB5.out.frozen 2
        have y53 : w3.cell? ⟨w.heap.size + 1 + 1 + 1, 3, none⟩ = some (.slice none 0 0) := HB5.out.cell rfl
        have z53 := HB5.out.frozen 3
        by_cases h4 : q.v.id ∈ p.v.deps
        · rw [decide_eq_true h4]
          have HEQ := Lib.hid (swapN_none (p := p.v) (q := q.v) (.inr (.inr (.inr (.inl h4)))))
          go_wp2
          obtain ⟨n4, n5, nl⟩ := zero_tailR HB4.out HB5.out (by omega) (by omega) (by omega) HLB.out
          refine bodyPost_ret (results_two4r rfl rfl _ _ (w.heap.size + 1 + 1) (w.heap.size + 1 + 1 + 1) zeroN zeroN _ rfl rfl rfl n4 n5) rfl ?_
          rw [HEQ.out]
          exact givesR_none nl
        · rw [decide_eq_false h4]
          have HD2 := Lib.hid (refOn7_any q p.v.id w3 (HQ.out.later HLB.out))
          unfold paV at HD2
          go_wp2_with fail
          refine HD2.out.mono ?_
          rintro e w4 ⟨rfl, hl4⟩
          replace HLB := Lib.hid (HLB.out.trans hl4); replace HB2 := Lib.hid (HB2.out.later hl4); replace HB3 := Lib.hid (HB3.out.later hl4); replace HB4 := Lib.hid (HB4.out.later hl4); replace HB5 := Lib.hid (HB5.out.later hl4)
          clear hl4 HD2 q20 q21 q22 q23 q30 q31 q32 q33 y40 y41 y42 y43 y50 y51 y52 y53 z40 z41 z42 z43 z50 z51 z52 z53 w3
          have q20 : w4.cell? ⟨w.heap.size, 0, none⟩ = some (.int .i64 p.v.id) := HB2.out.cell rfl
          have q21 : w4.cell? ⟨w.heap.size, 1, none⟩ = some (.string p.v.note) := HB2.out.cell rfl
          have q22 : w4.cell? ⟨w.heap.size, 2, none⟩ = some (.slice p.D p.nd p.cd) := HB2.out.cell rfl
          have q23 : w4.cell? ⟨w.heap.size, 3, none⟩ = some (.slice p.L p.nl p.cl) := HB2.out.cell rfl
          have q30 : w4.cell? ⟨w.heap.size + 1, 0, none⟩ = some (.int .i64 q.v.id) := HB3.out.cell rfl
          have q31 : w4.cell? ⟨w.heap.size + 1, 1, none⟩ = some (.string q.v.note) := HB3.out.cell rfl
          have q32 : w4.cell? ⟨w.heap.size + 1, 2, none⟩ = some (.slice q.D q.nd q.cd) := HB3.out.cell rfl
          have q33 : w4.cell? ⟨w.heap.size + 1, 3, none⟩ = some (.slice q.L q.nl q.cl) := HB3.out.cell rfl
          have y40 : w4.cell? ⟨w.heap.size + 1 + 1, 0, none⟩ = some (.int .i64 0) := HB4.out.cell rfl
          have z40 := HB4.out.frozen 0
          have y41 : w4.cell? ⟨w.heap.size + 1 + 1, 1, none⟩ = some (.string ⟨#[]⟩) := HB4.out.cell rfl
          have z41 := HB4.out.frozen 1
          have y42 : w4.cell? ⟨w.heap.size + 1 + 1, 2, none⟩ = some (.slice none 0 0) := HB4.out.cell rfl
          have z42 := HB4.out.frozen 2
          have y43 : w4.cell? ⟨w.heap.size + 1 + 1, 3, none⟩ = some (.slice none 0 0) := HB4.out.cell rfl
          have z43 := HB4.out.frozen 3
          have y50 : w4.cell? ⟨w.heap.size + 1 + 1 + 1, 0, none⟩ = some (.int .i64 0) := HB5.out.cell rfl
          have z50 := HB5.out.frozen 0
          have y51 : w4.cell? ⟨w.heap.size + 1 + 1 + 1, 1, none⟩ = some (.string ⟨#[]⟩) := HB5.out.cell rfl
          have z51 := HB5.out.frozen 1
          have y52 : w4.cell? ⟨w.heap.size + 1 + 1 + 1, 2, none⟩ = some (.slice none 0 0) := HB5.out.cell rfl
          have z52 := HB5.out.frozen 2
          have y53 : w4.cell? ⟨w.heap.size + 1 + 1 + 1, 3, none⟩ = some (.slice none 0 0) := HB5.out.cell rfl
          have z53 := HB5.out.frozen 3
          by_cases h5 : p.v.id ∈ q.v.deps
          · rw [decide_eq_true h5]
            have HEQ := Lib.hid (swapN_none (p := p.v) (q := q.v) (.inr (.inr (.inr (.inr h5)))))
            go_wp2
            obtain ⟨n4, n5, nl⟩ := zero_tailR HB4.out HB5.out (by omega) (by omega) (by omega) HLB.out
            refine bodyPost_ret (results_two4r rfl rfl _ _ (w.heap.size + 1 + 1) (w.heap.size + 1 + 1 + 1) zeroN zeroN _ rfl rfl rfl n4 n5) rfl ?_
            rw [HEQ.out]
            exact givesR_none nl
          · rw [decide_eq_false h5]
            have hp24 : p.nl <= 400 := by
              have h1 := rightN_parts p.v
              rw [hr1, paOk_length HP.out] at h1
              simp only [Bool.true_eq, Bool.and_eq_true, decide_eq_true_eq] at h1
              omega
            have hq24 : q.nl <= 400 := by
              have h1 := rightN_parts q.v
              rw [hr2, paOk_length HQ.out] at h1
              simp only [Bool.true_eq, Bool.and_eq_true, decide_eq_true_eq] at h1
              omega
            have HSW := Lib.hid (refSwap5x_any p.L q.L p.nl p.cl q.nl q.cl p.xs q.xs w4 (HP.out.row.later HLB.out) (HQ.out.row.later HLB.out) hp24 hq24)
            rw [HP.out.is, HQ.out.is] at HSW
            have HEQ := Lib.hid (swapN_some hr1 hr2 h3 h4 h5)
            have hsz : w.heap.size + 4 <= w4.heap.size := by have := HB5.out.lt; omega
            go_wp2_with fail
            refine HSW.out.mono ?_
            rintro e w5 ⟨v, u, rfl, ⟨A1, n1, c1, ys, rfl, hc1, hy1, ey, by1, my⟩, ⟨A2, n2, c2, zs, rfl, hc2, hz1, ez, bz1, mz⟩, hl5⟩
            replace HB2 := Lib.hid (HB2.out.later hl5); replace HB3 := Lib.hid (HB3.out.later hl5); replace HB4 := Lib.hid (HB4.out.later hl5); replace HB5 := Lib.hid (HB5.out.later hl5)
            have HL5 := Lib.hid hl5
            clear HSW hl5 q20 q21 q22 q23 q30 q31 q32 q33 y40 y41 y42 y43 y50 y51 y52 y53 z40 z41 z42 z43 z50 z51 z52 z53
            cases hs : swapS p.v.l q.v.l with
            | none =>
              rw [hs] at HEQ
              replace HLB := Lib.hid (HLB.out.trans HL5.out)
              clear hy1 hz1 my mz ey ez by1 bz1 hc1 hc2
              simp only [Option.isSome_none]
              have q20 : w5.cell? ⟨w.heap.size, 0, none⟩ = some (.int .i64 p.v.id) := HB2.out.cell rfl
              have q21 : w5.cell? ⟨w.heap.size, 1, none⟩ = some (.string p.v.note) := HB2.out.cell rfl
              have q22 : w5.cell? ⟨w.heap.size, 2, none⟩ = some (.slice p.D p.nd p.cd) := HB2.out.cell rfl
              have q23 : w5.cell? ⟨w.heap.size, 3, none⟩ = some (.slice p.L p.nl p.cl) := HB2.out.cell rfl
              have q30 : w5.cell? ⟨w.heap.size + 1, 0, none⟩ = some (.int .i64 q.v.id) := HB3.out.cell rfl
              have q31 : w5.cell? ⟨w.heap.size + 1, 1, none⟩ = some (.string q.v.note) := HB3.out.cell rfl
              have q32 : w5.cell? ⟨w.heap.size + 1, 2, none⟩ = some (.slice q.D q.nd q.cd) := HB3.out.cell rfl
              have q33 : w5.cell? ⟨w.heap.size + 1, 3, none⟩ = some (.slice q.L q.nl q.cl) := HB3.out.cell rfl
              have y40 : w5.cell? ⟨w.heap.size + 1 + 1, 0, none⟩ = some (.int .i64 0) := HB4.out.cell rfl
              have z40 := HB4.out.frozen 0
              have y41 : w5.cell? ⟨w.heap.size + 1 + 1, 1, none⟩ = some (.string ⟨#[]⟩) := HB4.out.cell rfl
              have z41 := HB4.out.frozen 1
              have y42 : w5.cell? ⟨w.heap.size + 1 + 1, 2, none⟩ = some (.slice none 0 0) := HB4.out.cell rfl
              have z42 := HB4.out.frozen 2
              have y43 : w5.cell? ⟨w.heap.size + 1 + 1, 3, none⟩ = some (.slice none 0 0) := HB4.out.cell rfl
              have z43 := HB4.out.frozen 3
              have y50 : w5.cell? ⟨w.heap.size + 1 + 1 + 1, 0, none⟩ = some (.int .i64 0) := HB5.out.cell rfl
              have z50 := HB5.out.frozen 0
              have y51 : w5.cell? ⟨w.heap.size + 1 + 1 + 1, 1, none⟩ = some (.string ⟨#[]⟩) := HB5.out.cell rfl
              have z51 := HB5.out.frozen 1
              have y52 : w5.cell? ⟨w.heap.size + 1 + 1 + 1, 2, none⟩ = some (.slice none 0 0) := HB5.out.cell rfl
              have z52 := HB5.out.frozen 2
              have y53 : w5.cell? ⟨w.heap.size + 1 + 1 + 1, 3, none⟩ = some (.slice none 0 0) := HB5.out.cell rfl
              have z53 := HB5.out.frozen 3
              go_wp2
              obtain ⟨n4, n5, nl⟩ := zero_tailR HB4.out HB5.out (by omega) (by omega) (by omega) HLB.out
              refine bodyPost_ret (results_two4r rfl rfl _ _ (w.heap.size + 1 + 1) (w.heap.size + 1 + 1 + 1) zeroN zeroN _ rfl rfl rfl n4 n5) rfl ?_
              rw [HEQ.out]
              exact givesR_none nl
            | some r =>
              rw [hs] at HEQ ey ez
              simp only [fstS, sndS] at ey ez
              have hln := swapS_length hs
              have hY0 : n1 <= 30000 := by rw [← hy1.len, ← valsP_length, ey, hln.1, ← HQ.out.is, valsP_length, HQ.out.row.len]; exact HQ.out.lmost
              have hZ0 : n2 <= 30000 := by rw [← hz1.len, ← valsP_length, ez, hln.2, ← HP.out.is, valsP_length, HP.out.row.len]; exact HP.out.lmost
              have lP := HP.out.later (HLB.out.trans HL5.out); have lQ := HQ.out.later (HLB.out.trans HL5.out)
              have okY : PaOk w5 ⟨{ q.v with l := r.1 }, q.D, q.nd, q.cd, A1, n1, c1, ys⟩ := ⟨lQ.deps, hy1, ey, lQ.droom, hc1, lQ.dmost, hY0, lQ.note, lQ.lo, lQ.hi, lQ.dlo, lQ.dhi⟩
              have okZ : PaOk w5 ⟨{ p.v with l := r.2 }, p.D, p.nd, p.cd, A2, n2, c2, zs⟩ := ⟨lP.deps, hz1, ez, lP.droom, hc2, lP.dmost, hZ0, lP.note, lP.lo, lP.hi, lP.dlo, lP.dhi⟩
              have mix : ∀ k, k < w4.heap.size -> AwayN k p -> AwayN k q -> AwayN k ⟨{ q.v with l := r.1 }, q.D, q.nd, q.cd, A1, n1, c1, ys⟩ /\ AwayN k ⟨{ p.v with l := r.2 }, p.D, p.nd, p.cd, A2, n2, c2, zs⟩ := fun k hk ap aq =>
                ⟨⟨aq.1, (fun _ e => by have := by1 k e; omega), fun y hy => away_of_rows (fun z hz => (HP.out.row.each z hz).later HLB.out) (fun z hz => (HQ.out.row.each z hz).later HLB.out) ap.2.2 aq.2.2 (fun w0 h1 h2 => my w0 h1 h2 y hy) hk⟩,
                 ⟨ap.1, (fun _ e => by have := bz1 k e; omega), fun y hy => away_of_rows (fun z hz => (HP.out.row.each z hz).later HLB.out) (fun z hz => (HQ.out.row.each z hz).later HLB.out) ap.2.2 aq.2.2 (fun w0 h1 h2 => mz w0 h1 h2 y hy) hk⟩⟩
              have m4 := mix (w.heap.size + 1 + 1) (by omega) (HP.out.away (by omega)) (HQ.out.away (by omega)); have m5 := mix (w.heap.size + 1 + 1 + 1) (by omega) (HP.out.away (by omega)) (HQ.out.away (by omega))
              have HMX : Hid (∀ k, k < w.heap.size -> AwayN k p -> AwayN k q -> AwayN k ⟨{ q.v with l := r.1 }, q.D, q.nd, q.cd, A1, n1, c1, ys⟩ /\ AwayN k ⟨{ p.v with l := r.2 }, p.D, p.nd, p.cd, A2, n2, c2, zs⟩) := fun k hk => mix k (by omega)
              have HG : Hid (RwG w w.heap.size (w.heap.size + 1) (w.heap.size + 1 + 1) (w.heap.size + 1 + 1 + 1) ⟨{ q.v with l := r.1 }, q.D, q.nd, q.cd, A1, n1, c1, ys⟩ ⟨{ p.v with l := r.2 }, p.D, p.nd, p.cd, A2, n2, c2, zs⟩) := ⟨by omega, by omega, by omega, by omega, by omega, by omega, by omega, m4.1, m5.1, m4.2, m5.2⟩
              have HS0 : Hid (RwS w w.heap.size (w.heap.size + 1) (w.heap.size + 1 + 1) (w.heap.size + 1 + 1 + 1) p q ⟨{ q.v with l := r.1 }, q.D, q.nd, q.cd, A1, n1, c1, ys⟩ ⟨{ p.v with l := r.2 }, p.D, p.nd, p.cd, A2, n2, c2, zs⟩ 0 () w5) := ⟨HLB.out.trans HL5.out, HB2.out, HB3.out, HB4.out, HB5.out, okY, okZ⟩
              clear hy1 hz1 my mz ey ez by1 bz1 hc1 hc2 hln hY0 hZ0 lP lQ okY okZ mix m4 m5
              simp only [Option.isSome_some]
              go_upto_region 6 with fail
              refine rwn_region rfl (by kernel_rfl) ⟨_, rfl, rfl, rfl, rfl, by kernel_rfl⟩ ⟨_, rfl, rfl, rfl, rfl, by kernel_rfl⟩ ⟨_, rfl, rfl, rfl, rfl, by kernel_rfl⟩ ⟨_, rfl, rfl, rfl, rfl, by kernel_rfl⟩ ⟨_, rfl, rfl, rfl, rfl, by kernel_rfl⟩ ⟨_, rfl, rfl, rfl, rfl, by kernel_rfl⟩ ⟨_, rfl, rfl, rfl, rfl, by kernel_rfl⟩ ⟨_, rfl, rfl, rfl, rfl, by kernel_rfl⟩ ⟨_, rfl, rfl, rfl, rfl, by kernel_rfl⟩ ⟨_, rfl, rfl, rfl, rfl, by kernel_rfl⟩ ⟨_, rfl, rfl, rfl, rfl, by kernel_rfl⟩ ⟨_, rfl, rfl, rfl, rfl, by kernel_rfl⟩ ⟨_, rfl, rfl, rfl, rfl, by kernel_rfl⟩ ⟨_, rfl, rfl, rfl, rfl, by kernel_rfl⟩ ⟨_, rfl, rfl, rfl, rfl, by kernel_rfl⟩ ⟨_, rfl, rfl, rfl, rfl, by kernel_rfl⟩ ⟨_, rfl, rfl, rfl, rfl, by kernel_rfl⟩ ⟨_, rfl, rfl, rfl, rfl, by kernel_rfl⟩ ⟨_, rfl, rfl, rfl, rfl, by kernel_rfl⟩ (of_decide_eq_true rfl) rfl rfl rfl rfl rfl rfl HG.out HS0.out rfl rfl (fun D a V so e6 st => ?_)
              have sb4 := st.x4; have sb5 := st.x5
              simp only [Nat.le_refl, if_true, show (1 : Nat) <= 2 by decide] at sb4 sb5
              have ha := so.is
              simp only [List.foldl_cons, List.foldl_nil] at ha
              generalize a.eval (.tmp 52) = v52 at ha
              generalize a.eval (.tmp 53) = v53 at ha
              generalize a.eval (.tmp 54) = v54 at ha
              generalize a.eval (.tmp 55) = v55 at ha
              generalize a.eval (.tmp 56) = v56 at ha
              generalize a.eval (.tmp 57) = v57 at ha
              generalize a.eval (.tmp 58) = v58 at ha
              generalize a.eval (.tmp 59) = v59 at ha
              generalize a.eval (.tmp 60) = v60 at ha
              generalize a.eval (.tmp 61) = v61 at ha
              generalize a.eval (.tmp 62) = v62 at ha
              generalize a.eval (.tmp 63) = v63 at ha
              generalize a.eval (.tmp 64) = v64 at ha
              generalize a.eval (.tmp 65) = v65 at ha
              generalize a.eval (.tmp 66) = v66 at ha
              generalize a.eval (.tmp 67) = v67 at ha
              generalize a.eval (.tmp 6) = v6 at ha e6
              have SB4 := Lib.hid sb4; have SB5 := Lib.hid sb5; have ST := Lib.hid st
              clear so sb4 sb5 st
              subst ha
              simp only [Act.put, List.setIfInBounds_toArray, List.set_cons_zero, List.set_cons_succ]
              subst e6
              go_wp2
              refine bodyPost_ret (results_two4r rfl rfl _ _ (w.heap.size + 1 + 1) (w.heap.size + 1 + 1 + 1) _ _ _ rfl rfl rfl SB4.out SB5.out) rfl ?_
              rw [HEQ.out]
              refine ⟨_, _, rfl, ST.out.oy, ST.out.oz, ST.out.later, (fun h => by cases h), (fun c hc => ?_), HMX.out⟩
              cases hc
              exact ⟨rfl, rfl⟩


end Go.Proofs.YtlnjhimbgckdcaaGreat

/-
  What the statements' own Rows and Olds of patches come to, as calls.
-/
namespace Go.Proofs.YtlnjhimbgckdcaaGreat
open Go.RowKit Go.Maps

theorem Tryz.rpatchInfo : (Tryz.prog.info? 25).map (fun i => (i.zero, i.size, i.bytes)) = some (some (.agg #[.int .i64 0, .string ByteArray.empty, .slice none 0 0, .slice none 0 0]), 4, 72) := by kernel_rfl

set_option maxRecDepth 100000 in
set_option maxHeartbeats 800000 in
theorem rows7_any (A : Option Addr) (n c : Nat) (xs : List PaC) (w : World) (hx : NsOk w A n xs) (hn : n <= 65536) :
    Calls Tryz.prog 16 #[.slice A n c] w fun e w' => ∃ v ys, e = .returned v /\ OwnNs 30 w w' v ys /\ valsN ys = valsN xs := by
  have hlen := hx.len
  have HX := Lib.hid hx; clear hx
  obtain ⟨i0, hi, hz0, hz1, hz2⟩ := info_parts Tryz.patchInfo
  go_enter Tryz.func16, Tryz.ntmps16
  go_wp2
  go_loopg [3, 8] (n + 1) (fun g s3 s8 wr => ∃ (k : Nat) (v : Value) (ys : List PaC), k <= n /\ n - k <= g /\ s8 = .int .i64 k /\ s3 = v /\ ys.length = k /\ Hid (valsN ys = (valsN xs).take k) /\ Hid (OwnNs 30 w wr v ys))
  case atStart => exact ⟨0, _, [], Nat.zero_le _, by omega, rfl, rfl, rfl, by simp [Hid, valsN], OwnNs.nil (Later.refl w)⟩
  case round =>
    obtain ⟨k, v, ys, hk, hg, rfl, hv, hyl, hys, hown⟩ := hrel
    obtain rfl := hv.symm
    clear hv
    by_cases hlt : k < n
    · obtain ⟨b, o, x, rfl, hz, hok, g0, g1, g2, g3⟩ := (HX.out.later hown.out.later).get hlt
      have HOX := Lib.hid (HX.out.each x (List.mem_of_getElem? hz))
      have HLB : Hid (Later wr (wr.alloc (.cells #[.int .i64 x.v.id, .string x.v.note, .slice x.D x.nd x.cd, .slice x.L x.nl x.cl] 25))) := (Later.refl wr).alloc _
      have HC := Lib.hid (new7_any x _ (hok.later HLB.out))
      have HTK := Lib.hid (valsN_take hz)
      clear hok hz
      unfold paV at HC
      go_wp2_with fail
      refine HC.out.mono ?_
      rintro e w2 ⟨y, rfl, hy, hoky, hmy, hl2⟩
      have HVY := Lib.hid hy; have HOK := Lib.hid hoky
      have HO1 := Lib.hid ((hown.out.on HLB.out).on hl2 |>.on ((Later.refl w2).alloc (.cells #[.int .i64 y.v.id, .string y.v.note, .slice y.D y.nd y.cd, .slice y.L y.nl y.cl] 30)))
      have HAW : Hid (∀ z ∈ [y], ∀ g, v.ownBlock = some g -> AwayN g z) := by
        intro z hz g hgb
        simp at hz; subst hz
        have h1 := hown.out.lt g hgb
        have h2 := HLB.out.le
        exact hmy g (by omega) (HOX.out.away (hown.out.block g hgb))
      clear hl2 hy hoky hmy HC g0 g1 g2 g3
      go_wp2_with (at_builtin; refine wpList_append_ns rfl _ _ 40 rfl i0 _ 72 Tryz.underlying40 hi hz0 hz1 hz2 rfl HO1.out rfl _ _ _ [y] rfl (rowN_one _ _ _) (fun z hz => by simp at hz; subst hz; exact HOK.out.later4 _) HAW.out (by omega) (by omega) ?_; intro v4 w4 hown4 hg4; have HO4 := Lib.hid hown4; clear hown4 hg4)
      go_roundg (n - (k + 1))
      case measure => omega
      case rel => exact ⟨k + 1, v4, ys ++ [y], by omega, Nat.le_refl _, by go_num, rfl, by simp; omega, by show valsN (ys ++ [y]) = _; rw [HTK.out, ← hys.out, ← HVY.out]; simp [valsN], HO4⟩
    · have HE : Hid (valsN ys = valsN xs) := by
        have := hys.out
        rw [List.take_of_length_le (by rw [valsN_length, hlen]; omega)] at this
        exact this
      go_wp2
      go_ret
      exact ⟨v, ys, rfl, hown.out, HE.out⟩

set_option maxRecDepth 100000 in
set_option maxHeartbeats 800000 in
theorem olds7_any (A : Option Addr) (n c : Nat) (xs : List PaC) (w : World) (hx : NsOk w A n xs) (hn : n <= 65536) :
    Calls Tryz.prog 19 #[.slice A n c] w fun e w' => ∃ v ys, e = .returned v /\ OwnNs 25 w w' v ys /\ valsN ys = valsN xs := by
  have hlen := hx.len
  have HX := Lib.hid hx; clear hx
  obtain ⟨i0, hi, hz0, hz1, hz2⟩ := info_parts Tryz.rpatchInfo
  go_enter Tryz.func19, Tryz.ntmps19
  go_wp2
  go_loopg [3, 8] (n + 1) (fun g s3 s8 wr => ∃ (k : Nat) (v : Value) (ys : List PaC), k <= n /\ n - k <= g /\ s8 = .int .i64 k /\ s3 = v /\ ys.length = k /\ Hid (valsN ys = (valsN xs).take k) /\ Hid (OwnNs 25 w wr v ys))
  case atStart => exact ⟨0, _, [], Nat.zero_le _, by omega, rfl, rfl, rfl, by simp [Hid, valsN], OwnNs.nil (Later.refl w)⟩
  case round =>
    obtain ⟨k, v, ys, hk, hg, rfl, hv, hyl, hys, hown⟩ := hrel
    obtain rfl := hv.symm
    clear hv
    by_cases hlt : k < n
    · obtain ⟨b, o, x, rfl, hz, hok, g0, g1, g2, g3⟩ := (HX.out.later hown.out.later).get hlt
      have HOX := Lib.hid (HX.out.each x (List.mem_of_getElem? hz))
      have HLB : Hid (Later wr (wr.alloc (.cells #[.int .i64 x.v.id, .string x.v.note, .slice x.D x.nd x.cd, .slice x.L x.nl x.cl] 30))) := (Later.refl wr).alloc _
      have HC := Lib.hid (old7_any x _ (hok.later HLB.out))
      have HTK := Lib.hid (valsN_take hz)
      clear hok hz
      unfold paV at HC
      go_wp2_with fail
      refine HC.out.mono ?_
      rintro e w2 ⟨y, rfl, hy, hoky, hmy, hl2⟩
      have HVY := Lib.hid hy; have HOK := Lib.hid hoky
      have HO1 := Lib.hid ((hown.out.on HLB.out).on hl2 |>.on ((Later.refl w2).alloc (.cells #[.int .i64 y.v.id, .string y.v.note, .slice y.D y.nd y.cd, .slice y.L y.nl y.cl] 25)))
      have HAW : Hid (∀ z ∈ [y], ∀ g, v.ownBlock = some g -> AwayN g z) := by
        intro z hz g hgb
        simp at hz; subst hz
        have h1 := hown.out.lt g hgb
        have h2 := HLB.out.le
        exact hmy g (by omega) (HOX.out.away (hown.out.block g hgb))
      clear hl2 hy hoky hmy HC g0 g1 g2 g3
      go_wp2_with (at_builtin; refine wpList_append_ns rfl _ _ 39 rfl i0 _ 72 Tryz.underlying39 hi hz0 hz1 hz2 rfl HO1.out rfl _ _ _ [y] rfl (rowN_one _ _ _) (fun z hz => by simp at hz; subst hz; exact HOK.out.later4 _) HAW.out (by omega) (by omega) ?_; intro v4 w4 hown4 hg4; have HO4 := Lib.hid hown4; clear hown4 hg4)
      go_roundg (n - (k + 1))
      case measure => omega
      case rel => exact ⟨k + 1, v4, ys ++ [y], by omega, Nat.le_refl _, by go_num, rfl, by simp; omega, by show valsN (ys ++ [y]) = _; rw [HTK.out, ← hys.out, ← HVY.out]; simp [valsN], HO4⟩
    · have HE : Hid (valsN ys = valsN xs) := by
        have := hys.out
        rw [List.take_of_length_le (by rw [valsN_length, hlen]; omega)] at this
        exact this
      go_wp2
      go_ret
      exact ⟨v, ys, rfl, hown.out, HE.out⟩

end Go.Proofs.YtlnjhimbgckdcaaGreat
