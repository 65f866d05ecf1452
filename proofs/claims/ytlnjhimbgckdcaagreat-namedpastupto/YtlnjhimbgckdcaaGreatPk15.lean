import Derived.Test.YtlnjhimbgckdcaaGreatPk14
import Derived.Test.YtlnjhimbgckdcaaGreatPk11
import Derived.Deep.LoopGhost
import Derived.Deep.QuietTactic
import Derived.BigQuiet
import Derived.Lib.Hide
import Derived.Test.YtlnjhimbgckdcaaGreatPk13
import Derived.Test.YtlnjhimbgckdcaaGreatPk9

/-
  What named's Swap and Needs come to, as calls.
-/
namespace Go.Proofs.YtlnjhimbgckdcaaGreat
open Go.RowKit Go.Maps

def GivesSw (r : Option (Pa × Pa)) (w : World) (e : Ending) (w' : World) : Prop :=
  ∃ y z : PaC, e = .returned (.tuple #[paV y, paV z, .bool r.isSome]) /\ PaOk w' y /\ PaOk w' z /\ FreshN w y /\ FreshN w z /\ Later w w' /\ (r = none -> y = zeroN /\ z = zeroN) /\ ∀ c, r = some c -> y.v = c.1 /\ z.v = c.2
theorem results_two4 {P : Program} {fn : Func} (h : fn.results = #[.cell 4 30, .cell 5 30, .tmp 6]) (hP : P = Tryz.prog) (tmps : Array Value) (w : World) (g4 g5 : Nat) (y z : PaC) (b : Value) {t s : TypeId}
    (h4 : tmps.getD 4 undef = .pointer (some ⟨g4, 0, none⟩)) (h5 : tmps.getD 5 undef = .pointer (some ⟨g5, 0, none⟩)) (h6 : tmps.getD 6 undef = b) (c4 : BoxAt w g4 (paL y).toArray t) (c5 : BoxAt w g5 (paL z).toArray s) : (results fn tmps).run P w = .ok (.tuple #[paV y, paV z, b]) w := by
  subst hP
  have p4 : tmps[4]?.getD undef = .pointer (some ⟨g4, 0, none⟩) := by simpa using h4
  have p5 : tmps[5]?.getD undef = .pointer (some ⟨g5, 0, none⟩) := by simpa using h5
  have p6 : tmps[6]?.getD undef = b := by simpa using h6
  have r4 := run_loadVar_row (P := Tryz.prog) w g4 t 30 (paL y).toArray (0, 0) _ c4 Tryz.underlying30 rfl Tryz.patchSize
  have r5 := run_loadVar_row (P := Tryz.prog) w g5 s 30 (paL z).toArray (0, 0) _ c5 Tryz.underlying30 rfl Tryz.patchSize
  simp [results, h, p4, p5, p6, asAddr, r4, r5, paV, paL]
theorem swapN_none {p q : Pa} (h : rightN p = false ∨ rightN q = false ∨ p.id = q.id ∨ q.id ∈ p.deps ∨ p.id ∈ q.deps) : swapN p q = none := by
  unfold swapN
  rw [if_neg]
  rintro ⟨h1, h2, h3, h4, h5⟩
  rcases h with h | h | h | h | h
  · rw [h] at h1; cases h1
  · rw [h] at h2; cases h2
  · exact h3 h
  · exact h4 h
  · exact h5 h
theorem swapN_some {p q : Pa} (h1 : rightN p = true) (h2 : rightN q = true) (h3 : ¬ p.id = q.id) (h4 : q.id ∉ p.deps) (h5 : p.id ∉ q.deps) : swapN p q = (swapS p.l q.l).map fun s => ({ q with l := s.1 }, { p with l := s.2 }) := by
  unfold swapN
  rw [if_pos ⟨h1, h2, h3, h4, h5⟩]
theorem gives_none {w w' : World} (hl : Later w w') : GivesSw none w (.returned (.tuple #[paV zeroN, paV zeroN, .bool false])) w' :=
  ⟨zeroN, zeroN, rfl, zeroN_ok _, zeroN_ok _, zeroN_fresh _, zeroN_fresh _, hl, fun _ => ⟨rfl, rfl⟩, fun _ h => by cases h⟩

theorem zero_tail {w V : World} {g4 g5 : Nat} (h4 : BoxAt V g4 #[.int .i64 0, .string ⟨#[]⟩, .slice none 0 0, .slice none 0 0] 30) (h5 : BoxAt V g5 #[.int .i64 0, .string ⟨#[]⟩, .slice none 0 0, .slice none 0 0] 30) (hne : g4 ≠ g5) (hg4 : w.heap.size <= g4) (hg5 : w.heap.size <= g5) (hl : Later w V) : BoxAt (((((((((V.setCell ⟨g4, 0, none⟩ (.int .i64 0)).setCell ⟨g4, 1, none⟩ (.string ⟨#[]⟩)).setCell ⟨g4, 2, none⟩ (.slice none 0 0)).setCell ⟨g4, 3, none⟩ (.slice none 0 0)).setCell ⟨g5, 0, none⟩ (.int .i64 0)).setCell ⟨g5, 1, none⟩ (.string ⟨#[]⟩)).setCell ⟨g5, 2, none⟩ (.slice none 0 0)).setCell ⟨g5, 3, none⟩ (.slice none 0 0))) g4 (paL zeroN).toArray 30 /\ BoxAt (((((((((V.setCell ⟨g4, 0, none⟩ (.int .i64 0)).setCell ⟨g4, 1, none⟩ (.string ⟨#[]⟩)).setCell ⟨g4, 2, none⟩ (.slice none 0 0)).setCell ⟨g4, 3, none⟩ (.slice none 0 0)).setCell ⟨g5, 0, none⟩ (.int .i64 0)).setCell ⟨g5, 1, none⟩ (.string ⟨#[]⟩)).setCell ⟨g5, 2, none⟩ (.slice none 0 0)).setCell ⟨g5, 3, none⟩ (.slice none 0 0))) g5 (paL zeroN).toArray 30 /\ Later w (((((((((V.setCell ⟨g4, 0, none⟩ (.int .i64 0)).setCell ⟨g4, 1, none⟩ (.string ⟨#[]⟩)).setCell ⟨g4, 2, none⟩ (.slice none 0 0)).setCell ⟨g4, 3, none⟩ (.slice none 0 0)).setCell ⟨g5, 0, none⟩ (.int .i64 0)).setCell ⟨g5, 1, none⟩ (.string ⟨#[]⟩)).setCell ⟨g5, 2, none⟩ (.slice none 0 0)).setCell ⟨g5, 3, none⟩ (.slice none 0 0))) := by
  have t4 := turned_set4 V g4 (.int .i64 0) (.string ⟨#[]⟩) (.slice none 0 0) (.slice none 0 0)
  have t5 := turned_set4 (((((V.setCell ⟨g4, 0, none⟩ (.int .i64 0)).setCell ⟨g4, 1, none⟩ (.string ⟨#[]⟩)).setCell ⟨g4, 2, none⟩ (.slice none 0 0)).setCell ⟨g4, 3, none⟩ (.slice none 0 0))) g5 (.int .i64 0) (.string ⟨#[]⟩) (.slice none 0 0) (.slice none 0 0)
  exact ⟨(h4.set4 _ _ _ _).other t5 hne, (h5.other t4 (fun e => hne e.symm)).set4 _ _ _ _, (hl.turn t4 hg4).turn t5 hg5⟩

set_option maxRecDepth 100000 in
set_option maxHeartbeats 1600000 in
theorem swap7_any (p q : PaC) (w : World) (hp : PaOk w p) (hq : PaOk w q) : Calls Tryz.prog 9 #[paV p, paV q] w (GivesSw (swapN p.v q.v) w) := by
  have hlb : Later w ((((w.alloc (.cells #[.int .i64 p.v.id, .string p.v.note, .slice p.D p.nd p.cd, .slice p.L p.nl p.cl] 30)).alloc (.cells #[.int .i64 q.v.id, .string q.v.note, .slice q.D q.nd q.cd, .slice q.L q.nl q.cl] 30)).alloc (.cells #[.int .i64 0, .string ⟨#[]⟩, .slice none 0 0, .slice none 0 0] 30)).alloc (.cells #[.int .i64 0, .string ⟨#[]⟩, .slice none 0 0, .slice none 0 0] 30)) := ((((Later.refl w).alloc _).alloc _).alloc _).alloc _
  have hb2 : BoxAt ((((w.alloc (.cells #[.int .i64 p.v.id, .string p.v.note, .slice p.D p.nd p.cd, .slice p.L p.nl p.cl] 30)).alloc (.cells #[.int .i64 q.v.id, .string q.v.note, .slice q.D q.nd q.cd, .slice q.L q.nl q.cl] 30)).alloc (.cells #[.int .i64 0, .string ⟨#[]⟩, .slice none 0 0, .slice none 0 0] 30)).alloc (.cells #[.int .i64 0, .string ⟨#[]⟩, .slice none 0 0, .slice none 0 0] 30)) w.heap.size (paL p).toArray 30 := (((BoxAt.made w (paL p).toArray 30).alloc _).alloc _).alloc _
  have hb3 : BoxAt ((((w.alloc (.cells #[.int .i64 p.v.id, .string p.v.note, .slice p.D p.nd p.cd, .slice p.L p.nl p.cl] 30)).alloc (.cells #[.int .i64 q.v.id, .string q.v.note, .slice q.D q.nd q.cd, .slice q.L q.nl q.cl] 30)).alloc (.cells #[.int .i64 0, .string ⟨#[]⟩, .slice none 0 0, .slice none 0 0] 30)).alloc (.cells #[.int .i64 0, .string ⟨#[]⟩, .slice none 0 0, .slice none 0 0] 30)) (w.heap.size + 1) (paL q).toArray 30 := by
    have := BoxAt.made (w.alloc (.cells #[.int .i64 p.v.id, .string p.v.note, .slice p.D p.nd p.cd, .slice p.L p.nl p.cl] 30)) (paL q).toArray 30
    rw [World.size_alloc] at this
    exact (this.alloc _).alloc _
  have hb4 : BoxAt ((((w.alloc (.cells #[.int .i64 p.v.id, .string p.v.note, .slice p.D p.nd p.cd, .slice p.L p.nl p.cl] 30)).alloc (.cells #[.int .i64 q.v.id, .string q.v.note, .slice q.D q.nd q.cd, .slice q.L q.nl q.cl] 30)).alloc (.cells #[.int .i64 0, .string ⟨#[]⟩, .slice none 0 0, .slice none 0 0] 30)).alloc (.cells #[.int .i64 0, .string ⟨#[]⟩, .slice none 0 0, .slice none 0 0] 30)) (w.heap.size + 1 + 1) #[.int .i64 0, .string ⟨#[]⟩, .slice none 0 0, .slice none 0 0] 30 := by
    have := BoxAt.made ((w.alloc (.cells #[.int .i64 p.v.id, .string p.v.note, .slice p.D p.nd p.cd, .slice p.L p.nl p.cl] 30)).alloc (.cells #[.int .i64 q.v.id, .string q.v.note, .slice q.D q.nd q.cd, .slice q.L q.nl q.cl] 30)) #[.int .i64 0, .string ⟨#[]⟩, .slice none 0 0, .slice none 0 0] 30
    rw [World.size_alloc, World.size_alloc] at this
    exact this.alloc _
  have hb5 : BoxAt ((((w.alloc (.cells #[.int .i64 p.v.id, .string p.v.note, .slice p.D p.nd p.cd, .slice p.L p.nl p.cl] 30)).alloc (.cells #[.int .i64 q.v.id, .string q.v.note, .slice q.D q.nd q.cd, .slice q.L q.nl q.cl] 30)).alloc (.cells #[.int .i64 0, .string ⟨#[]⟩, .slice none 0 0, .slice none 0 0] 30)).alloc (.cells #[.int .i64 0, .string ⟨#[]⟩, .slice none 0 0, .slice none 0 0] 30)) (w.heap.size + 1 + 1 + 1) #[.int .i64 0, .string ⟨#[]⟩, .slice none 0 0, .slice none 0 0] 30 := by
    have := BoxAt.made (((w.alloc (.cells #[.int .i64 p.v.id, .string p.v.note, .slice p.D p.nd p.cd, .slice p.L p.nl p.cl] 30)).alloc (.cells #[.int .i64 q.v.id, .string q.v.note, .slice q.D q.nd q.cd, .slice q.L q.nl q.cl] 30)).alloc (.cells #[.int .i64 0, .string ⟨#[]⟩, .slice none 0 0, .slice none 0 0] 30)) #[.int .i64 0, .string ⟨#[]⟩, .slice none 0 0, .slice none 0 0] 30
    rw [World.size_alloc, World.size_alloc, World.size_alloc] at this
    exact this
  have HP := Lib.hid hp; have HQ := Lib.hid hq
  have HLB := Lib.hid hlb; have HB2 := Lib.hid hb2; have HB3 := Lib.hid hb3; have HB4 := Lib.hid hb4; have HB5 := Lib.hid hb5
  have HR1 := Lib.hid (right7_any p _ (hp.later hlb))
  clear hp hq hlb hb2 hb3 hb4 hb5
  unfold paV at HR1 ⊢
  go_enter Tryz.func9, Tryz.ntmps9
  go_wp2_with fail
  generalize ((((w.alloc (.cells #[.int .i64 p.v.id, .string p.v.note, .slice p.D p.nd p.cd, .slice p.L p.nl p.cl] 30)).alloc (.cells #[.int .i64 q.v.id, .string q.v.note, .slice q.D q.nd q.cd, .slice q.L q.nl q.cl] 30)).alloc (.cells #[.int .i64 0, .string ⟨#[]⟩, .slice none 0 0, .slice none 0 0] 30)).alloc (.cells #[.int .i64 0, .string ⟨#[]⟩, .slice none 0 0, .slice none 0 0] 30)) = wb at HLB HB2 HB3 HB4 HB5 HR1 ⊢
  refine HR1.out.mono ?_
  rintro e w1 ⟨rfl, hl1⟩
  replace HLB := Lib.hid (HLB.out.trans hl1); replace HB2 := Lib.hid (HB2.out.later hl1); replace HB3 := Lib.hid (HB3.out.later hl1); replace HB4 := Lib.hid (HB4.out.later hl1); replace HB5 := Lib.hid (HB5.out.later hl1)
  clear hl1 HR1 wb
  have q20 : w1.cell? ⟨w.heap.size, 0, none⟩ = some (.int .i64 p.v.id) := HB2.out.cell rfl
  have q21 : w1.cell? ⟨w.heap.size, 1, none⟩ = some (.string p.v.note) := HB2.out.cell rfl
  have q22 : w1.cell? ⟨w.heap.size, 2, none⟩ = some (.slice p.D p.nd p.cd) := HB2.out.cell rfl
  have q23 : w1.cell? ⟨w.heap.size, 3, none⟩ = some (.slice p.L p.nl p.cl) := HB2.out.cell rfl
  have q30 : w1.cell? ⟨w.heap.size + 1, 0, none⟩ = some (.int .i64 q.v.id) := HB3.out.cell rfl
  have q31 : w1.cell? ⟨w.heap.size + 1, 1, none⟩ = some (.string q.v.note) := HB3.out.cell rfl
  have q32 : w1.cell? ⟨w.heap.size + 1, 2, none⟩ = some (.slice q.D q.nd q.cd) := HB3.out.cell rfl
  have q33 : w1.cell? ⟨w.heap.size + 1, 3, none⟩ = some (.slice q.L q.nl q.cl) := HB3.out.cell rfl
  have y40 : w1.cell? ⟨w.heap.size + 1 + 1, 0, none⟩ = some (.int .i64 0) := HB4.out.cell rfl
  have z40 := HB4.out.frozen 0
  have y41 : w1.cell? ⟨w.heap.size + 1 + 1, 1, none⟩ = some (.string ⟨#[]⟩) := HB4.out.cell rfl
  have z41 := HB4.out.frozen 1
  have y42 : w1.cell? ⟨w.heap.size + 1 + 1, 2, none⟩ = some (.slice none 0 0) := HB4.out.cell rfl
  have z42 := HB4.out.frozen 2
  have y43 : w1.cell? ⟨w.heap.size + 1 + 1, 3, none⟩ = some (.slice none 0 0) := HB4.out.cell rfl
  have z43 := HB4.out.frozen 3
  have y50 : w1.cell? ⟨w.heap.size + 1 + 1 + 1, 0, none⟩ = some (.int .i64 0) := HB5.out.cell rfl
  have z50 := HB5.out.frozen 0
  have y51 : w1.cell? ⟨w.heap.size + 1 + 1 + 1, 1, none⟩ = some (.string ⟨#[]⟩) := HB5.out.cell rfl
  have z51 := HB5.out.frozen 1
  have y52 : w1.cell? ⟨w.heap.size + 1 + 1 + 1, 2, none⟩ = some (.slice none 0 0) := HB5.out.cell rfl
  have z52 := HB5.out.frozen 2
  have y53 : w1.cell? ⟨w.heap.size + 1 + 1 + 1, 3, none⟩ = some (.slice none 0 0) := HB5.out.cell rfl
  have z53 := HB5.out.frozen 3
  cases hr1 : rightN p.v with
  | false =>
    have HEQ := Lib.hid (swapN_none (p := p.v) (q := q.v) (.inl hr1))
    go_wp2
    obtain ⟨n4, n5, nl⟩ := zero_tail HB4.out HB5.out (by omega) (by omega) (by omega) HLB.out
    refine bodyPost_ret (results_two4 rfl rfl _ _ (w.heap.size + 1 + 1) (w.heap.size + 1 + 1 + 1) zeroN zeroN _ rfl rfl rfl n4 n5) rfl ?_
    rw [HEQ.out]
    exact gives_none nl
  | true =>
    have HR2 := Lib.hid (right7_any q w1 (HQ.out.later HLB.out))
    unfold paV at HR2
    go_wp2_with fail
    refine HR2.out.mono ?_
    rintro e w2 ⟨rfl, hl2⟩
    replace HLB := Lib.hid (HLB.out.trans hl2); replace HB2 := Lib.hid (HB2.out.later hl2); replace HB3 := Lib.hid (HB3.out.later hl2); replace HB4 := Lib.hid (HB4.out.later hl2); replace HB5 := Lib.hid (HB5.out.later hl2)
    clear hl2 HR2 q20 q21 q22 q23 q30 q31 q32 q33 y40 y41 y42 y43 y50 y51 y52 y53 z40 z41 z42 z43 z50 z51 z52 z53 w1
    have q20 : w2.cell? ⟨w.heap.size, 0, none⟩ = some (.int .i64 p.v.id) := HB2.out.cell rfl
    have q21 : w2.cell? ⟨w.heap.size, 1, none⟩ = some (.string p.v.note) := HB2.out.cell rfl
    have q22 : w2.cell? ⟨w.heap.size, 2, none⟩ = some (.slice p.D p.nd p.cd) := HB2.out.cell rfl
    have q23 : w2.cell? ⟨w.heap.size, 3, none⟩ = some (.slice p.L p.nl p.cl) := HB2.out.cell rfl
    have q30 : w2.cell? ⟨w.heap.size + 1, 0, none⟩ = some (.int .i64 q.v.id) := HB3.out.cell rfl
    have q31 : w2.cell? ⟨w.heap.size + 1, 1, none⟩ = some (.string q.v.note) := HB3.out.cell rfl
    have q32 : w2.cell? ⟨w.heap.size + 1, 2, none⟩ = some (.slice q.D q.nd q.cd) := HB3.out.cell rfl
    have q33 : w2.cell? ⟨w.heap.size + 1, 3, none⟩ = some (.slice q.L q.nl q.cl) := HB3.out.cell rfl
    have y40 : w2.cell? ⟨w.heap.size + 1 + 1, 0, none⟩ = some (.int .i64 0) := HB4.out.cell rfl
    have z40 := HB4.out.frozen 0
    have y41 : w2.cell? ⟨w.heap.size + 1 + 1, 1, none⟩ = some (.string ⟨#[]⟩) := HB4.out.cell rfl
    have z41 := HB4.out.frozen 1
    have y42 : w2.cell? ⟨w.heap.size + 1 + 1, 2, none⟩ = some (.slice none 0 0) := HB4.out.cell rfl
    have z42 := HB4.out.frozen 2
    have y43 : w2.cell? ⟨w.heap.size + 1 + 1, 3, none⟩ = some (.slice none 0 0) := HB4.out.cell rfl
    have z43 := HB4.out.frozen 3
    have y50 : w2.cell? ⟨w.heap.size + 1 + 1 + 1, 0, none⟩ = some (.int .i64 0) := HB5.out.cell rfl
    have z50 := HB5.out.frozen 0
    have y51 : w2.cell? ⟨w.heap.size + 1 + 1 + 1, 1, none⟩ = some (.string ⟨#[]⟩) := HB5.out.cell rfl
    have z51 := HB5.out.frozen 1
    have y52 : w2.cell? ⟨w.heap.size + 1 + 1 + 1, 2, none⟩ = some (.slice none 0 0) := HB5.out.cell rfl
    have z52 := HB5.out.frozen 2
    have y53 : w2.cell? ⟨w.heap.size + 1 + 1 + 1, 3, none⟩ = some (.slice none 0 0) := HB5.out.cell rfl
    have z53 := HB5.out.frozen 3
    cases hr2 : rightN q.v with
    | false =>
      have HEQ := Lib.hid (swapN_none (p := p.v) (q := q.v) (.inr (.inl hr2)))
      go_wp2
      obtain ⟨n4, n5, nl⟩ := zero_tail HB4.out HB5.out (by omega) (by omega) (by omega) HLB.out
      refine bodyPost_ret (results_two4 rfl rfl _ _ (w.heap.size + 1 + 1) (w.heap.size + 1 + 1 + 1) zeroN zeroN _ rfl rfl rfl n4 n5) rfl ?_
      rw [HEQ.out]
      exact gives_none nl
    | true =>
      by_cases h3 : p.v.id = q.v.id
      ·
        have HEQ := Lib.hid (swapN_none (p := p.v) (q := q.v) (.inr (.inr (.inl h3))))
        go_wp2
        obtain ⟨n4, n5, nl⟩ := zero_tail HB4.out HB5.out (by omega) (by omega) (by omega) HLB.out
        refine bodyPost_ret (results_two4 rfl rfl _ _ (w.heap.size + 1 + 1) (w.heap.size + 1 + 1 + 1) zeroN zeroN _ rfl rfl rfl n4 n5) rfl ?_
        rw [HEQ.out]
        exact gives_none nl
      · have HD1 := Lib.hid (dependsOn_any p q w2 (HP.out.later HLB.out))
        unfold paV at HD1
        go_wp2_with fail
        refine HD1.out.mono ?_
        rintro e w3 ⟨rfl, hl3⟩
        replace HLB := Lib.hid (HLB.out.trans hl3); replace HB2 := Lib.hid (HB2.out.later hl3); replace HB3 := Lib.hid (HB3.out.later hl3); replace HB4 := Lib.hid (HB4.out.later hl3); replace HB5 := Lib.hid (HB5.out.later hl3)
        clear hl3 HD1 q20 q21 q22 q23 q30 q31 q32 q33 y40 y41 y42 y43 y50 y51 y52 y53 z40 z41 z42 z43 z50 z51 z52 z53 w2
        have q20 : w3.cell? ⟨w.heap.size, 0, none⟩ = some (.int .i64 p.v.id) := HB2.out.cell rfl
        have q21 : w3.cell? ⟨w.heap.size, 1, none⟩ = some (.string p.v.note) := HB2.out.cell rfl
        have q22 : w3.cell? ⟨w.heap.size, 2, none⟩ = some (.slice p.D p.nd p.cd) := HB2.out.cell rfl
        have q23 : w3.cell? ⟨w.heap.size, 3, none⟩ = some (.slice p.L p.nl p.cl) := HB2.out.cell rfl
        have q30 : w3.cell? ⟨w.heap.size + 1, 0, none⟩ = some (.int .i64 q.v.id) := HB3.out.cell rfl
        have q31 : w3.cell? ⟨w.heap.size + 1, 1, none⟩ = some (.string q.v.note) := HB3.out.cell rfl
        have q32 : w3.cell? ⟨w.heap.size + 1, 2, none⟩ = some (.slice q.D q.nd q.cd) := HB3.out.cell rfl
        have q33 : w3.cell? ⟨w.heap.size + 1, 3, none⟩ = some (.slice q.L q.nl q.cl) := HB3.out.cell rfl
        have y40 : w3.cell? ⟨w.heap.size + 1 + 1, 0, none⟩ = some (.int .i64 0) := HB4.out.cell rfl
        have z40 := HB4.out.frozen 0
        have y41 : w3.cell? ⟨w.heap.size + 1 + 1, 1, none⟩ = some (.string ⟨#[]⟩) := HB4.out.cell rfl
        have z41 := HB4.out.frozen 1
        have y42 : w3.cell? ⟨w.heap.size + 1 + 1, 2, none⟩ = some (.slice none 0 0) := HB4.out.cell rfl
        have z42 := HB4.out.frozen 2
        have y43 : w3.cell? ⟨w.heap.size + 1 + 1, 3, none⟩ = some (.slice none 0 0) := HB4.out.cell rfl
        have z43 := HB4.out.frozen 3
        have y50 : w3.cell? ⟨w.heap.size + 1 + 1 + 1, 0, none⟩ = some (.int .i64 0) := HB5.out.cell rfl
        have z50 := HB5.out.frozen 0
        have y51 : w3.cell? ⟨w.heap.size + 1 + 1 + 1, 1, none⟩ = some (.string ⟨#[]⟩) := HB5.out.cell rfl
        have z51 := HB5.out.frozen 1
        have y52 : w3.cell? ⟨w.heap.size + 1 + 1 + 1, 2, none⟩ = some (.slice none 0 0) := HB5.out.cell rfl
        have z52 := HB5.out.frozen 2
        have y53 : w3.cell? ⟨w.heap.size + 1 + 1 + 1, 3, none⟩ = some (.slice none 0 0) := HB5.out.cell rfl
        have z53 := HB5.out.frozen 3
        by_cases h4 : q.v.id ∈ p.v.deps
        · rw [decide_eq_true h4]
          have HEQ := Lib.hid (swapN_none (p := p.v) (q := q.v) (.inr (.inr (.inr (.inl h4)))))
          go_wp2
          obtain ⟨n4, n5, nl⟩ := zero_tail HB4.out HB5.out (by omega) (by omega) (by omega) HLB.out
          refine bodyPost_ret (results_two4 rfl rfl _ _ (w.heap.size + 1 + 1) (w.heap.size + 1 + 1 + 1) zeroN zeroN _ rfl rfl rfl n4 n5) rfl ?_
          rw [HEQ.out]
          exact gives_none nl
        · rw [decide_eq_false h4]
          have HD2 := Lib.hid (dependsOn_any q p w3 (HQ.out.later HLB.out))
          unfold paV at HD2
          go_wp2_with fail
          refine HD2.out.mono ?_
          rintro e w4 ⟨rfl, hl4⟩
          replace HLB := Lib.hid (HLB.out.trans hl4); replace HB2 := Lib.hid (HB2.out.later hl4); replace HB3 := Lib.hid (HB3.out.later hl4); replace HB4 := Lib.hid (HB4.out.later hl4); replace HB5 := Lib.hid (HB5.out.later hl4)
          clear hl4 HD2 q20 q21 q22 q23 q30 q31 q32 q33 y40 y41 y42 y43 y50 y51 y52 y53 z40 z41 z42 z43 z50 z51 z52 z53 w3
          have q20 : w4.cell? ⟨w.heap.size, 0, none⟩ = some (.int .i64 p.v.id) := HB2.out.cell rfl
          have q21 : w4.cell? ⟨w.heap.size, 1, none⟩ = some (.string p.v.note) := HB2.out.cell rfl
          have q22 : w4.cell? ⟨w.heap.size, 2, none⟩ = some (.slice p.D p.nd p.cd) := HB2.out.cell rfl
          have q23 : w4.cell? ⟨w.heap.size, 3, none⟩ = some (.slice p.L p.nl p.cl) := HB2.out.cell rfl
          have q30 : w4.cell? ⟨w.heap.size + 1, 0, none⟩ = some (.int .i64 q.v.id) := HB3.out.cell rfl
          have q31 : w4.cell? ⟨w.heap.size + 1, 1, none⟩ = some (.string q.v.note) := HB3.out.cell rfl
          have q32 : w4.cell? ⟨w.heap.size + 1, 2, none⟩ = some (.slice q.D q.nd q.cd) := HB3.out.cell rfl
          have q33 : w4.cell? ⟨w.heap.size + 1, 3, none⟩ = some (.slice q.L q.nl q.cl) := HB3.out.cell rfl
          have y40 : w4.cell? ⟨w.heap.size + 1 + 1, 0, none⟩ = some (.int .i64 0) := HB4.out.cell rfl
          have z40 := HB4.out.frozen 0
          have y41 : w4.cell? ⟨w.heap.size + 1 + 1, 1, none⟩ = some (.string ⟨#[]⟩) := HB4.out.cell rfl
          have z41 := HB4.out.frozen 1
          have y42 : w4.cell? ⟨w.heap.size + 1 + 1, 2, none⟩ = some (.slice none 0 0) := HB4.out.cell rfl
          have z42 := HB4.out.frozen 2
          have y43 : w4.cell? ⟨w.heap.size + 1 + 1, 3, none⟩ = some (.slice none 0 0) := HB4.out.cell rfl
          have z43 := HB4.out.frozen 3
          have y50 : w4.cell? ⟨w.heap.size + 1 + 1 + 1, 0, none⟩ = some (.int .i64 0) := HB5.out.cell rfl
          have z50 := HB5.out.frozen 0
          have y51 : w4.cell? ⟨w.heap.size + 1 + 1 + 1, 1, none⟩ = some (.string ⟨#[]⟩) := HB5.out.cell rfl
          have z51 := HB5.out.frozen 1
          have y52 : w4.cell? ⟨w.heap.size + 1 + 1 + 1, 2, none⟩ = some (.slice none 0 0) := HB5.out.cell rfl
          have z52 := HB5.out.frozen 2
          have y53 : w4.cell? ⟨w.heap.size + 1 + 1 + 1, 3, none⟩ = some (.slice none 0 0) := HB5.out.cell rfl
          have z53 := HB5.out.frozen 3
          by_cases h5 : p.v.id ∈ q.v.deps
          · rw [decide_eq_true h5]
            have HEQ := Lib.hid (swapN_none (p := p.v) (q := q.v) (.inr (.inr (.inr (.inr h5)))))
            go_wp2
            obtain ⟨n4, n5, nl⟩ := zero_tail HB4.out HB5.out (by omega) (by omega) (by omega) HLB.out
            refine bodyPost_ret (results_two4 rfl rfl _ _ (w.heap.size + 1 + 1) (w.heap.size + 1 + 1 + 1) zeroN zeroN _ rfl rfl rfl n4 n5) rfl ?_
            rw [HEQ.out]
            exact gives_none nl
          · rw [decide_eq_false h5]
            have HSW := Lib.hid (seqSwap_any p.L q.L p.nl p.cl q.nl q.cl p.xs q.xs w4 (HP.out.row.later HLB.out) (HQ.out.row.later HLB.out) (by have := HP.out.lmost; omega) (by have := HQ.out.lmost; omega))
            rw [HP.out.is, HQ.out.is] at HSW
            have HEQ := Lib.hid (swapN_some hr1 hr2 h3 h4 h5)
            have hsz : w.heap.size + 4 <= w4.heap.size := by have := HB5.out.lt; omega
            go_wp2_with fail
            refine HSW.out.mono ?_
            rintro e w5 ⟨hl5, hr5⟩
            replace HB2 := Lib.hid (HB2.out.later hl5); replace HB3 := Lib.hid (HB3.out.later hl5); replace HB4 := Lib.hid (HB4.out.later hl5); replace HB5 := Lib.hid (HB5.out.later hl5)
            have HL5 := Lib.hid hl5
            clear HSW hl5 q20 q21 q22 q23 q30 q31 q32 q33 y40 y41 y42 y43 y50 y51 y52 y53 z40 z41 z42 z43 z50 z51 z52 z53
            cases hs : swapS p.v.l q.v.l with
            | none =>
              rw [hs] at hr5
              subst hr5
              rw [hs] at HEQ
              replace HLB := Lib.hid (HLB.out.trans HL5.out)
              have q20 : w5.cell? ⟨w.heap.size, 0, none⟩ = some (.int .i64 p.v.id) := HB2.out.cell rfl
              have q21 : w5.cell? ⟨w.heap.size, 1, none⟩ = some (.string p.v.note) := HB2.out.cell rfl
              have q22 : w5.cell? ⟨w.heap.size, 2, none⟩ = some (.slice p.D p.nd p.cd) := HB2.out.cell rfl
              have q23 : w5.cell? ⟨w.heap.size, 3, none⟩ = some (.slice p.L p.nl p.cl) := HB2.out.cell rfl
              have q30 : w5.cell? ⟨w.heap.size + 1, 0, none⟩ = some (.int .i64 q.v.id) := HB3.out.cell rfl
              have q31 : w5.cell? ⟨w.heap.size + 1, 1, none⟩ = some (.string q.v.note) := HB3.out.cell rfl
              have q32 : w5.cell? ⟨w.heap.size + 1, 2, none⟩ = some (.slice q.D q.nd q.cd) := HB3.out.cell rfl
              have q33 : w5.cell? ⟨w.heap.size + 1, 3, none⟩ = some (.slice q.L q.nl q.cl) := HB3.out.cell rfl
              have y40 : w5.cell? ⟨w.heap.size + 1 + 1, 0, none⟩ = some (.int .i64 0) := HB4.out.cell rfl
              have z40 := HB4.out.frozen 0
              have y41 : w5.cell? ⟨w.heap.size + 1 + 1, 1, none⟩ = some (.string ⟨#[]⟩) := HB4.out.cell rfl
              have z41 := HB4.out.frozen 1
              have y42 : w5.cell? ⟨w.heap.size + 1 + 1, 2, none⟩ = some (.slice none 0 0) := HB4.out.cell rfl
              have z42 := HB4.out.frozen 2
              have y43 : w5.cell? ⟨w.heap.size + 1 + 1, 3, none⟩ = some (.slice none 0 0) := HB4.out.cell rfl
              have z43 := HB4.out.frozen 3
              have y50 : w5.cell? ⟨w.heap.size + 1 + 1 + 1, 0, none⟩ = some (.int .i64 0) := HB5.out.cell rfl
              have z50 := HB5.out.frozen 0
              have y51 : w5.cell? ⟨w.heap.size + 1 + 1 + 1, 1, none⟩ = some (.string ⟨#[]⟩) := HB5.out.cell rfl
              have z51 := HB5.out.frozen 1
              have y52 : w5.cell? ⟨w.heap.size + 1 + 1 + 1, 2, none⟩ = some (.slice none 0 0) := HB5.out.cell rfl
              have z52 := HB5.out.frozen 2
              have y53 : w5.cell? ⟨w.heap.size + 1 + 1 + 1, 3, none⟩ = some (.slice none 0 0) := HB5.out.cell rfl
              have z53 := HB5.out.frozen 3
              go_wp2
              obtain ⟨n4, n5, nl⟩ := zero_tail HB4.out HB5.out (by omega) (by omega) (by omega) HLB.out
              refine bodyPost_ret (results_two4 rfl rfl _ _ (w.heap.size + 1 + 1) (w.heap.size + 1 + 1 + 1) zeroN zeroN _ rfl rfl rfl n4 n5) rfl ?_
              rw [HEQ.out]
              exact gives_none nl
            | some r =>
              rw [hs] at hr5 HEQ
              obtain ⟨v, u, ys, zs, rfl, oy, oz, ey, ez, fy, fz, -⟩ := hr5
              obtain ⟨A1, c1, hv1, -, -⟩ := oy.row
              obtain ⟨A2, c2, hv2, -, -⟩ := oz.row
              subst hv1 hv2
              have hln := swapS_length hs
              have hy0 : ys.length <= 30000 := by rw [← valsP_length, ey, hln.1, ← HQ.out.is, valsP_length, HQ.out.row.len]; exact HQ.out.lmost
              have hz0 : zs.length <= 30000 := by rw [← valsP_length, ez, hln.2, ← HP.out.is, valsP_length, HP.out.row.len]; exact HP.out.lmost
              have HY := Lib.hid oy; have HZ := Lib.hid oz; have HEY := Lib.hid ey; have HEZ := Lib.hid ez; have HFY := Lib.hid fy; have HFZ := Lib.hid fz
              clear oy oz ey ez fy fz hln
              generalize ys.length = ny at *
              generalize zs.length = nz at *
              go_upto_region 6 with fail
              refine swn_region rfl (by kernel_rfl) ⟨_, rfl, rfl, rfl, rfl, by kernel_rfl⟩ ⟨_, rfl, rfl, rfl, rfl, by kernel_rfl⟩ ⟨_, rfl, rfl, rfl, rfl, by kernel_rfl⟩ ⟨_, rfl, rfl, rfl, rfl, by kernel_rfl⟩ ⟨_, rfl, rfl, rfl, rfl, by kernel_rfl⟩ ⟨_, rfl, rfl, rfl, rfl, by kernel_rfl⟩ ⟨_, rfl, rfl, rfl, rfl, by kernel_rfl⟩ ⟨_, rfl, rfl, rfl, rfl, by kernel_rfl⟩ ⟨_, rfl, rfl, rfl, rfl, by kernel_rfl⟩ (of_decide_eq_true rfl) (p := p) (q := q) (A := A1) (B := A2) rfl rfl rfl rfl rfl rfl HL5.out (HP.out.later HLB.out) (HQ.out.later HLB.out) rfl rfl HY.out HZ.out hy0 hz0 HFY.out HFZ.out HB2.out HB3.out HB4.out HB5.out rfl rfl (by omega) (by omega) (by omega) (fun D a V so e6 st => ?_)
              obtain ⟨⟨V1, V2, s1, s2, s3⟩, sb4, sb5, ty, tz⟩ := st
              have hgl : Later w V := (((HLB.out.trans HL5.out).trans s1).turn s2 (by omega)).turn s3 (by omega)
              have ha := so.is
              simp only [List.foldl_cons, List.foldl_nil] at ha
              generalize a.eval (.tmp 49) = v49 at ha
              generalize a.eval (.tmp 50) = v50 at ha
              generalize a.eval (.tmp 51) = v51 at ha
              generalize a.eval (.tmp 52) = v52 at ha
              generalize a.eval (.tmp 53) = v53 at ha
              generalize a.eval (.tmp 54) = v54 at ha
              generalize a.eval (.tmp 6) = v6 at ha e6
              clear so
              subst ha
              simp only [Act.put, List.setIfInBounds_toArray, List.set_cons_zero, List.set_cons_succ]
              subst e6
              have SB4 := Lib.hid sb4; have SB5 := Lib.hid sb5; have TY := Lib.hid ty; have TZ := Lib.hid tz; have HGL := Lib.hid hgl
              clear sb4 sb5 ty tz hgl s1 s2 s3
              go_wp2
              refine bodyPost_ret (results_two4 rfl rfl _ _ (w.heap.size + 1 + 1) (w.heap.size + 1 + 1 + 1) D.y D.z _ rfl rfl rfl SB4.out SB5.out) rfl ?_
              rw [HEQ.out]
              refine ⟨D.y, D.z, rfl, TY.out.1, TZ.out.1, TY.out.2.1.base HLB.out, TZ.out.2.1.base HLB.out, HGL.out, (fun h => by cases h), fun c hc => ?_⟩
              cases hc
              exact ⟨by rw [TY.out.2.2, HEY.out], by rw [TZ.out.2.2, HEZ.out]⟩

set_option maxRecDepth 100000 in
set_option maxHeartbeats 400000 in
theorem needs7_any (p q : PaC) (w : World) (hp : PaOk w p) (hq : PaOk w q) : Calls Tryz.prog 14 #[paV p, paV q] w (Says (swapN p.v q.v).isNone w) := by
  have hlb : Later w ((w.alloc (.cells #[.int .i64 p.v.id, .string p.v.note, .slice p.D p.nd p.cd, .slice p.L p.nl p.cl] 30)).alloc (.cells #[.int .i64 q.v.id, .string q.v.note, .slice q.D q.nd q.cd, .slice q.L q.nl q.cl] 30)) := ((Later.refl w).alloc _).alloc _
  have HS := Lib.hid (swap7_any p q _ (hp.later hlb) (hq.later hlb))
  have HLB := Lib.hid hlb
  clear hp hq hlb
  unfold paV at HS ⊢
  generalize swapN p.v q.v = r at HS ⊢
  go_enter Tryz.func14, Tryz.ntmps14
  go_wp2_with fail
  refine HS.out.mono ?_
  rintro e w1 ⟨y, z, rfl, oy, oz, -, -, hl1, -, -⟩
  have HL := Lib.hid (HLB.out.trans hl1)
  clear oy oz hl1 HS HLB
  unfold paV
  cases r with
  | none =>
    go_wp2
    go_ret
    exact ⟨rfl, HL.out.trans (((Later.refl _).alloc _).alloc _)⟩
  | some r =>
    go_wp2
    go_ret
    exact ⟨rfl, HL.out.trans (((Later.refl _).alloc _).alloc _)⟩

end Go.Proofs.YtlnjhimbgckdcaaGreat

/-
  What stands while a statement tells two patches into two new boxes, in whatever order; operations of such statements.
-/
namespace Go.Proofs.YtlnjhimbgckdcaaGreat
open Go.RowKit Go.Maps

def zeroNL : Array Value := #[.int .i64 0, .string ⟨#[]⟩, .slice none 0 0, .slice none 0 0]
structure TwD where
  y : PaC
  z : PaC
  t : Bool
  g8 : Nat
  g9 : Nat
structure TwS (T : TypeId) (wx : World) (r : Option (Pa × Pa)) (M : PaC -> PaC -> Prop) (b b' : Bool) (s : Nat) (D : TwD) (V : World) : Prop where
  later : Later wx V
  sw : 1 <= s -> PaOk V D.y /\ PaOk V D.z /\ D.t = r.isSome /\ (r = none -> D.y = zeroN /\ D.z = zeroN) /\ ∀ c, r = some c -> D.y.v = c.1 /\ D.z.v = c.2
  b8 : b = true -> wx.heap.size <= D.g8 /\ ∃ cs, cs.size = 4 /\ BoxAt V D.g8 cs T /\ (2 <= s -> cs = (paL D.y).toArray)
  b9 : b' = true -> wx.heap.size <= D.g9 /\ ∃ cs, cs.size = 4 /\ BoxAt V D.g9 cs T /\ (3 <= s -> cs = (paL D.z).toArray)
  ne : b = true -> b' = true -> D.g8 ≠ D.g9
  a8 : 1 <= s -> b = true -> AwayN D.g8 D.y /\ AwayN D.g8 D.z
  a9 : 1 <= s -> b' = true -> AwayN D.g9 D.y /\ AwayN D.g9 D.z
  m : 1 <= s -> M D.y D.z
section
variable {T : TypeId} {wx V V' : World} {r : Option (Pa × Pa)} {M : PaC -> PaC -> Prop} {b b' : Bool} {s : Nat} {D : TwD}
theorem TwS.start : TwS T wx r M false false 0 ⟨zeroN, zeroN, false, 0, 0⟩ { wx with drawn := wx.drawn + 1 } :=
  ⟨(Later.refl wx).drew, (fun e => by omega), (fun e => by cases e), (fun e => by cases e), (fun e => by cases e), (fun e => by omega), (fun e => by omega), (fun e => by omega)⟩
theorem TwS.on (h : TwS T wx r M b b' 0 D V) (hl : Later V V') : TwS T wx r M b b' 0 D V' :=
  ⟨h.later.trans hl, (fun e => by omega), (fun e => by obtain ⟨q1, cs, q2, q3, q4⟩ := h.b8 e; exact ⟨q1, cs, q2, q3.later hl, q4⟩), (fun e => by obtain ⟨q1, cs, q2, q3, q4⟩ := h.b9 e; exact ⟨q1, cs, q2, q3.later hl, q4⟩), h.ne, (fun e => by omega), (fun e => by omega), (fun e => by omega)⟩
theorem TwS.swap (h : TwS T wx r M b b' 0 D V) (hl : Later V V') {y z : PaC} (h1 : PaOk V' y) (h2 : PaOk V' z) (h3 : r = none -> y = zeroN /\ z = zeroN) (h4 : ∀ c, r = some c -> y.v = c.1 /\ z.v = c.2) (h5 : ∀ k, wx.heap.size <= k -> k < V.heap.size -> AwayN k y /\ AwayN k z) (h6 : M y z) : TwS T wx r M b b' 1 { D with y := y, z := z, t := r.isSome } V' :=
  ⟨h.later.trans hl, fun _ => ⟨h1, h2, rfl, h3, h4⟩, (fun e => by obtain ⟨q1, cs, q2, q3, _⟩ := h.b8 e; exact ⟨q1, cs, q2, q3.later hl, fun e => by omega⟩), (fun e => by obtain ⟨q1, cs, q2, q3, _⟩ := h.b9 e; exact ⟨q1, cs, q2, q3.later hl, fun e => by omega⟩), h.ne, (fun _ e => by obtain ⟨q1, cs, q2, q3, _⟩ := h.b8 e; exact h5 _ q1 q3.lt), (fun _ e => by obtain ⟨q1, cs, q2, q3, _⟩ := h.b9 e; exact h5 _ q1 q3.lt), (fun _ => h6)⟩
theorem TwS.alloc8 (h : TwS T wx r M false b' s D V) (hs : s <= 1) : TwS T wx r M true b' s { D with g8 := V.heap.size } (V.alloc (.cells zeroNL T)) :=
  ⟨h.later.alloc _, fun e => ⟨(h.sw e).1.later4 _, (h.sw e).2.1.later4 _, (h.sw e).2.2⟩, (fun _ => ⟨h.later.le, zeroNL, rfl, BoxAt.made V zeroNL T, fun e => by omega⟩), (fun e => by obtain ⟨q1, cs, q2, q3, q4⟩ := h.b9 e; exact ⟨q1, cs, q2, q3.alloc _, q4⟩), (fun _ e => by obtain ⟨_, _, _, q3, _⟩ := h.b9 e; have := q3.lt; show V.heap.size ≠ D.g9; omega), (fun e _ => ⟨(h.sw e).1.away (Nat.le_refl _), (h.sw e).2.1.away (Nat.le_refl _)⟩), h.a9, h.m⟩
theorem TwS.alloc9 (h : TwS T wx r M b false s D V) (hs : s <= 1) : TwS T wx r M b true s { D with g9 := V.heap.size } (V.alloc (.cells zeroNL T)) :=
  ⟨h.later.alloc _, fun e => ⟨(h.sw e).1.later4 _, (h.sw e).2.1.later4 _, (h.sw e).2.2⟩, (fun e => by obtain ⟨q1, cs, q2, q3, q4⟩ := h.b8 e; exact ⟨q1, cs, q2, q3.alloc _, q4⟩), (fun _ => ⟨h.later.le, zeroNL, rfl, BoxAt.made V zeroNL T, fun e => by omega⟩), (fun e _ => by obtain ⟨_, _, _, q3, _⟩ := h.b8 e; have := q3.lt; show D.g8 ≠ V.heap.size; omega), h.a8, (fun e _ => ⟨(h.sw e).1.away (Nat.le_refl _), (h.sw e).2.1.away (Nat.le_refl _)⟩), h.m⟩
theorem TwS.st8 (h : TwS T wx r M true true 1 D V) (hb : BoxAt V' D.g8 (paL D.y).toArray T) (ht : Turned D.g8 V V') : TwS T wx r M true true 2 D V' :=
  ⟨h.later.turn ht (h.b8 rfl).1, fun _ => ⟨(h.sw (Nat.le_refl _)).1.off ht (h.a8 (Nat.le_refl _) rfl).1, (h.sw (Nat.le_refl _)).2.1.off ht (h.a8 (Nat.le_refl _) rfl).2, (h.sw (Nat.le_refl _)).2.2⟩, (fun _ => ⟨(h.b8 rfl).1, _, rfl, hb, fun _ => rfl⟩), (fun _ => by obtain ⟨q1, cs, q2, q3, q4⟩ := h.b9 rfl; exact ⟨q1, cs, q2, q3.other ht (Ne.symm (h.ne rfl rfl)), fun e => by omega⟩), h.ne, (fun _ => h.a8 (Nat.le_refl _)), (fun _ => h.a9 (Nat.le_refl _)), (fun _ => h.m (Nat.le_refl _))⟩
theorem TwS.st9 (h : TwS T wx r M true true 2 D V) (hb : BoxAt V' D.g9 (paL D.z).toArray T) (ht : Turned D.g9 V V') : TwS T wx r M true true 3 D V' :=
  ⟨h.later.turn ht (h.b9 rfl).1, fun _ => ⟨(h.sw (by omega)).1.off ht (h.a9 (by omega) rfl).1, (h.sw (by omega)).2.1.off ht (h.a9 (by omega) rfl).2, (h.sw (by omega)).2.2⟩, (fun _ => by obtain ⟨q1, cs, q2, q3, q4⟩ := h.b8 rfl; exact ⟨q1, cs, q2, q3.other ht (h.ne rfl rfl), fun _ => q4 (Nat.le_refl _)⟩), (fun _ => ⟨(h.b9 rfl).1, _, rfl, hb, fun _ => rfl⟩), h.ne, (fun _ => h.a8 (by omega)), (fun _ => h.a9 (by omega)), (fun _ => h.m (by omega))⟩
theorem TwS.boxes (h : TwS T wx r M true true 3 D V) : BoxAt V D.g8 (paL D.y).toArray T /\ BoxAt V D.g9 (paL D.z).toArray T := by
  obtain ⟨_, cs, _, h1, h2⟩ := h.b8 rfl
  obtain ⟨_, ds, _, k1, k2⟩ := h.b9 rfl
  rw [h2 (by omega)] at h1
  rw [k2 (by omega)] at k1
  exact ⟨h1, k1⟩
end
section
variable {ops : Array Oper} {Q : Exit -> Act -> World -> Prop} {K : Act -> World -> Prop} {i : Nat} {dst : Option Tmp} {js : List Nat} {a : Act} {w w0 : World}
theorem OpIs.allocN (h : OpIs ops i (.alloc 30) dst js) (hk : K (a.put dst (.pointer (some ⟨w.heap.size, 0, none⟩))) (w.alloc (.cells zeroNL 30))) : wpOp Tryz.prog ops Q i K a w :=
  h.go fun o h1 h2 => by
    have hr : (execOp a.eval o).run Tryz.prog w = .ok (.value (.pointer (some ⟨w.heap.size, 0, none⟩))) (w.alloc (.cells zeroNL 30)) := by
      unfold execOp
      rw [h1]
      go_simp
      rfl
    unfold Oper.wp
    rw [hr]
    show K _ _
    rw [h2]
    exact hk
theorem OpIs.allocRN (h : OpIs ops i (.alloc 25) dst js) (hk : K (a.put dst (.pointer (some ⟨w.heap.size, 0, none⟩))) (w.alloc (.cells zeroNL 25))) : wpOp Tryz.prog ops Q i K a w :=
  h.go fun o h1 h2 => by
    have hr : (execOp a.eval o).run Tryz.prog w = .ok (.value (.pointer (some ⟨w.heap.size, 0, none⟩))) (w.alloc (.cells zeroNL 25)) := by
      unfold execOp
      rw [h1]
      go_simp
      rfl
    unfold Oper.wp
    rw [hr]
    show K _ _
    rw [h2]
    exact hk
theorem OpIs.indexNC {j : Tmp} {z : Int} {g o n c m : Nat} (h : OpIs ops i (.indexAddr 40 (.tmp j) (.const (.int .i64 z))) dst js) (hz : z = (m : Nat)) (hj : a.eval (.tmp j) = .slice (some ⟨g, o, none⟩) n c) (hm : m < n) (hk : K (a.put dst (.pointer (some ⟨g, o + m * 4, none⟩))) w) : wpOp Tryz.prog ops Q i K a w :=
  h.go fun op h1 h2 => by
    subst hz
    have hr : (execOp a.eval op).run Tryz.prog w = .ok (.value (.pointer (some ⟨g, o + m * 4, none⟩))) w := by
      unfold execOp
      rw [h1]
      dsimp only
      rw [hj]
      go_simp
    unfold Oper.wp
    rw [hr]
    show K _ _
    rw [h2]
    exact hk
theorem OpIs.indexRN {j k : Tmp} {g o n c m : Nat} (h : OpIs ops i (.indexAddr 39 (.tmp j) (.tmp k)) dst js) (hj : a.eval (.tmp j) = .slice (some ⟨g, o, none⟩) n c) (hk' : a.eval (.tmp k) = .int .i64 (m : Nat)) (hm : m < n) (hk : K (a.put dst (.pointer (some ⟨g, o + m * 4, none⟩))) w) : wpOp Tryz.prog ops Q i K a w :=
  h.go fun op h1 h2 => by
    have hr : (execOp a.eval op).run Tryz.prog w = .ok (.value (.pointer (some ⟨g, o + m * 4, none⟩))) w := by
      unfold execOp
      rw [h1]
      dsimp only
      rw [hj, hk']
      go_simp
    unfold Oper.wp
    rw [hr]
    show K _ _
    rw [h2]
    exact hk
theorem OpIs.loadNs {k : Tmp} {g o m n : Nat} {x : PaC} {xs : List PaC} (h : OpIs ops i (.load 30 (.tmp k)) dst js) (he : a.eval (.tmp k) = .pointer (some ⟨g, o + m * 4, none⟩)) (hr : RowK 4 w (some ⟨g, o, none⟩) n (xs.map paL)) (hx : xs[m]? = some x) (hk : K (a.put dst (paV x)) w) : wpOp Tryz.prog ops Q i K a w :=
  h.go fun op h1 h2 => by
    have hm : m < n := by
      have := hr.len
      simp only [List.length_map] at this
      have := (List.getElem?_eq_some_iff.1 hx).1
      omega
    obtain ⟨b', o', q, hA, hz, g0, g1, g2, g3⟩ := hr.getN hm
    cases hA
    rw [hx] at hz
    cases hz
    have hrun : (execOp a.eval op).run Tryz.prog w = .ok (.value (paV x)) w := by
      clear hr hk hx
      unfold paV execOp
      rw [h1]
      dsimp only
      rw [he]
      go_simp
    unfold Oper.wp
    rw [hrun]
    show K _ _
    rw [h2]
    exact hk
theorem OpIs.loadRNs {k : Tmp} {g o m n : Nat} {x : PaC} {xs : List PaC} (h : OpIs ops i (.load 25 (.tmp k)) dst js) (he : a.eval (.tmp k) = .pointer (some ⟨g, o + m * 4, none⟩)) (hr : RowK 4 w (some ⟨g, o, none⟩) n (xs.map paL)) (hx : xs[m]? = some x) (hk : K (a.put dst (paV x)) w) : wpOp Tryz.prog ops Q i K a w :=
  h.go fun op h1 h2 => by
    have hm : m < n := by
      have := hr.len
      simp only [List.length_map] at this
      have := (List.getElem?_eq_some_iff.1 hx).1
      omega
    obtain ⟨b', o', q, hA, hz, g0, g1, g2, g3⟩ := hr.getN hm
    cases hA
    rw [hx] at hz
    cases hz
    have hrun : (execOp a.eval op).run Tryz.prog w = .ok (.value (paV x)) w := by
      clear hr hk hx
      unfold paV execOp
      rw [h1]
      dsimp only
      rw [he]
      go_simp
    unfold Oper.wp
    rw [hrun]
    show K _ _
    rw [h2]
    exact hk
end
theorem Tryz.rpatchSize : (Tryz.prog.info? 25).map (·.size) = some 4 := by kernel_rfl

end Go.Proofs.YtlnjhimbgckdcaaGreat

/-
  Operations of a region that are guarded by one that yields true; functions as values.
-/
namespace Go.Proofs.YtlnjhimbgckdcaaGreat
open Go.RowKit Go.Maps

def OpG (ops : Array Oper) (i : Nat) (op : Op) (dst : Option Tmp) (js : List Nat) (g : Nat) (d : Tmp) : Prop := ∃ o, ops[i]? = some o /\ o.op = op /\ o.dst = dst /\ o.guard = some (g, true) /\ needs o js = true /\ (ops[g]?).bind (·.dst) = some d
def unguard (ops : Array Oper) (i : Nat) : Array Oper := ops.modify i fun o => { o with guard := none }
theorem OpG.waits {ops : Array Oper} {i g : Nat} {d : Tmp} {op : Op} {dst : Option Tmp} {js : List Nat} (h : OpG ops i op dst js g d) {o : Oper} (ho : ops[i]? = some o) {l : Nat -> Bool} (hl : ∀ e ∈ o.after, Region.binds .any e = true -> l e.on = true) : ∀ j ∈ js, l j = true := by
  obtain ⟨o', h1, -, -, -, h5, -⟩ := h
  rw [ho] at h1
  cases h1
  intro j hj
  have := List.all_eq_true.1 h5 j hj
  simp only [Array.any_eq_true, Bool.and_eq_true, decide_eq_true_eq] at this
  obtain ⟨k, hk, e1, e2⟩ := this
  rw [← e1]
  exact hl _ (Array.getElem_mem hk) e2
theorem OpG.un {ops : Array Oper} {i g : Nat} {d : Tmp} {op : Op} {dst : Option Tmp} {js : List Nat} (h : OpG ops i op dst js g d) : OpIs (unguard ops i) i op dst [] := by
  obtain ⟨o, h1, h2, h3, -, -, -⟩ := h
  exact ⟨{ o with guard := none }, by simp [unguard, Array.getElem?_modify, h1], h2, h3, rfl, rfl⟩
theorem OpG.via {P : Program} {ops : Array Oper} {Q : Exit -> Act -> World -> Prop} {K : Act -> World -> Prop} {i g : Nat} {d : Tmp} {op : Op} {dst : Option Tmp} {js : List Nat} {a : Act} {w : World} (h : OpG ops i op dst js g d) (hv : a.eval (.tmp d) = .bool true) (hd : d < a.tmps.size)
    (hk : wpOp P (unguard ops i) Q i K a w) : wpOp P ops Q i K a w := by
  obtain ⟨o, h1, -, -, h4, -, h6⟩ := h
  unfold wpOp at hk ⊢
  rw [h1]
  have e1 : (unguard ops i)[i]? = some { o with guard := none } := by simp [unguard, Array.getElem?_modify, h1]
  rw [e1] at hk
  have e2 : Region.wanted o (yielded ops a.tmps) = true := by
    have ht : a.tmps[d]? = some (.bool true) := by
      rw [Array.getElem?_eq_getElem hd]
      have := hv
      simp only [Act.eval, Array.getD, hd, dif_pos] at this
      exact congrArg some this
    simp only [Region.wanted, h4, yielded]
    rw [h6]
    simp [ht]
  dsimp only at hk ⊢
  rw [if_pos e2]
  rw [if_pos (by rfl)] at hk
  exact hk

section
variable {ops : Array Oper} {Q : Exit -> Act -> World -> Prop} {K : Act -> World -> Prop} {i : Nat} {dst : Option Tmp} {js : List Nat} {a : Act} {w w0 : World}
theorem OpIs.pick {j k : Tmp} {v : Value} (h : OpIs ops i (.pick (.tmp j) (.tmp k) (.const (.bool false))) dst js) (hj : a.eval (.tmp j) = .bool true) (hv : a.eval (.tmp k) = v) (hk : K (a.put dst v) w) : wpOp Tryz.prog ops Q i K a w :=
  h.go fun o h1 h2 => by
    have hr : (execOp a.eval o).run Tryz.prog w = .ok (.value v) w := by
      clear hk
      unfold execOp
      rw [h1]
      dsimp only
      rw [hj, hv]
      go_simp
    unfold Oper.wp
    rw [hr]
    show K _ _
    rw [h2]
    exact hk
end

end Go.Proofs.YtlnjhimbgckdcaaGreat
