import Derived.Test.YtlnjhimbgckdcaaGreatPk14
import Derived.Test.YtlnjhimbgckdcaaGreatPk11
import Derived.Deep.LoopGhost
import Derived.Deep.QuietTactic
import Derived.BigQuiet
import Derived.Lib.Hide
import Derived.Test.YtlnjhimbgckdcaaGreatPk13

/-
  What named's Swap and Needs come to, as calls.
-/
namespace Go.Proofs.YtlnjhimbgckdcaaGreat
open Go.RowKit Go.Maps

def GivesSw (r : Option (Pa × Pa)) (w : World) (e : Ending) (w' : World) : Prop :=
  ∃ y z : PaC, e = .returned (.tuple #[paV y, paV z, .bool r.isSome]) ∧ PaOk w' y ∧ PaOk w' z ∧ FreshN w y ∧ FreshN w z ∧ Later w w' ∧ (r = none → y = zeroN ∧ z = zeroN) ∧ ∀ c, r = some c → y.v = c.1 ∧ z.v = c.2
theorem results_two4 {P : Program} {fn : Func} (h : fn.results = #[.cell 4 30, .cell 5 30, .tmp 6]) (hP : P = Tryz.prog) (tmps : Array Value) (w : World) (g4 g5 : Nat) (y z : PaC) (b : Value) {t s : TypeId}
    (h4 : tmps.getD 4 undef = .pointer (some ⟨g4, 0, none⟩)) (h5 : tmps.getD 5 undef = .pointer (some ⟨g5, 0, none⟩)) (h6 : tmps.getD 6 undef = b) (c4 : BoxAt w g4 (paL y).toArray t) (c5 : BoxAt w g5 (paL z).toArray s) : (results fn tmps).run P w = .ok (.tuple #[paV y, paV z, b]) w := by
  subst hP
  have p4 : tmps[4]?.getD undef = .pointer (some ⟨g4, 0, none⟩) := by simpa using h4
  have p5 : tmps[5]?.getD undef = .pointer (some ⟨g5, 0, none⟩) := by simpa using h5
  have p6 : tmps[6]?.getD undef = b := by simpa using h6
  have r4 := run_loadVar_row (P := Tryz.prog) w g4 t 30 (paL y).toArray (0, 0) _ c4 Tryz.underlying30 rfl Tryz.patchSize
  have r5 := run_loadVar_row (P := Tryz.prog) w g5 s 30 (paL z).toArray (0, 0) _ c5 Tryz.underlying30 rfl Tryz.patchSize
  simp [results, h, p4, p5, p6, asAddr, r4, r5, paV, paL]
theorem swapN_none {p q : Pa} (h : rightN p = false ∨ rightN q = false ∨ p.id = q.id ∨ q.id ∈ p.deps ∨ p.id ∈ q.deps) : swapN p q = none := by
  unfold swapN
  rw [if_neg]
  rintro ⟨h1, h2, h3, h4, h5⟩
  rcases h with h | h | h | h | h
  · rw [h] at h1; cases h1
  · rw [h] at h2; cases h2
  · exact h3 h
  · exact h4 h
  · exact h5 h
theorem swapN_some {p q : Pa} (h1 : rightN p = true) (h2 : rightN q = true) (h3 : ¬ p.id = q.id) (h4 : q.id ∉ p.deps) (h5 : p.id ∉ q.deps) : swapN p q = (swapS p.l q.l).map fun s => ({ q with l := s.1 }, { p with l := s.2 }) := by
  unfold swapN
  rw [if_pos ⟨h1, h2, h3, h4, h5⟩]
theorem gives_none {w w' : World} (hl : Later w w') : GivesSw none w (.returned (.tuple #[paV zeroN, paV zeroN, .bool false])) w' :=
  ⟨zeroN, zeroN, rfl, zeroN_ok _, zeroN_ok _, zeroN_fresh _, zeroN_fresh _, hl, fun _ => ⟨rfl, rfl⟩, fun _ h => by cases h⟩

theorem zero_tail {w V : World} {g4 g5 : Nat} (h4 : BoxAt V g4 #[.int .i64 0, .string ⟨#[]⟩, .slice none 0 0, .slice none 0 0] 30) (h5 : BoxAt V g5 #[.int .i64 0, .string ⟨#[]⟩, .slice none 0 0, .slice none 0 0] 30) (hne : g4 ≠ g5) (hg4 : w.heap.size ≤ g4) (hg5 : w.heap.size ≤ g5) (hl : Later w V) : BoxAt (((((((((V.setCell ⟨g4, 0, none⟩ (.int .i64 0)).setCell ⟨g4, 1, none⟩ (.string ⟨#[]⟩)).setCell ⟨g4, 2, none⟩ (.slice none 0 0)).setCell ⟨g4, 3, none⟩ (.slice none 0 0)).setCell ⟨g5, 0, none⟩ (.int .i64 0)).setCell ⟨g5, 1, none⟩ (.string ⟨#[]⟩)).setCell ⟨g5, 2, none⟩ (.slice none 0 0)).setCell ⟨g5, 3, none⟩ (.slice none 0 0))) g4 (paL zeroN).toArray 30 ∧ BoxAt (((((((((V.setCell ⟨g4, 0, none⟩ (.int .i64 0)).setCell ⟨g4, 1, none⟩ (.string ⟨#[]⟩)).setCell ⟨g4, 2, none⟩ (.slice none 0 0)).setCell ⟨g4, 3, none⟩ (.slice none 0 0)).setCell ⟨g5, 0, none⟩ (.int .i64 0)).setCell ⟨g5, 1, none⟩ (.string ⟨#[]⟩)).setCell ⟨g5, 2, none⟩ (.slice none 0 0)).setCell ⟨g5, 3, none⟩ (.slice none 0 0))) g5 (paL zeroN).toArray 30 ∧ Later w (((((((((V.setCell ⟨g4, 0, none⟩ (.int .i64 0)).setCell ⟨g4, 1, none⟩ (.string ⟨#[]⟩)).setCell ⟨g4, 2, none⟩ (.slice none 0 0)).setCell ⟨g4, 3, none⟩ (.slice none 0 0)).setCell ⟨g5, 0, none⟩ (.int .i64 0)).setCell ⟨g5, 1, none⟩ (.string ⟨#[]⟩)).setCell ⟨g5, 2, none⟩ (.slice none 0 0)).setCell ⟨g5, 3, none⟩ (.slice none 0 0))) := by
  have t4 := turned_set4 V g4 (.int .i64 0) (.string ⟨#[]⟩) (.slice none 0 0) (.slice none 0 0)
  have t5 := turned_set4 (((((V.setCell ⟨g4, 0, none⟩ (.int .i64 0)).setCell ⟨g4, 1, none⟩ (.string ⟨#[]⟩)).setCell ⟨g4, 2, none⟩ (.slice none 0 0)).setCell ⟨g4, 3, none⟩ (.slice none 0 0))) g5 (.int .i64 0) (.string ⟨#[]⟩) (.slice none 0 0) (.slice none 0 0)
  exact ⟨(h4.set4 _ _ _ _).other t5 hne, (h5.other t4 (fun e => hne e.symm)).set4 _ _ _ _, (hl.turn t4 hg4).turn t5 hg5⟩

set_option maxRecDepth 100000 in
set_option maxHeartbeats 1600000 in
theorem swap7_any (p q : PaC) (w : World) (hp : PaOk w p) (hq : PaOk w q) : Calls Tryz.prog 9 #[paV p, paV q] w (GivesSw (swapN p.v q.v) w) := by
  have hlb : Later w ((((w.alloc (.cells #[.int .i64 p.v.id, .string p.v.note, .slice p.D p.nd p.cd, .slice p.L p.nl p.cl] 30)).alloc (.cells #[.int .i64 q.v.id, .string q.v.note, .slice q.D q.nd q.cd, .slice q.L q.nl q.cl] 30)).alloc (.cells #[.int .i64 0, .string ⟨#[]⟩, .slice none 0 0, .slice none 0 0] 30)).alloc (.cells #[.int .i64 0, .string ⟨#[]⟩, .slice none 0 0, .slice none 0 0] 30)) := ((((Later.refl w).alloc _).alloc _).alloc _).alloc _
  have hb2 : BoxAt ((((w.alloc (.cells #[.int .i64 p.v.id, .string p.v.note, .slice p.D p.nd p.cd, .slice p.L p.nl p.cl] 30)).alloc (.cells #[.int .i64 q.v.id, .string q.v.note, .slice q.D q.nd q.cd, .slice q.L q.nl q.cl] 30)).alloc (.cells #[.int .i64 0, .string ⟨#[]⟩, .slice none 0 0, .slice none 0 0] 30)).alloc (.cells #[.int .i64 0, .string ⟨#[]⟩, .slice none 0 0, .slice none 0 0] 30)) w.heap.size (paL p).toArray 30 := (((BoxAt.made w (paL p).toArray 30).alloc _).alloc _).alloc _
  have hb3 : BoxAt ((((w.alloc (.cells #[.int .i64 p.v.id, .string p.v.note, .slice p.D p.nd p.cd, .slice p.L p.nl p.cl] 30)).alloc (.cells #[.int .i64 q.v.id, .string q.v.note, .slice q.D q.nd q.cd, .slice q.L q.nl q.cl] 30)).alloc (.cells #[.int .i64 0, .string ⟨#[]⟩, .slice none 0 0, .slice none 0 0] 30)).alloc (.cells #[.int .i64 0, .string ⟨#[]⟩, .slice none 0 0, .slice none 0 0] 30)) (w.heap.size + 1) (paL q).toArray 30 := by
    have := BoxAt.made (w.alloc (.cells #[.int .i64 p.v.id, .string p.v.note, .slice p.D p.nd p.cd, .slice p.L p.nl p.cl] 30)) (paL q).toArray 30
    rw [World.size_alloc] at this
    exact (this.alloc _).alloc _
  have hb4 : BoxAt ((((w.alloc (.cells #[.int .i64 p.v.id, .string p.v.note, .slice p.D p.nd p.cd, .slice p.L p.nl p.cl] 30)).alloc (.cells #[.int .i64 q.v.id, .string q.v.note, .slice q.D q.nd q.cd, .slice q.L q.nl q.cl] 30)).alloc (.cells #[.int .i64 0, .string ⟨#[]⟩, .slice none 0 0, .slice none 0 0] 30)).alloc (.cells #[.int .i64 0, .string ⟨#[]⟩, .slice none 0 0, .slice none 0 0] 30)) (w.heap.size + 1 + 1) #[.int .i64 0, .string ⟨#[]⟩, .slice none 0 0, .slice none 0 0] 30 := by
    have := BoxAt.made ((w.alloc (.cells #[.int .i64 p.v.id, .string p.v.note, .slice p.D p.nd p.cd, .slice p.L p.nl p.cl] 30)).alloc (.cells #[.int .i64 q.v.id, .string q.v.note, .slice q.D q.nd q.cd, .slice q.L q.nl q.cl] 30)) #[.int .i64 0, .string ⟨#[]⟩, .slice none 0 0, .slice none 0 0] 30
    rw [World.size_alloc, World.size_alloc] at this
    exact this.alloc _
  have hb5 : BoxAt ((((w.alloc (.cells #[.int .i64 p.v.id, .string p.v.note, .slice p.D p.nd p.cd, .slice p.L p.nl p.cl] 30)).alloc (.cells #[.int .i64 q.v.id, .string q.v.note, .slice q.D q.nd q.cd, .slice q.L q.nl q.cl] 30)).alloc (.cells #[.int .i64 0, .string ⟨#[]⟩, .slice none 0 0, .slice none 0 0] 30)).alloc (.cells #[.int .i64 0, .string ⟨#[]⟩, .slice none 0 0, .slice none 0 0] 30)) (w.heap.size + 1 + 1 + 1) #[.int .i64 0, .string ⟨#[]⟩, .slice none 0 0, .slice none 0 0] 30 := by
    have := BoxAt.made (((w.alloc (.cells #[.int .i64 p.v.id, .string p.v.note, .slice p.D p.nd p.cd, .slice p.L p.nl p.cl] 30)).alloc (.cells #[.int .i64 q.v.id, .string q.v.note, .slice q.D q.nd q.cd, .slice q.L q.nl q.cl] 30)).alloc (.cells #[.int .i64 0, .string ⟨#[]⟩, .slice none 0 0, .slice none 0 0] 30)) #[.int .i64 0, .string ⟨#[]⟩, .slice none 0 0, .slice none 0 0] 30
    rw [World.size_alloc, World.size_alloc, World.size_alloc] at this
    exact this
  have HP := Lib.hid hp; have HQ := Lib.hid hq
  have HLB := Lib.hid hlb; have HB2 := Lib.hid hb2; have HB3 := Lib.hid hb3; have HB4 := Lib.hid hb4; have HB5 := Lib.hid hb5
  have HR1 := Lib.hid (right7_any p _ (hp.later hlb))
  clear hp hq hlb hb2 hb3 hb4 hb5
  unfold paV at HR1 ⊢
  go_enter Tryz.func9, Tryz.ntmps9
  go_wp2_with fail
  generalize ((((w.alloc (.cells #[.int .i64 p.v.id, .string p.v.note, .slice p.D p.nd p.cd, .slice p.L p.nl p.cl] 30)).alloc (.cells #[.int .i64 q.v.id, .string q.v.note, .slice q.D q.nd q.cd, .slice q.L q.nl q.cl] 30)).alloc (.cells #[.int .i64 0, .string ⟨#[]⟩, .slice none 0 0, .slice none 0 0] 30)).alloc (.cells #[.int .i64 0, .string ⟨#[]⟩, .slice none 0 0, .slice none 0 0] 30)) = wb at HLB HB2 HB3 HB4 HB5 HR1 ⊢
  refine HR1.out.mono ?_
  rintro e w1 ⟨rfl, hl1⟩
  replace HLB := Lib.hid (HLB.out.trans hl1); replace HB2 := Lib.hid (HB2.out.later hl1); replace HB3 := Lib.hid (HB3.out.later hl1); replace HB4 := Lib.hid (HB4.out.later hl1); replace HB5 := Lib.hid (HB5.out.later hl1)
  clear hl1 HR1 wb
  have q20 : w1.cell? ⟨w.heap.size, 0, none⟩ = some (.int .i64 p.v.id) := HB2.out.cell rfl
  have q21 : w1.cell? ⟨w.heap.size, 1, none⟩ = some (.string p.v.note) := HB2.out.cell rfl
  have q22 : w1.cell? ⟨w.heap.size, 2, none⟩ = some (.slice p.D p.nd p.cd) := HB2.out.cell rfl
  have q23 : w1.cell? ⟨w.heap.size, 3, none⟩ = some (.slice p.L p.nl p.cl) := HB2.out.cell rfl
  have q30 : w1.cell? ⟨w.heap.size + 1, 0, none⟩ = some (.int .i64 q.v.id) := HB3.out.cell rfl
  have q31 : w1.cell? ⟨w.heap.size + 1, 1, none⟩ = some (.string q.v.note) := HB3.out.cell rfl
  have q32 : w1.cell? ⟨w.heap.size + 1, 2, none⟩ = some (.slice q.D q.nd q.cd) := HB3.out.cell rfl
  have q33 : w1.cell? ⟨w.heap.size + 1, 3, none⟩ = some (.slice q.L q.nl q.cl) := HB3.out.cell rfl
  have y40 : w1.cell? ⟨w.heap.size + 1 + 1, 0, none⟩ = some (.int .i64 0) := HB4.out.cell rfl
  have z40 := HB4.out.frozen 0
  have y41 : w1.cell? ⟨w.heap.size + 1 + 1, 1, none⟩ = some (.string ⟨#[]⟩) := HB4.out.cell rfl
  have z41 := HB4.out.frozen 1
  have y42 : w1.cell? ⟨w.heap.size + 1 + 1, 2, none⟩ = some (.slice none 0 0) := HB4.out.cell rfl
  have z42 := HB4.out.frozen 2
  have y43 : w1.cell? ⟨w.heap.size + 1 + 1, 3, none⟩ = some (.slice none 0 0) := HB4.out.cell rfl
  have z43 := HB4.out.frozen 3
  have y50 : w1.cell? ⟨w.heap.size + 1 + 1 + 1, 0, none⟩ = some (.int .i64 0) := HB5.out.cell rfl
  have z50 := HB5.out.frozen 0
  have y51 : w1.cell? ⟨w.heap.size + 1 + 1 + 1, 1, none⟩ = some (.string ⟨#[]⟩) := HB5.out.cell rfl
  have z51 := HB5.out.frozen 1
  have y52 : w1.cell? ⟨w.heap.size + 1 + 1 + 1, 2, none⟩ = some (.slice none 0 0) := HB5.out.cell rfl
  have z52 := HB5.out.frozen 2
  have y53 : w1.cell? ⟨w.heap.size + 1 + 1 + 1, 3, none⟩ = some (.slice none 0 0) := HB5.out.cell rfl
  have z53 := HB5.out.frozen 3
  cases hr1 : rightN p.v with
  | false =>
    have HEQ := Lib.hid (swapN_none (p := p.v) (q := q.v) (.inl hr1))
    go_wp2
    obtain ⟨n4, n5, nl⟩ := zero_tail HB4.out HB5.out (by omega) (by omega) (by omega) HLB.out
    refine bodyPost_ret (results_two4 rfl rfl _ _ (w.heap.size + 1 + 1) (w.heap.size + 1 + 1 + 1) zeroN zeroN _ rfl rfl rfl n4 n5) rfl ?_
    rw [HEQ.out]
    exact gives_none nl
  | true =>
    have HR2 := Lib.hid (right7_any q w1 (HQ.out.later HLB.out))
    unfold paV at HR2
    go_wp2_with fail
    refine HR2.out.mono ?_
    rintro e w2 ⟨rfl, hl2⟩
    replace HLB := Lib.hid (HLB.out.trans hl2); replace HB2 := Lib.hid (HB2.out.later hl2); replace HB3 := Lib.hid (HB3.out.later hl2); replace HB4 := Lib.hid (HB4.out.later hl2); replace HB5 := Lib.hid (HB5.out.later hl2)
    clear hl2 HR2 q20 q21 q22 q23 q30 q31 q32 q33 y40 y41 y42 y43 y50 y51 y52 y53 z40 z41 z42 z43 z50 z51 z52 z53 w1
    have q20 : w2.cell? ⟨w.heap.size, 0, none⟩ = some (.int .i64 p.v.id) := HB2.out.cell rfl
    have q21 : w2.cell? ⟨w.heap.size, 1, none⟩ = some (.string p.v.note) := HB2.out.cell rfl
    have q22 : w2.cell? ⟨w.heap.size, 2, none⟩ = some (.slice p.D p.nd p.cd) := HB2.out.cell rfl
    have q23 : w2.cell? ⟨w.heap.size, 3, none⟩ = some (.slice p.L p.nl p.cl) := HB2.out.cell rfl
    have q30 : w2.cell? ⟨w.heap.size + 1, 0, none⟩ = some (.int .i64 q.v.id) := HB3.out.cell rfl
    have q31 : w2.cell? ⟨w.heap.size + 1, 1, none⟩ = some (.string q.v.note) := HB3.out.cell rfl
    have q32 : w2.cell? ⟨w.heap.size + 1, 2, none⟩ = some (.slice q.D q.nd q.cd) := HB3.out.cell rfl
    have q33 : w2.cell? ⟨w.heap.size + 1, 3, none⟩ = some (.slice q.L q.nl q.cl) := HB3.out.cell rfl
    have y40 : w2.cell? ⟨w.heap.size + 1 + 1, 0, none⟩ = some (.int .i64 0) := HB4.out.cell rfl
    have z40 := HB4.out.frozen 0
    have y41 : w2.cell? ⟨w.heap.size + 1 + 1, 1, none⟩ = some (.string ⟨#[]⟩) := HB4.out.cell rfl
    have z41 := HB4.out.frozen 1
    have y42 : w2.cell? ⟨w.heap.size + 1 + 1, 2, none⟩ = some (.slice none 0 0) := HB4.out.cell rfl
    have z42 := HB4.out.frozen 2
    have y43 : w2.cell? ⟨w.heap.size + 1 + 1, 3, none⟩ = some (.slice none 0 0) := HB4.out.cell rfl
    have z43 := HB4.out.frozen 3
    have y50 : w2.cell? ⟨w.heap.size + 1 + 1 + 1, 0, none⟩ = some (.int .i64 0) := HB5.out.cell rfl
    have z50 := HB5.out.frozen 0
    have y51 : w2.cell? ⟨w.heap.size + 1 + 1 + 1, 1, none⟩ = some (.string ⟨#[]⟩) := HB5.out.cell rfl
    have z51 := HB5.out.frozen 1
    have y52 : w2.cell? ⟨w.heap.size + 1 + 1 + 1, 2, none⟩ = some (.slice none 0 0) := HB5.out.cell rfl
    have z52 := HB5.out.frozen 2
    have y53 : w2.cell? ⟨w.heap.size + 1 + 1 + 1, 3, none⟩ = some (.slice none 0 0) := HB5.out.cell rfl
    have z53 := HB5.out.frozen 3
    cases hr2 : rightN q.v with
    | false =>
      have HEQ := Lib.hid (swapN_none (p := p.v) (q := q.v) (.inr (.inl hr2)))
      go_wp2
      obtain ⟨n4, n5, nl⟩ := zero_tail HB4.out HB5.out (by omega) (by omega) (by omega) HLB.out
      refine bodyPost_ret (results_two4 rfl rfl _ _ (w.heap.size + 1 + 1) (w.heap.size + 1 + 1 + 1) zeroN zeroN _ rfl rfl rfl n4 n5) rfl ?_
      rw [HEQ.out]
      exact gives_none nl
    | true =>
      by_cases h3 : p.v.id = q.v.id
      ·
        have HEQ := Lib.hid (swapN_none (p := p.v) (q := q.v) (.inr (.inr (.inl h3))))
        go_wp2
        obtain ⟨n4, n5, nl⟩ := zero_tail HB4.out HB5.out (by omega) (by omega) (by omega) HLB.out
        refine bodyPost_ret (results_two4 rfl rfl _ _ (w.heap.size + 1 + 1) (w.heap.size + 1 + 1 + 1) zeroN zeroN _ rfl rfl rfl n4 n5) rfl ?_
        rw [HEQ.out]
        exact gives_none nl
      · have HD1 := Lib.hid (dependsOn_any p q w2 (HP.out.later HLB.out))
        unfold paV at HD1
        go_wp2_with fail
        refine HD1.out.mono ?_
        rintro e w3 ⟨rfl, hl3⟩
        replace HLB := Lib.hid (HLB.out.trans hl3); replace HB2 := Lib.hid (HB2.out.later hl3); replace HB3 := Lib.hid (HB3.out.later hl3); replace HB4 := Lib.hid (HB4.out.later hl3); replace HB5 := Lib.hid (HB5.out.later hl3)
        clear hl3 HD1 q20 q21 q22 q23 q30 q31 q32 q33 y40 y41 y42 y43 y50 y51 y52 y53 z40 z41 z42 z43 z50 z51 z52 z53 w2
        have q20 : w3.cell? ⟨w.heap.size, 0, none⟩ = some (.int .i64 p.v.id) := HB2.out.cell rfl
        have q21 : w3.cell? ⟨w.heap.size, 1, none⟩ = some (.string p.v.note) := HB2.out.cell rfl
        have q22 : w3.cell? ⟨w.heap.size, 2, none⟩ = some (.slice p.D p.nd p.cd) := HB2.out.cell rfl
        have q23 : w3.cell? ⟨w.heap.size, 3, none⟩ = some (.slice p.L p.nl p.cl) := HB2.out.cell rfl
        have q30 : w3.cell? ⟨w.heap.size + 1, 0, none⟩ = some (.int .i64 q.v.id) := HB3.out.cell rfl
        have q31 : w3.cell? ⟨w.heap.size + 1, 1, none⟩ = some (.string q.v.note) := HB3.out.cell rfl
        have q32 : w3.cell? ⟨w.heap.size + 1, 2, none⟩ = some (.slice q.D q.nd q.cd) := HB3.out.cell rfl
        have q33 : w3.cell? ⟨w.heap.size + 1, 3, none⟩ = some (.slice q.L q.nl q.cl) := HB3.out.cell rfl
        have y40 : w3.cell? ⟨w.heap.size + 1 + 1, 0, none⟩ = some (.int .i64 0) := HB4.out.cell rfl
        have z40 := HB4.out.frozen 0
        have y41 : w3.cell? ⟨w.heap.size + 1 + 1, 1, none⟩ = some (.string ⟨#[]⟩) := HB4.out.cell rfl
        have z41 := HB4.out.frozen 1
        have y42 : w3.cell? ⟨w.heap.size + 1 + 1, 2, none⟩ = some (.slice none 0 0) := HB4.out.cell rfl
        have z42 := HB4.out.frozen 2
        have y43 : w3.cell? ⟨w.heap.size + 1 + 1, 3, none⟩ = some (.slice none 0 0) := HB4.out.cell rfl
        have z43 := HB4.out.frozen 3
        have y50 : w3.cell? ⟨w.heap.size + 1 + 1 + 1, 0, none⟩ = some (.int .i64 0) := HB5.out.cell rfl
        have z50 := HB5.out.frozen 0
        have y51 : w3.cell? ⟨w.heap.size + 1 + 1 + 1, 1, none⟩ = some (.string ⟨#[]⟩) := HB5.out.cell rfl
        have z51 := HB5.out.frozen 1
        have y52 : w3.cell? ⟨w.heap.size + 1 + 1 + 1, 2, none⟩ = some (.slice none 0 0) := HB5.out.cell rfl
        have z52 := HB5.out.frozen 2
        have y53 : w3.cell? ⟨w.heap.size + 1 + 1 + 1, 3, none⟩ = some (.slice none 0 0) := HB5.out.cell rfl
        have z53 := HB5.out.frozen 3
        by_cases h4 : q.v.id ∈ p.v.deps
        · rw [decide_eq_true h4]
          have HEQ := Lib.hid (swapN_none (p := p.v) (q := q.v) (.inr (.inr (.inr (.inl h4)))))
          go_wp2
          obtain ⟨n4, n5, nl⟩ := zero_tail HB4.out HB5.out (by omega) (by omega) (by omega) HLB.out
          refine bodyPost_ret (results_two4 rfl rfl _ _ (w.heap.size + 1 + 1) (w.heap.size + 1 + 1 + 1) zeroN zeroN _ rfl rfl rfl n4 n5) rfl ?_
          rw [HEQ.out]
          exact gives_none nl
        · rw [decide_eq_false h4]
          have HD2 := Lib.hid (dependsOn_any q p w3 (HQ.out.later HLB.out))
          unfold paV at HD2
          go_wp2_with fail
          refine HD2.out.mono ?_
          rintro e w4 ⟨rfl, hl4⟩
          replace HLB := Lib.hid (HLB.out.trans hl4); replace HB2 := Lib.hid (HB2.out.later hl4); replace HB3 := Lib.hid (HB3.out.later hl4); replace HB4 := Lib.hid (HB4.out.later hl4); replace HB5 := Lib.hid (HB5.out.later hl4)
          clear hl4 HD2 q20 q21 q22 q23 q30 q31 q32 q33 y40 y41 y42 y43 y50 y51 y52 y53 z40 z41 z42 z43 z50 z51 z52 z53 w3
          have q20 : w4.cell? ⟨w.heap.size, 0, none⟩ = some (.int .i64 p.v.id) := HB2.out.cell rfl
          have q21 : w4.cell? ⟨w.heap.size, 1, none⟩ = some (.string p.v.note) := HB2.out.cell rfl
          have q22 : w4.cell? ⟨w.heap.size, 2, none⟩ = some (.slice p.D p.nd p.cd) := HB2.out.cell rfl
          have q23 : w4.cell? ⟨w.heap.size, 3, none⟩ = some (.slice p.L p.nl p.cl) := HB2.out.cell rfl
          have q30 : w4.cell? ⟨w.heap.size + 1, 0, none⟩ = some (.int .i64 q.v.id) := HB3.out.cell rfl
          have q31 : w4.cell? ⟨w.heap.size + 1, 1, none⟩ = some (.string q.v.note) := HB3.out.cell rfl
          have q32 : w4.cell? ⟨w.heap.size + 1, 2, none⟩ = some (.slice q.D q.nd q.cd) := HB3.out.cell rfl
          have q33 : w4.cell? ⟨w.heap.size + 1, 3, none⟩ = some (.slice q.L q.nl q.cl) := HB3.out.cell rfl
          have y40 : w4.cell? ⟨w.heap.size + 1 + 1, 0, none⟩ = some (.int .i64 0) := HB4.out.cell rfl
          have z40 := HB4.out.frozen 0
          have y41 : w4.cell? ⟨w.heap.size + 1 + 1, 1, none⟩ = some (.string ⟨#[]⟩) := HB4.out.cell rfl
          have z41 := HB4.out.frozen 1
          have y42 : w4.cell? ⟨w.heap.size + 1 + 1, 2, none⟩ = some (.slice none 0 0) := HB4.out.cell rfl
          have z42 := HB4.out.frozen 2
          have y43 : w4.cell? ⟨w.heap.size + 1 + 1, 3, none⟩ = some (.slice none 0 0) := HB4.out.cell rfl
          have z43 := HB4.out.frozen 3
          have y50 : w4.cell? ⟨w.heap.size + 1 + 1 + 1, 0, none⟩ = some (.int .i64 0) := HB5.out.cell rfl
          have z50 := HB5.out.frozen 0
          have y51 : w4.cell? ⟨w.heap.size + 1 + 1 + 1, 1, none⟩ = some (.string ⟨#[]⟩) := HB5.out.cell rfl
          have z51 := HB5.out.frozen 1
          have y52 : w4.cell? ⟨w.heap.size + 1 + 1 + 1, 2, none⟩ = some (.slice none 0 0) := HB5.out.cell rfl
          have z52 := HB5.out.frozen 2
          have y53 : w4.cell? ⟨w.heap.size + 1 + 1 + 1, 3, none⟩ = some (.slice none 0 0) := HB5.out.cell rfl
          have z53 := HB5.out.frozen 3
          by_cases h5 : p.v.id ∈ q.v.deps
          · rw [decide_eq_true h5]
            have HEQ := Lib.hid (swapN_none (p := p.v) (q := q.v) (.inr (.inr (.inr (.inr h5)))))
            go_wp2
            obtain ⟨n4, n5, nl⟩ := zero_tail HB4.out HB5.out (by omega) (by omega) (by omega) HLB.out
            refine bodyPost_ret (results_two4 rfl rfl _ _ (w.heap.size + 1 + 1) (w.heap.size + 1 + 1 + 1) zeroN zeroN _ rfl rfl rfl n4 n5) rfl ?_
            rw [HEQ.out]
            exact gives_none nl
          · rw [decide_eq_false h5]
            have HSW := Lib.hid (seqSwap_any p.L q.L p.nl p.cl q.nl q.cl p.xs q.xs w4 (HP.out.row.later HLB.out) (HQ.out.row.later HLB.out) (by have := HP.out.lmost; omega) (by have := HQ.out.lmost; omega))
            rw [HP.out.is, HQ.out.is] at HSW
            have HEQ := Lib.hid (swapN_some hr1 hr2 h3 h4 h5)
            have hsz : w.heap.size + 4 ≤ w4.heap.size := by have := HB5.out.lt; omega
            go_wp2_with fail
            refine HSW.out.mono ?_
            rintro e w5 ⟨hl5, hr5⟩
            replace HB2 := Lib.hid (HB2.out.later hl5); replace HB3 := Lib.hid (HB3.out.later hl5); replace HB4 := Lib.hid (HB4.out.later hl5); replace HB5 := Lib.hid (HB5.out.later hl5)
            have HL5 := Lib.hid hl5
            clear HSW hl5 q20 q21 q22 q23 q30 q31 q32 q33 y40 y41 y42 y43 y50 y51 y52 y53 z40 z41 z42 z43 z50 z51 z52 z53
            cases hs : swapS p.v.l q.v.l with
            | none =>
              rw [hs] at hr5
              subst hr5
              rw [hs] at HEQ
              replace HLB := Lib.hid (HLB.out.trans HL5.out)
              have q20 : w5.cell? ⟨w.heap.size, 0, none⟩ = some (.int .i64 p.v.id) := HB2.out.cell rfl
              have q21 : w5.cell? ⟨w.heap.size, 1, none⟩ = some (.string p.v.note) := HB2.out.cell rfl
              have q22 : w5.cell? ⟨w.heap.size, 2, none⟩ = some (.slice p.D p.nd p.cd) := HB2.out.cell rfl
              have q23 : w5.cell? ⟨w.heap.size, 3, none⟩ = some (.slice p.L p.nl p.cl) := HB2.out.cell rfl
              have q30 : w5.cell? ⟨w.heap.size + 1, 0, none⟩ = some (.int .i64 q.v.id) := HB3.out.cell rfl
              have q31 : w5.cell? ⟨w.heap.size + 1, 1, none⟩ = some (.string q.v.note) := HB3.out.cell rfl
              have q32 : w5.cell? ⟨w.heap.size + 1, 2, none⟩ = some (.slice q.D q.nd q.cd) := HB3.out.cell rfl
              have q33 : w5.cell? ⟨w.heap.size + 1, 3, none⟩ = some (.slice q.L q.nl q.cl) := HB3.out.cell rfl
              have y40 : w5.cell? ⟨w.heap.size + 1 + 1, 0, none⟩ = some (.int .i64 0) := HB4.out.cell rfl
              have z40 := HB4.out.frozen 0
              have y41 : w5.cell? ⟨w.heap.size + 1 + 1, 1, none⟩ = some (.string ⟨#[]⟩) := HB4.out.cell rfl
              have z41 := HB4.out.frozen 1
              have y42 : w5.cell? ⟨w.heap.size + 1 + 1, 2, none⟩ = some (.slice none 0 0) := HB4.out.cell rfl
              have z42 := HB4.out.frozen 2
              have y43 : w5.cell? ⟨w.heap.size + 1 + 1, 3, none⟩ = some (.slice none 0 0) := HB4.out.cell rfl
              have z43 := HB4.out.frozen 3
              have y50 : w5.cell? ⟨w.heap.size + 1 + 1 + 1, 0, none⟩ = some (.int .i64 0) := HB5.out.cell rfl
              have z50 := HB5.out.frozen 0
              have y51 : w5.cell? ⟨w.heap.size + 1 + 1 + 1, 1, none⟩ = some (.string ⟨#[]⟩) := HB5.out.cell rfl
              have z51 := HB5.out.frozen 1
              have y52 : w5.cell? ⟨w.heap.size + 1 + 1 + 1, 2, none⟩ = some (.slice none 0 0) := HB5.out.cell rfl
              have z52 := HB5.out.frozen 2
              have y53 : w5.cell? ⟨w.heap.size + 1 + 1 + 1, 3, none⟩ = some (.slice none 0 0) := HB5.out.cell rfl
              have z53 := HB5.out.frozen 3
              go_wp2
              obtain ⟨n4, n5, nl⟩ := zero_tail HB4.out HB5.out (by omega) (by omega) (by omega) HLB.out
              refine bodyPost_ret (results_two4 rfl rfl _ _ (w.heap.size + 1 + 1) (w.heap.size + 1 + 1 + 1) zeroN zeroN _ rfl rfl rfl n4 n5) rfl ?_
              rw [HEQ.out]
              exact gives_none nl
            | some r =>
              rw [hs] at hr5 HEQ
              obtain ⟨v, u, ys, zs, rfl, oy, oz, ey, ez, fy, fz, -⟩ := hr5
              obtain ⟨A1, c1, hv1, -, -⟩ := oy.row
              obtain ⟨A2, c2, hv2, -, -⟩ := oz.row
              subst hv1 hv2
              have hln := swapS_length hs
              have hy0 : ys.length ≤ 30000 := by rw [← valsP_length, ey, hln.1, ← HQ.out.is, valsP_length, HQ.out.row.len]; exact HQ.out.lmost
              have hz0 : zs.length ≤ 30000 := by rw [← valsP_length, ez, hln.2, ← HP.out.is, valsP_length, HP.out.row.len]; exact HP.out.lmost
              have HY := Lib.hid oy; have HZ := Lib.hid oz; have HEY := Lib.hid ey; have HEZ := Lib.hid ez; have HFY := Lib.hid fy; have HFZ := Lib.hid fz
              clear oy oz ey ez fy fz hln
              generalize ys.length = ny at *
              generalize zs.length = nz at *
              go_upto_region 6 with fail
              refine swn_region rfl (by kernel_rfl) ⟨_, rfl, rfl, rfl, rfl, by kernel_rfl⟩ ⟨_, rfl, rfl, rfl, rfl, by kernel_rfl⟩ ⟨_, rfl, rfl, rfl, rfl, by kernel_rfl⟩ ⟨_, rfl, rfl, rfl, rfl, by kernel_rfl⟩ ⟨_, rfl, rfl, rfl, rfl, by kernel_rfl⟩ ⟨_, rfl, rfl, rfl, rfl, by kernel_rfl⟩ ⟨_, rfl, rfl, rfl, rfl, by kernel_rfl⟩ ⟨_, rfl, rfl, rfl, rfl, by kernel_rfl⟩ ⟨_, rfl, rfl, rfl, rfl, by kernel_rfl⟩ (of_decide_eq_true rfl) (p := p) (q := q) (A := A1) (B := A2) rfl rfl rfl rfl rfl rfl HL5.out (HP.out.later HLB.out) (HQ.out.later HLB.out) rfl rfl HY.out HZ.out hy0 hz0 HFY.out HFZ.out HB2.out HB3.out HB4.out HB5.out rfl rfl (by omega) (by omega) (by omega) (fun D a V so e6 st => ?_)
              obtain ⟨⟨V1, V2, s1, s2, s3⟩, sb4, sb5, ty, tz⟩ := st
              have hgl : Later w V := (((HLB.out.trans HL5.out).trans s1).turn s2 (by omega)).turn s3 (by omega)
              have ha := so.is
              simp only [List.foldl_cons, List.foldl_nil] at ha
              generalize a.eval (.tmp 49) = v49 at ha
              generalize a.eval (.tmp 50) = v50 at ha
              generalize a.eval (.tmp 51) = v51 at ha
              generalize a.eval (.tmp 52) = v52 at ha
              generalize a.eval (.tmp 53) = v53 at ha
              generalize a.eval (.tmp 54) = v54 at ha
              generalize a.eval (.tmp 6) = v6 at ha e6
              clear so
              subst ha
              simp only [Act.put, List.setIfInBounds_toArray, List.set_cons_zero, List.set_cons_succ]
              subst e6
              have SB4 := Lib.hid sb4; have SB5 := Lib.hid sb5; have TY := Lib.hid ty; have TZ := Lib.hid tz; have HGL := Lib.hid hgl
              clear sb4 sb5 ty tz hgl s1 s2 s3
              go_wp2
              refine bodyPost_ret (results_two4 rfl rfl _ _ (w.heap.size + 1 + 1) (w.heap.size + 1 + 1 + 1) D.y D.z _ rfl rfl rfl SB4.out SB5.out) rfl ?_
              rw [HEQ.out]
              refine ⟨D.y, D.z, rfl, TY.out.1, TZ.out.1, TY.out.2.1.base HLB.out, TZ.out.2.1.base HLB.out, HGL.out, (fun h => by cases h), fun c hc => ?_⟩
              cases hc
              exact ⟨by rw [TY.out.2.2, HEY.out], by rw [TZ.out.2.2, HEZ.out]⟩

set_option maxRecDepth 100000 in
set_option maxHeartbeats 400000 in
theorem needs7_any (p q : PaC) (w : World) (hp : PaOk w p) (hq : PaOk w q) : Calls Tryz.prog 14 #[paV p, paV q] w (Says (swapN p.v q.v).isNone w) := by
  have hlb : Later w ((w.alloc (.cells #[.int .i64 p.v.id, .string p.v.note, .slice p.D p.nd p.cd, .slice p.L p.nl p.cl] 30)).alloc (.cells #[.int .i64 q.v.id, .string q.v.note, .slice q.D q.nd q.cd, .slice q.L q.nl q.cl] 30)) := ((Later.refl w).alloc _).alloc _
  have HS := Lib.hid (swap7_any p q _ (hp.later hlb) (hq.later hlb))
  have HLB := Lib.hid hlb
  clear hp hq hlb
  unfold paV at HS ⊢
  generalize swapN p.v q.v = r at HS ⊢
  go_enter Tryz.func14, Tryz.ntmps14
  go_wp2_with fail
  refine HS.out.mono ?_
  rintro e w1 ⟨y, z, rfl, oy, oz, -, -, hl1, -, -⟩
  have HL := Lib.hid (HLB.out.trans hl1)
  clear oy oz hl1 HS HLB
  unfold paV
  cases r with
  | none =>
    go_wp2
    go_ret
    exact ⟨rfl, HL.out.trans (((Later.refl _).alloc _).alloc _)⟩
  | some r =>
    go_wp2
    go_ret
    exact ⟨rfl, HL.out.trans (((Later.refl _).alloc _).alloc _)⟩

end Go.Proofs.YtlnjhimbgckdcaaGreat

/-
  The first statement of Past: in whatever order its operations come.
-/
namespace Go.Proofs.YtlnjhimbgckdcaaGreat
open Go.RowKit Go.Maps

structure PaAD where
  y : PaC
  u : Value
structure PaA (w V0 : World) (g g3 : Nat) (qc : PaC) (q : Pa) (n : Nat) (b : Bool) (s : Nat) (D : PaAD) (V : World) : Prop where
  later : Later w V
  size : V0.heap.size ≤ V.heap.size
  x4 : BoxAt V g (if 2 ≤ s then (paL D.y).toArray else #[.int .i64 0, .string ⟨#[]⟩, .slice none 0 0, .slice none 0 0]) 30
  x5 : BoxAt V (g + 1) #[if 3 ≤ s then D.u else .slice none 0 0] 40
  x6 : BoxAt V (g + 2) #[.bool false] 4
  first : 1 ≤ s → PaOk V D.y ∧ D.y.v = q ∧ FreshN V0 D.y
  second : b = true → OwnNs 30 w V D.u (List.replicate n zeroN) ∧ ∀ k, D.u.ownBlock = some k → V0.heap.size ≤ k
  x3 : BoxAt V g3 (paL qc).toArray 30
  apart : 1 ≤ s → b = true → ∀ k, D.u.ownBlock = some k → AwayN k D.y
section
variable {w V0 V V' : World} {g g3 : Nat} {qc : PaC} {q : Pa} {n : Nat} {b : Bool} {s : Nat} {D : PaAD}
theorem PaA.clone (h : PaA w V0 g g3 qc q n b 0 D V) {y : PaC} (ho : PaOk V' y) (hv : y.v = q) (hf : FreshN V y) (hl : Later V V') : PaA w V0 g g3 qc q n b 1 { D with y := y } V' :=
  ⟨h.later.trans hl, Nat.le_trans h.size hl.le, h.x4.later hl, h.x5.later hl, h.x6.later hl, fun _ => ⟨ho, hv, hf.low h.size⟩, fun e => ⟨(h.second e).1.on hl, (h.second e).2⟩, h.x3.later hl, fun _ e k hk => hf.away ((h.second e).1.lt k hk)⟩
theorem PaA.make (h : PaA w V0 g g3 qc q n false s D V) (hs : s ≤ 2) {c : Nat} (ho : OwnNs 30 w V' (.slice (some ⟨V.heap.size, 0, none⟩) n c) (List.replicate n zeroN)) (hl : Later V V') : PaA w V0 g g3 qc q n true s { D with u := .slice (some ⟨V.heap.size, 0, none⟩) n c } V' := by
  have h5 := h.x5
  rw [if_neg (by omega)] at h5
  refine ⟨h.later.trans hl, Nat.le_trans h.size hl.le, h.x4.later hl, by rw [if_neg (by omega)]; exact h5.later hl, h.x6.later hl, fun e => ⟨(h.first e).1.later hl, (h.first e).2⟩, fun _ => ⟨ho, fun k hk => ?_⟩, h.x3.later hl, fun e _ k hk => ?_⟩
  · cases hk; exact h.size
  · cases hk; exact (h.first e).1.away (Nat.le_refl _)
theorem PaA.st4 (h : PaA w V0 g g3 qc q n b 1 D V) (h3 : g3 ≠ g) (hg : w.heap.size ≤ g) (hV0 : g + 2 < V0.heap.size) (hb : BoxAt V' g (paL D.y).toArray 30) (ht : Turned g V V') : PaA w V0 g g3 qc q n b 2 D V' := by
  have hl := h.later.turn ht hg
  refine ⟨hl, Nat.le_trans h.size ht.size, hb, h.x5.other ht (by omega), h.x6.other ht (by omega), fun _ => ⟨(h.first (Nat.le_refl _)).1.off ht ((h.first (Nat.le_refl _)).2.2.away (by omega)), (h.first (Nat.le_refl _)).2⟩, fun e => ⟨(h.second e).1.other ht (fun e' => by have := (h.second e).2 _ e'; omega) (fun y hy => by rw [List.eq_of_mem_replicate hy]; exact zeroN_away _) hl, (h.second e).2⟩, h.x3.other ht h3, fun _ e => h.apart (Nat.le_refl _) e⟩
theorem PaA.st5 (h : PaA w V0 g g3 qc q n true 2 D V) (h3 : g3 ≠ g + 1) (hg : w.heap.size ≤ g) (hV0 : g + 2 < V0.heap.size) (hb : BoxAt V' (g + 1) #[D.u] 40) (ht : Turned (g + 1) V V') : PaA w V0 g g3 qc q n true 3 D V' := by
  have hl := h.later.turn ht (by omega)
  refine ⟨hl, Nat.le_trans h.size ht.size, h.x4.other ht (by omega), hb, h.x6.other ht (by omega), fun _ => ⟨(h.first (by decide)).1.off ht ((h.first (by decide)).2.2.away (by omega)), (h.first (by decide)).2⟩, fun e => ⟨(h.second e).1.other ht (fun e' => by have := (h.second e).2 _ e'; omega) (fun y hy => by rw [List.eq_of_mem_replicate hy]; exact zeroN_away _) hl, (h.second e).2⟩, h.x3.other ht h3, fun _ e => h.apart (by decide) e⟩
end

set_option maxHeartbeats 1600000 in
theorem paa_region {ops : Array Oper} (hn : ops.size = 7) (hg : goesBack ops = true)
    (o0 : OpIs ops 0 (.load 30 (.tmp 3)) (some 9) [])
    (o1 : OpIs ops 1 (.call { callee := .value (.func 23), args := #[.tmp 9], argTypes := #[30] }) (some 10) [0])
    (o2 : OpIs ops 2 (.move (.tmp 0)) (some 11) [])
    (o3 : OpIs ops 3 (.call { callee := .builtin .len, args := #[.tmp 11], argTypes := #[40] }) (some 12) [2])
    (o4 : OpIs ops 4 (.makeSlice 40 (.tmp 12) (.tmp 12)) (some 13) [3])
    (o5 : OpIs ops 5 (.store 30 (.tmp 4) (.tmp 10)) none [0, 1])
    (o6 : OpIs ops 6 (.store 40 (.tmp 5) (.tmp 13)) none [4, 5])
    {a1 : Act} (hs : 33 ≤ a1.tmps.size) {wx : World} {wE : World} {A : Option Addr} {n c g g3 : Nat} {q : PaC} (e0 : a1.eval (.tmp 0) = .slice A n c) (e3 : a1.eval (.tmp 3) = .pointer (some ⟨g3, 0, none⟩)) (e4 : a1.eval (.tmp 4) = .pointer (some ⟨g, 0, none⟩)) (e5 : a1.eval (.tmp 5) = .pointer (some ⟨g + 1, 0, none⟩)) (hl0 : Later wE wx) (hg0 : wE.heap.size ≤ g) (hV : g + 2 < wx.heap.size) (hq : PaOk wE q) (hn0 : n ≤ 65536) (h34 : g3 ≠ g) (h35 : g3 ≠ g + 1) (hb3 : BoxAt wx g3 (paL q).toArray 30) (b4 : BoxAt wx g #[.int .i64 0, .string ⟨#[]⟩, .slice none 0 0, .slice none 0 0] 30) (b5 : BoxAt wx (g + 1) #[.slice none 0 0] 40) (b6 : BoxAt wx (g + 2) #[.bool false] 4)
    {Q : Exit → Act → World → Prop} {id : Nat} (hend : ∀ (D : PaAD) (a : Act) (w : World), SameOut a1 a [9, 10, 11, 12, 13] → PaA wE wx g g3 q q.v n true (3) D w → Q .normal a w) :
    (Code.region id ops true).wp Tryz.prog Q a1 wx := by
  refine region_inv (by kernel_rfl) hg (fun l a w => ∃ D : PaAD, SameOut a1 a [9, 10, 11, 12, 13] ∧ PaA wE wx g g3 q q.v n (l 4) (if l 6 = true then 3 else (if l 5 = true then 2 else (if l 1 = true then 1 else 0))) D w ∧ (l 0 = true → a.eval (.tmp 9) = paV q) ∧ (l 1 = true → a.eval (.tmp 10) = paV D.y) ∧ (l 2 = true → a.eval (.tmp 11) = .slice A n c) ∧ (l 3 = true → a.eval (.tmp 12) = .int .i64 n) ∧ (l 4 = true → a.eval (.tmp 13) = D.u) ∧ (l 5 = true → l 1 = true) ∧ (l 6 = true → l 5 = true) ∧ (l 6 = true → l 4 = true) ∧ (l 1 = true → l 0 = true)) ?_ ?_ ?_
  · intro l a w i o ho hl hwait ⟨D, so, st, f0, f1, f2, f3, f4, d5_1, d6_5, d6_4, d1_0⟩
    have hi : i < 7 := by rw [← hn]; exact (Array.getElem?_eq_some_iff.1 ho).1
    have hc : i = 0 ∨ i = 1 ∨ i = 2 ∨ i = 3 ∨ i = 4 ∨ i = 5 ∨ i = 6 := by omega
    rcases hc with rfl | rfl | rfl | rfl | rfl | rfl | rfl
    · have n1 : l 1 = false := by cases hx : l 1 with | false => rfl | true => have := d1_0 hx; rw [hl] at this; cases this
      have n5 : l 5 = false := by cases hx : l 5 with | false => rfl | true => have := d5_1 hx; rw [n1] at this; cases this
      have n6 : l 6 = false := by cases hx : l 6 with | false => rfl | true => have := d6_5 hx; rw [n5] at this; cases this
      have st0 := st
      have hb0 : BoxAt w g3 (paL q).toArray 30 := st.x3
      refine o0.loadA Tryz.underlying30 Tryz.patchSize ((show _ = a1.eval _ from by simp only [Act.eval, Array.getD_eq_getD_getElem?, so.out 3 (by decide)]).trans e3) hb0 ?_
      exact ⟨D, (so.put (by decide) _), st, (fun _ => eval_put_same' _ _ _ (by rw [so.size]; show (9 : Nat) < _; omega)), (fun e => by rw [show more l 0 1 = l 1 from rfl, n1] at e; cases e), (fun e => (eval_put_other' _ _ (by decide)).trans (f2 e)), (fun e => (eval_put_other' _ _ (by decide)).trans (f3 e)), (fun e => (eval_put_other' _ _ (by decide)).trans (f4 e)), d5_1, d6_5, d6_4, (fun _ => rfl)⟩
    · have ws := o1.waits ho hwait
      have w0 := ws 0 (by simp)
      have n5 : l 5 = false := by cases hx : l 5 with | false => rfl | true => have := d5_1 hx; rw [hl] at this; cases this
      have n6 : l 6 = false := by cases hx : l 6 with | false => rfl | true => have := d6_5 hx; rw [n5] at this; cases this
      have st0 : PaA wE wx g g3 q q.v n (l 4) 0 D w := by
        have hst := st
        simp only [hl, n5, n6, Bool.false_eq_true, if_false] at hst
        exact hst
      refine o1.call1 (enters_of Tryz.func23 (by kernel_rfl) rfl) (f0 w0) (clone7_any q w (hq.later st0.later)) ?_
      rintro e w' ⟨y, rfl, hv', ho', hf', hl'⟩
      have st1 := st0.clone ho' hv' hf' hl'
      have st2 : PaA wE wx g g3 q q.v n ((more l 1) 4) (if (more l 1) 6 = true then 3 else (if (more l 1) 5 = true then 2 else (if (more l 1) 1 = true then 1 else 0))) ({ D with y := y }) w' := by
        rw [if_neg (show ¬ (more l 1 6 = true) from by rw [show more l 1 6 = l 6 from rfl, n6]; simp), if_neg (show ¬ (more l 1 5 = true) from by rw [show more l 1 5 = l 5 from rfl, n5]; simp), if_pos (show more l 1 1 = true from rfl)]
        exact st1
      exact ⟨_, rfl, ⟨{ D with y := y }, (so.put (by decide) _), st2, (fun e => (eval_put_other' _ _ (by decide)).trans (f0 e)), (fun _ => eval_put_same' _ _ _ (by rw [so.size]; show (10 : Nat) < _; omega)), (fun e => (eval_put_other' _ _ (by decide)).trans (f2 e)), (fun e => (eval_put_other' _ _ (by decide)).trans (f3 e)), (fun e => (eval_put_other' _ _ (by decide)).trans (f4 e)), (fun _ => rfl), d6_5, d6_4, (fun _ => w0)⟩⟩
    · have st0 := st
      have ev : a.eval (.tmp 0) = .slice A n c := ((show _ = a1.eval _ from by simp only [Act.eval, Array.getD_eq_getD_getElem?, so.out 0 (by decide)]).trans e0)
      refine o2.move ?_
      rw [ev]
      exact ⟨D, (so.put (by decide) _), st, (fun e => (eval_put_other' _ _ (by decide)).trans (f0 e)), (fun e => (eval_put_other' _ _ (by decide)).trans (f1 e)), (fun _ => eval_put_same' _ _ _ (by rw [so.size]; show (11 : Nat) < _; omega)), (fun e => (eval_put_other' _ _ (by decide)).trans (f3 e)), (fun e => (eval_put_other' _ _ (by decide)).trans (f4 e)), d5_1, d6_5, d6_4, d1_0⟩
    · have ws := o3.waits ho hwait
      have w2 := ws 2 (by simp)
      have st0 := st
      refine o3.lenN (f2 w2) ?_
      exact ⟨D, (so.put (by decide) _), st, (fun e => (eval_put_other' _ _ (by decide)).trans (f0 e)), (fun e => (eval_put_other' _ _ (by decide)).trans (f1 e)), (fun e => (eval_put_other' _ _ (by decide)).trans (f2 e)), (fun _ => eval_put_same' _ _ _ (by rw [so.size]; show (12 : Nat) < _; omega)), (fun e => (eval_put_other' _ _ (by decide)).trans (f4 e)), d5_1, d6_5, d6_4, d1_0⟩
    · have ws := o4.waits ho hwait
      have w3 := ws 3 (by simp)
      have n6 : l 6 = false := by cases hx : l 6 with | false => rfl | true => have := d6_4 hx; rw [hl] at this; cases this
      have st0 := st
      refine o4.makeN (f3 w3) (f3 w3) (by omega) st0.later ?_
      intro w' ho' hl'
      have st1 := PaA.make (by rw [hl] at st0; exact st0) (by
        simp only [n6, Bool.false_eq_true, if_false]
        split
        · omega
        · split <;> omega) ho' hl'
      have st2 : PaA wE wx g g3 q q.v n ((more l 4) 4) (if (more l 4) 6 = true then 3 else (if (more l 4) 5 = true then 2 else (if (more l 4) 1 = true then 1 else 0))) ({ D with u := .slice (some ⟨w.heap.size, 0, none⟩) n n }) w' := st1
      exact ⟨{ D with u := .slice (some ⟨w.heap.size, 0, none⟩) n n }, (so.put (by decide) _), st2, (fun e => (eval_put_other' _ _ (by decide)).trans (f0 e)), (fun e => (eval_put_other' _ _ (by decide)).trans (f1 e)), (fun e => (eval_put_other' _ _ (by decide)).trans (f2 e)), (fun e => (eval_put_other' _ _ (by decide)).trans (f3 e)), (fun _ => eval_put_same' _ _ _ (by rw [so.size]; show (13 : Nat) < _; omega)), d5_1, d6_5, (fun _ => rfl), d1_0⟩
    · have ws := o5.waits ho hwait
      have w0 := ws 0 (by simp)
      have w1 := ws 1 (by simp)
      have n6 : l 6 = false := by cases hx : l 6 with | false => rfl | true => have := d6_5 hx; rw [hl] at this; cases this
      have st0 : PaA wE wx g g3 q q.v n (l 4) 1 D w := by
        have hst := st
        simp only [hl, n6, Bool.false_eq_true, if_false, if_true, w1] at hst
        exact hst
      refine o5.storeA Tryz.patchSize ((show _ = a1.eval _ from by simp only [Act.eval, Array.getD_eq_getD_getElem?, so.out 4 (by decide)]).trans e4) (f1 w1) st0.x4 rfl ?_
      intro w' hb' ht'
      have st1 := st0.st4 h34 hg0 hV hb' ht'
      have st2 : PaA wE wx g g3 q q.v n ((more l 5) 4) (if (more l 5) 6 = true then 3 else (if (more l 5) 5 = true then 2 else (if (more l 5) 1 = true then 1 else 0))) (D) w' := by
        rw [if_neg (show ¬ (more l 5 6 = true) from by rw [show more l 5 6 = l 6 from rfl, n6]; simp), if_pos (show more l 5 5 = true from rfl)]
        exact st1
      exact ⟨D, so, st2, f0, f1, f2, f3, f4, (fun _ => w1), (fun _ => rfl), d6_4, d1_0⟩
    · have ws := o6.waits ho hwait
      have w4 := ws 4 (by simp)
      have w5 := ws 5 (by simp)
      have w1 := d5_1 w5
      have w0 := d1_0 w1
      have st0 : PaA wE wx g g3 q q.v n true 2 D w := by
        have hst := st
        rw [w4] at hst
        simp only [hl, Bool.false_eq_true, if_false, if_true, w5] at hst
        exact hst
      obtain ⟨A2, c2, hv2, _, _⟩ := (st0.second rfl).1.row
      refine o6.storeV1 ((show _ = a1.eval _ from by simp only [Act.eval, Array.getD_eq_getD_getElem?, so.out 5 (by decide)]).trans e5) ((f4 w4).trans hv2) st0.x5 ?_
      intro w' hb' ht'
      rw [← hv2] at hb'
      have st1 := st0.st5 h35 hg0 hV hb' ht'
      have st2 : PaA wE wx g g3 q q.v n ((more l 6) 4) (if (more l 6) 6 = true then 3 else (if (more l 6) 5 = true then 2 else (if (more l 6) 1 = true then 1 else 0))) (D) w' := by
        rw [show more l 6 4 = true from w4, if_pos (show more l 6 6 = true from rfl)]
        exact st1
      exact ⟨D, so, st2, f0, f1, f2, f3, f4, d5_1, (fun _ => w5), (fun _ => w4), d1_0⟩
  · intro l a w hall ⟨D, so, st, f0, f1, f2, f3, f4, d5_1, d6_5, d6_4, d1_0⟩
    rw [hn] at hall
    have hst : PaA wE wx g g3 q q.v n true 3 D w := by
      have hst := st
      rw [hall 4 (by decide)] at hst
      simp only [hall 6 (by decide), if_true] at hst
      exact hst
    exact hend D a w so hst
  · have h0 : PaA wE wx g g3 q q.v n false 0 ⟨zeroN, .slice none 0 0⟩ { wx with drawn := wx.drawn + 1 } := ⟨hl0.drew, Nat.le_refl _, b4, b5, b6, (fun e => by omega), (fun e => by cases e), hb3, (fun e => by omega)⟩
    exact ⟨⟨zeroN, .slice none 0 0⟩, SameOut.refl _ _, h0, (fun e => by cases e), (fun e => by cases e), (fun e => by cases e), (fun e => by cases e), (fun e => by cases e), (fun e => by cases e), (fun e => by cases e), (fun e => by cases e), (fun e => by cases e)⟩

end Go.Proofs.YtlnjhimbgckdcaaGreat
