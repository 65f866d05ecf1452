/-
  What the document's Do comes to, as a call: Put, and all kinds together.
-/
import Derived.Test.YtbjbimahmbapdaaDoorRfDo2
namespace Go.Proofs.YtbjbimahmbapdaaDoor
open Go.RowKit Go.Maps

section
variable (A : Option Addr) (n c : Nat) (z : Fl Held) (nm to : ByteArray) (Al : Option Addr) (nl cl : Nat) (l : List ByteArray) (w : World)

set_option maxRecDepth 100000 in
set_option maxHeartbeats 800000 in
theorem refDo3 (hx : RefRow w A n z) (hc : n ≤ c) (hn : n ≤ 65536) (hl : Row w Al nl l) (hnl : nl ≤ 65536) (hb : ∀ s ∈ l, s.size ≤ maxLen) :
    Calls Tryd.prog 12 #[.slice A n c, .agg #[.int .i64 3, .string nm, .string to, .slice Al nl cl]] w (GivesDo (putT (mapT (·.2) z) nm l) w) := by
  have HX := Lib.hid hx
  have HG := Lib.hid (fun (w1 : World) (h : Later w w1) => refGet_any A n c z nm w1 (hx.later h) hn)
  have HA := Lib.hid (fun (w1 : World) (h : Later w w1) => refAll_any Al nl cl l w1 (hl.later h) hnl hb)
  have same : Hid (∀ (w1 : World) (k : Int), Later w w1 → GivesDo (mapT (·.2) z, k) w (.returned (.tuple #[.slice A n c, .int .i64 k])) w1) := fun w1 k h => ⟨_, rfl, ⟨A, n, c, z, rfl, hc, hx.later h, rfl⟩, h⟩
  have hlb : Later w (w.alloc (.cells #[.int .i64 3, .string nm, .string to, .slice Al nl cl] 31)) := (Later.refl w).alloc _
  have HLB := Lib.hid hlb
  have HLL := Lib.hid hl
  clear hlb hx hl hb
  cases h1 : hasT z nm
  · have E : Hid (putT (mapT (·.2) z) nm l = (mapT (·.2) z, 20)) := by simp [Hid, putT, hasT_map, h1]
    rw [E.out]
    rw [h1] at HG
    clear E h1
    go_enter Tryd.func12, Tryd.ntmps12
    go_wp2_with fail
    refine (HG.out _ HLB.out).mono ?_
    rintro e w1 ⟨rfl, rfl⟩
    generalize got (getT z nm) = gv
    go_wp2
    go_ret2
    exact same.out _ _ HLB.out
  · rw [h1] at HG
    cases h2 : allB l
    · have E : Hid (putT (mapT (·.2) z) nm l = (mapT (·.2) z, 1)) := by simp [Hid, putT, hasT_map, h1, h2]
      rw [E.out]
      rw [h2] at HA
      clear E h1 h2
      go_enter Tryd.func12, Tryd.ntmps12
      go_wp2_with fail
      refine (HG.out _ HLB.out).mono ?_
      rintro e w1 ⟨rfl, rfl⟩
      generalize got (getT z nm) = gv
      go_wp2_with fail
      refine (HA.out _ HLB.out).mono ?_
      rintro e w1 ⟨rfl, rfl⟩
      go_wp2
      go_ret2
      exact same.out _ _ HLB.out
    · have E : Hid (putT (mapT (·.2) z) nm l = (withT (mapT (·.2) z) nm l, 0)) := by simp [Hid, putT, hasT_map, h1, h2]
      rw [E.out]
      rw [h2] at HA
      obtain ⟨i0, hi, hz0, hz1, hz2⟩ := info_parts Tryd.textInfo
      have cb1 : (w.alloc (.cells #[.int .i64 3, .string nm, .string to, .slice Al nl cl] 31)).cell? ⟨w.heap.size, 1, none⟩ = some (.string nm) := by simp
      have cb2 : (w.alloc (.cells #[.int .i64 3, .string nm, .string to, .slice Al nl cl] 31)).cell? ⟨w.heap.size, 3, none⟩ = some (.slice Al nl cl) := by simp
      have CB := Lib.hid (And.intro cb1 cb2)
      clear E h1 h2 cb1 cb2
      go_enter Tryd.func12, Tryd.ntmps12
      go_wp2_with fail
      refine (HG.out _ HLB.out).mono ?_
      rintro e w1 ⟨rfl, rfl⟩
      generalize got (getT z nm) = gv
      go_wp2_with fail
      refine (HA.out _ HLB.out).mono ?_
      rintro e w1 ⟨rfl, rfl⟩
      generalize hbx : w.alloc (.cells #[.int .i64 3, .string nm, .string to, .slice Al nl cl] 31) = wb at HLB CB ⊢
      have HBX := Lib.hid hbx; clear hbx
      obtain ⟨cb1, cb2⟩ := CB.out
      have ne1 := World.new_ne wb _ cb1
      have ne2 := World.new_ne wb _ cb2
      go_wp2_with fail
      go_region_held3 (fun w' => w'.cell? ⟨w.heap.size, 1, none⟩ = some (.string nm) ∧ w'.cell? ⟨w.heap.size, 3, none⟩ = some (.slice Al nl cl)) (go_keep)
        (first
          | (go_at_call 33; refine (refWith_any A n c z nm A2 _ c2 l w2 (HX.out.later (HLB.out.trans HL2.out)) HR2.out hn).mono ?_; rintro e w3 ⟨A3, n3, c3, rfl, hc3, hr3, hl3⟩; have HL3 := Lib.hid hl3; have HR3 := Lib.hid hr3; have cd1 := HL3.out.cell cc1; have cd2 := HL3.out.cell cc2; clear hr3 hl3)
          | (refine step_append_row (w0 := wb) rfl _ _ 29 rfl i0 Tryd.underlying29 hi hz0 hz1 hz2 ((Own.empty (Later.refl wb)).drew) rfl Al nl cl l rfl (HLL.out.later (HLB.out.trans (((Later.refl wb).alloc _).drew))) (by simp; omega) ?_; intro v2 w2 hown2 hg2; have HL2 := Lib.hid hown2.later; obtain ⟨A2, c2, rfl, hcc2, hr2⟩ := hown2.row; have HR2 : Hid (Reads w2 (.slice A2 ([] ++ l).length c2) l) := ⟨A2, _, c2, rfl, hcc2, by simpa using hr2⟩; have cc1 := HL2.out.cell cb1; have cc2 := HL2.out.cell cb2; clear hown2 hg2 hr2))
      go_wp2
      go_ret2
      refine ⟨_, rfl, ⟨A3, n3, c3, _, rfl, hc3, HR3.out, ?_⟩, (HLB.out.trans HL2.out).trans HL3.out⟩
      rw [← withT_map (fun x : Held => x.2)]

end

/-- What is asked of a call that is handed in: its lines are there, and nothing is too long. -/
structure OpOk (w : World) (o : OpV) (Al : Option Addr) (nl : Nat) : Prop where
  row : Row w Al nl o.l
  most : nl ≤ 65536
  name : o.name.size ≤ maxLen
  to : o.to.size ≤ maxLen
  lines : ∀ s ∈ o.l, s.size ≤ maxLen
theorem OpOk.later {w w' : World} {o : OpV} {Al : Option Addr} {nl : Nat} (h : OpOk w o Al nl) (hl : Later w w') : OpOk w' o Al nl := ⟨h.row.later hl, h.most, h.name, h.to, h.lines⟩

/-- The value of a call. -/
def opVal (o : OpV) (Al : Option Addr) (nl cl : Nat) : Value := .agg #[.int .i64 o.kind, .string o.name, .string o.to, .slice Al nl cl]

theorem refDo_any (v : Value) (t : Tr) (o : OpV) (Al : Option Addr) (nl cl : Nat) (w : World) (ht : RefAt w v t) (ho : OpOk w o Al nl) (hl : t.length ≤ 65536) (hb : ∀ f ∈ t, f.2.length ≤ 65536) :
    Calls Tryd.prog 12 #[v, opVal o Al nl cl] w (GivesDo (doT t o) w) := by
  obtain ⟨A, n, c, z, rfl, hc, hr, rfl⟩ := ht
  have hn : n ≤ 65536 := by rw [mapT_length, hr.len] at hl; exact hl
  obtain ⟨kind, nm, to, l⟩ := o
  by_cases h0 : kind = 0
  · subst h0
    exact refDo0 A n c z nm to Al nl cl w hr hc hn ho.name
  by_cases h1 : kind = 1
  · subst h1
    exact refDo1 A n c z nm to Al nl cl w hr hc hn fun f hf => hb (f.1, f.2.2) (by simp only [mapT, List.mem_map]; exact ⟨_, hf, rfl⟩)
  by_cases h2 : kind = 2
  · subst h2
    exact refDo2 A n c z nm to Al nl cl w hr hc hn ho.to
  by_cases h3 : kind = 3
  · subst h3
    exact refDo3 A n c z nm to Al nl cl l w hr hc hn ho.row ho.most ho.lines
  have e : doT (mapT (·.2) z) ⟨kind, nm, to, l⟩ = (mapT (·.2) z, 0) := by simp [doT, h0, h1, h2, h3]
  rw [e]
  exact refDoElse A n c z nm to Al nl cl w kind h0 h1 h2 h3 hr hc hn

end Go.Proofs.YtbjbimahmbapdaaDoor
