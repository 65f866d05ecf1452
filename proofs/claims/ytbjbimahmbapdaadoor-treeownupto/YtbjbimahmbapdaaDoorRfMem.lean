/-
  The document's trees in memory: rows of files, each a name and a row of lines; Get.
-/
import Derived.Test.YtbjbimahmbapdaaDoorChecked
import Derived.Test.YtbjbimahmbapdaaDoorRowK
import Derived.Test.YtbjbimahmbapdaaDoorTrMem
import Derived.Test.YtbjbimahmbapdaaDoorWords
import Derived.Deep.LoopGhost
import Derived.Lib.Hide
namespace Go.Proofs.YtbjbimahmbapdaaDoor
open Go.RowKit Go.Maps

def cellsF (z : Fl Held) : List (List Value) := z.map fun f => [.string f.1, f.2.1]
theorem cellsF_length (z : Fl Held) : (cellsF z).length = z.length := by simp [cellsF]

/-- The slice reads as these files. -/
structure RefRow (w : World) (A : Option Addr) (n : Nat) (z : Fl Held) : Prop where
  row : RowK 2 w A n (cellsF z)
  reads : ∀ f ∈ z, Reads w f.2.1 f.2.2

/-- The value is a tree of the document's. -/
def RefAt (w : World) (v : Value) (t : Tr) : Prop := ∃ A n c z, v = .slice A n c ∧ n ≤ c ∧ RefRow w A n z ∧ mapT (·.2) z = t

section
variable {w w' : World} {A : Option Addr} {n : Nat} {z : Fl Held} {v : Value} {t : Tr}
theorem RefRow.len (h : RefRow w A n z) : z.length = n := by rw [← cellsF_length]; exact h.row.len
theorem RefRow.later (h : RefRow w A n z) (hl : Later w w') : RefRow w' A n z := ⟨h.row.later hl, fun f hf => (h.reads f hf).later hl⟩
theorem RefAt.later (h : RefAt w v t) (hl : Later w w') : RefAt w' v t := by
  obtain ⟨A, n, c, z, e, hc, hr, ht⟩ := h; exact ⟨A, n, c, z, e, hc, hr.later hl, ht⟩
theorem RefRow.none : RefRow w A 0 [] := ⟨RowK.none, fun f hf => by cases hf⟩
theorem RefAt.nil (w : World) : RefAt w (.slice none 0 0) [] := ⟨Option.none, 0, 0, [], rfl, Nat.le_refl _, RefRow.none, rfl⟩
theorem RowK.turned {k B : Nat} {css : List (List Value)} (h : RowK k w A n css) (hg : Turned B w w') {es : Array MapEntry} {c : Nat} (hm : w.heap[B]? = some (.map es c)) : RowK k w' A n css :=
  ⟨h.1, h.2.1, fun hn => by
    obtain ⟨b, o, e, hc⟩ := h.2.2 hn
    exact ⟨b, o, e, fun j i cs v h1 h2 => hg.cell (hc j i cs v h1 h2) (not_map hm (hc j i cs v h1 h2))⟩⟩
/-- A map has turned: the document's tree stands. -/
theorem RefAt.turned {B : Nat} (h : RefAt w v t) (hg : Turned B w w') {es : Array MapEntry} {c : Nat} (hm : w.heap[B]? = some (.map es c)) : RefAt w' v t := by
  obtain ⟨A, n, c, z, e, hc, hr, ht⟩ := h
  exact ⟨A, n, c, z, e, hc, ⟨hr.row.turned hg hm, fun f hf => (hr.reads f hf).turned hg hm⟩, ht⟩
theorem RefRow.get (h : RefRow w A n z) {j : Nat} (hj : j < n) : ∃ b o f, A = some ⟨b, o, .none⟩ ∧ z[j]? = some f ∧ w.cell? ⟨b, o + j * 2, .none⟩ = some (.string f.1) ∧ w.cell? ⟨b, o + j * 2 + 1, .none⟩ = some f.2.1 := by
  obtain ⟨b, o, e, cs, hcs, _, hc⟩ := h.row.get hj
  have hl : j < z.length := by rw [h.len]; exact hj
  have hz := List.getElem?_eq_getElem hl
  simp only [cellsF, List.getElem?_map, hz, Option.map_some, Option.some.injEq] at hcs
  subst hcs
  exact ⟨b, o, z[j], e, hz, hc 0 _ rfl, hc 1 _ rfl⟩
end

section
variable {α : Type}
theorem get_at {t : Fl α} {n : ByteArray} {k : Nat} {f : ByteArray × α} (hk : t[k]? = some f) (hf : f.1 = n) (hno : ∀ (j : Nat) g, j < k → t[j]? = some g → g.1 ≠ n) : getT t n = some f.2 := by
  unfold getT
  have : t.find? (fun f => decide (f.1 = n)) = some f := by
    obtain ⟨hlt, rfl⟩ := List.getElem?_eq_some_iff.1 hk
    rw [List.find?_eq_some_iff_getElem]
    refine ⟨by simpa using hf, k, hlt, rfl, fun j hj => ?_⟩
    have := hno j _ hj (List.getElem?_eq_getElem (by omega))
    simpa using this
  rw [this]; rfl
theorem get_none_at {t : Fl α} {n : ByteArray} (hno : ∀ (j : Nat) g, t[j]? = some g → g.1 ≠ n) : getT t n = none := getT_none.2 fun f hf => by
  obtain ⟨j, hj⟩ := List.getElem?_of_mem hf
  exact hno j f hj
end

/-- What Get tells of a row of files. -/
def got (o : Option Held) : Value := match o with | some x => x.1 | none => .slice none 0 0

set_option maxHeartbeats 400000 in
theorem refGet_any (A : Option Addr) (n c : Nat) (z : Fl Held) (nm : ByteArray) (w : World) (hx : RefRow w A n z) (hn : n ≤ 65536) :
    Calls Tryd.prog 21 #[.slice A n c, .string nm] w fun e w' => e = .returned (.tuple #[got (getT z nm), .bool (hasT z nm)]) ∧ w = w' := by
  have HX := Lib.hid hx; clear hx
  go_enter Tryd.func21, Tryd.ntmps21
  go_wp2
  go_loop [6] (fun i => ∃ k : Nat, k ≤ n ∧ i = .int .i64 k ∧ Hid (∀ (j : Nat) g, j < k → z[j]? = some g → g.1 ≠ nm)) (fun i => n - (intOf i).toNat)
  case atStart => exact ⟨0, Nat.zero_le _, rfl, fun j g hj => absurd hj (Nat.not_lt_zero _)⟩
  case round =>
    obtain ⟨k, hk, rfl, hno⟩ := hrel
    by_cases hlt : k < n
    · obtain ⟨b, o, f, rfl, hz, g1, g2⟩ := HX.out.get hlt
      by_cases he : f.1 = nm
      · have hg := get_at hz he hno.out
        have E : Hid (got (getT z nm) = f.2.1 ∧ hasT z nm = true) := ⟨by rw [hg]; rfl, getT_has hg⟩
        rw [he] at g1
        generalize f.2.1 = v at g2 E
        clear hg hno hz he
        go_wp2
        go_ret2
        exact ⟨by rw [E.out.1, E.out.2]; rfl, rfl⟩
      · have hb := text_ne he
        have HN : Hid (∀ (j : Nat) g, j < k + 1 → z[j]? = some g → g.1 ≠ nm) := fun j g hj hg => by
          by_cases e : j = k
          · subst e; rw [hz] at hg; cases hg; exact he
          · exact hno.out j g (by omega) hg
        generalize f.1 = fn at g1 hb
        clear hno hz he
        go_wp2
        exact ⟨⟨k + 1, by omega, by go_num, HN⟩, by simp [intOf]; omega⟩
    · have hg : getT z nm = none := get_none_at fun j g hj => hno.out j g (by have := (List.getElem?_eq_some_iff.1 hj).1; rw [HX.out.len] at this; omega) hj
      have E : Hid (got (getT z nm) = .slice none 0 0 ∧ hasT z nm = false) := ⟨by rw [hg]; rfl, by unfold hasT; rw [hg]; rfl⟩
      clear hg hno
      go_wp2
      go_ret2
      exact ⟨by rw [E.out.1, E.out.2]; rfl, rfl⟩

end Go.Proofs.YtbjbimahmbapdaaDoor
