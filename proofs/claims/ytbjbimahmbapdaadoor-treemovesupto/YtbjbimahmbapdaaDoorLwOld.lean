/-
  What the statements' own Old comes to, as a call: a tree, as the document has it.
-/
import Derived.Test.YtbjbimahmbapdaaDoorLwMade
namespace Go.Proofs.YtbjbimahmbapdaaDoor
open Go.RowKit Go.Maps

theorem Own.on {e : TypeId} {w0 w w' : World} {v : Value} {ss : List ByteArray} (h : Own e w0 w v ss) (hl : Later w w') : Own e w0 w' v ss :=
  ⟨h.1.kept (row := none) ⟨hl.os, hl.tape, hl.output, hl.size, fun i hi _ => hl.block i hi⟩ (by cases v.ownBlock <;> simp), h.2.trans hl⟩
theorem Own.base {e : TypeId} {w0 w1 w : World} {v : Value} {ss : List ByteArray} (h : Own e w1 w v ss) (hl : Later w0 w1) : Own e w0 w v ss :=
  ⟨Proofs.ownsRow_base_a h.1 hl.le, hl.trans h.2⟩
/-- A row of files has grown: the rows of lines stand. -/
theorem Own.grown {w0 w w' : World} {u v : Value} {ss : List ByteArray} {css : List (List Value)} (h : Own 9 w0 w u ss) (hk : OwnK 44 2 w0 w v css) (hg : w.grownBy w' v.ownBlock) (hl : Later w0 w') : Own 9 w0 w' u ss := by
  refine ⟨h.1.kept hg ?_, hl⟩
  rcases h.1.2 with ⟨rfl, _⟩ | ⟨g, cap, cur, rfl, _, hh, _⟩
  · exact .inl rfl
  · right
    intro e
    rcases hk.1.2 with ⟨rfl, _⟩ | ⟨g', cap', cur', rfl, _, hh', _⟩
    · simp [Value.ownBlock] at e
    · simp only [Value.ownBlock, Option.some.injEq] at e
      subst e
      rw [hh] at hh'
      simp at hh'
theorem Own.reads {w0 w : World} {v : Value} {ss : List ByteArray} (h : Own 9 w0 w v ss) : Reads w v ss := by
  obtain ⟨A, c, hv, hc, hr⟩ := h.row
  exact ⟨A, _, c, hv, hc, hr⟩

set_option maxRecDepth 100000 in
set_option maxHeartbeats 800000 in
theorem old_any (p B : Nat) (t : Tr) (w : World) (ht : TreeAt w p B t) (hs : Small t) :
    Calls Tryd.prog 15 #[.pointer (some ⟨p, 0, none⟩)] w fun e w' => ∃ v, e = .returned v ∧ RefAt w' v t ∧ Later w w' := by
  have hmany := hs.many
  have HN := Lib.hid (names_any p B t w ht (by omega))
  have HT := Lib.hid ht; have HS := Lib.hid hs
  obtain ⟨i0, hi, hz0, hz1, hz2⟩ := info_parts Tryd.fileInfo
  clear ht hs
  go_enter Tryd.func15, Tryd.ntmps15
  go_wp2_with fail
  refine HN.out.mono ?_
  rintro e w1 ⟨v1, rfl, hown1⟩
  obtain ⟨A1, c1, rfl, hcc1, hr1⟩ := hown1.row
  have hlen : (namesT t).length = t.length := by simp [namesT]
  rw [hlen] at hcc1 hr1 ⊢
  have HR1 := Lib.hid hr1; have HL1 := Lib.hid hown1.later
  clear hown1 hr1 hlen
  go_wp2
  go_loopg [3, 11] (t.length + 1) (fun g s3 s11 wr => ∃ (k : Nat) (v : Value) (z : Fl Held), k ≤ t.length ∧ t.length - k ≤ g ∧ s11 = .int .i64 k ∧ s3 = v ∧ z.length ≤ k ∧ Hid (mapT (·.2) z = t.take k) ∧ Hid (OwnK 44 2 w1 wr v (cellsF z)) ∧ Hid (∀ f ∈ z, Own 9 w1 wr f.2.1 f.2.2))
  case atStart => exact ⟨0, _, [], Nat.zero_le _, by omega, rfl, rfl, Nat.le_refl _, by simp [Hid, mapT], OwnK.nil (Later.refl w1), fun f hf => by cases hf⟩
  case round =>
    obtain ⟨k, v, z, hk, hg, rfl, hv, hzl, hzt, hown, hall⟩ := hrel
    obtain rfl := hv.symm
    clear hv
    by_cases hlt : k < t.length
    · have hf : t[k]? = some t[k] := List.getElem?_eq_getElem hlt
      generalize t[k] = f at hf
      have hmem := List.mem_of_getElem? hf
      obtain ⟨b1, o1, rfl, g1⟩ := (HR1.out.later hown.out.later).get hlt
      have hnm : (namesT t).getD k ByteArray.empty = f.1 := by simp [namesT, List.getD, hf]
      rw [hnm] at g1
      have hget : getT t f.1 = some f.2 := (getT_iff HT.out.files.rise).2 hmem
      have HG := Lib.hid (get_any p B f.1 t wr (HT.out.later (HL1.out.trans hown.out.later)) (HS.out.names f hmem) HS.out.lines)
      rw [hget] at HG
      have hnext : t.take (k + 1) = t.take k ++ [f] := by
        obtain ⟨hk', rfl⟩ := List.getElem?_eq_some_iff.1 hf
        exact List.take_succ_eq_append_getElem hk'
      have HNX := Lib.hid hnext
      have HF : Hid (f = (f.1, f.2)) := rfl
      generalize f.1 = fn at g1 HG HF
      generalize f.2 = fl at HG HF
      clear hf hmem hnm hget hnext
      go_wp2_with fail
      refine HG.out.mono ?_
      rintro e w2 ⟨v2, rfl, hown2⟩
      obtain ⟨A2, c2, hv2, hcc2, hr2⟩ := hown2.row
      subst hv2
      have hb2 := hown2.base hown.out.later
      have HB2 := Lib.hid hb2
      have HL2 := Lib.hid hown2.later
      have hown' := hown.out.on hown2.later
      have HOW := Lib.hid hown'
      clear hown2 hr2 hb2 hown'
      simp only [Option.getD_some, Option.isSome_some] at HB2 hcc2 ⊢
      go_wp2_with (at_builtin; refine wpList_append_rowK rfl _ _ 28 rfl i0 _ 40 Tryd.underlying28 hi hz0 hz1 hz2 rfl (by decide) (HOW.out.alloc _) rfl _ _ _ _ rfl (RowK.two _ _ _ _) (file_one _ _ _ _) (by rw [cellsF_length]; omega) (by omega) ?_; intro v4 w4 hown4 hg4; have HO4 := Lib.hid hown4; have HG4 := Lib.hid hg4; clear hown4 hg4)
      go_roundg (t.length - (k + 1))
      case measure => omega
      case rel =>
        refine ⟨k + 1, v4, z ++ [(fn, (.slice A2 fl.length c2, fl))], by omega, Nat.le_refl _, by go_num, rfl, by simp; omega, ?_, ?_, ?_⟩
        · show _ = _
          rw [HNX.out, ← hzt.out, HF.out]; simp [mapT]
        · have := HO4.out
          simpa [cellsF, Hid] using this
        · intro f hf
          rcases List.mem_append.1 hf with hf | hf
          · exact (((hall.out f hf).on HL2.out).alloc _).grown (HOW.out.alloc _) HG4.out HO4.out.later
          · simp at hf; subst hf
            exact (HB2.out.alloc _).grown (HOW.out.alloc _) HG4.out HO4.out.later
    · have e : t.take k = t := List.take_of_length_le (by omega)
      rw [e] at hzt
      clear e
      go_wp2
      go_ret
      obtain ⟨A9, n9, c9, h1, h2, h3, h4⟩ := gives_own hown.out fun f hf => (hall.out f hf).reads
      exact ⟨_, h1, ⟨A9, n9, c9, z, rfl, h2, h3, hzt.out⟩, HL1.out.trans h4⟩

end Go.Proofs.YtbjbimahmbapdaaDoor
