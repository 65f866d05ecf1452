/-
  What tree's Put comes to, as a call, where it is taken: the new row lies behind all that was there.
-/
import Derived.Test.YtbjbimahmbapdaaDoorTrPut
namespace Go.Proofs.YtbjbimahmbapdaaDoor
open Go.RowKit Go.Maps

/-- The slice does not lie in block g. -/
def Off (g : Nat) (v : Value) : Prop := v.ownBlock ≠ some g

theorem Row.off {w w' : World} {g n c : Nat} {A : Option Addr} {l : List ByteArray} (h : Row w A n l) (hg : Turned g w w') (ho : l ≠ [] → Off g (.slice A n c)) : Row w' A n l :=
  ⟨h.1, fun hn => by
    obtain ⟨b, o, rfl, hc⟩ := h.2 hn
    have hl : l ≠ [] := by
      rintro rfl
      have := h.1
      simp at this; omega
    refine ⟨b, o, rfl, fun j s hs => hg.cell (hc j s hs) ?_⟩
    intro e
    exact ho hl (by simp only [Value.ownBlock]; rw [show b = g from e])⟩
theorem FA.off {w w' : World} {B g : Nat} {z : Fl Held} (h : FA w B z) (hg : Turned g w w') (hB : B ≠ g) (ho : ∀ f ∈ z, f.2.2 ≠ [] → Off g f.2.1) : FA w' B z :=
  ⟨h.own.kept hg (by simpa using hB), h.rise, fun f hf => by
    obtain ⟨A, n, c, e, h1, h2⟩ := h.reads f hf
    exact ⟨A, n, c, e, h1, h2.off (c := c) hg (by rw [← e]; exact ho f hf)⟩⟩

/-- The tree with the file's new lines, whose row lies behind all that was there at w. -/
def PutOk (p B : Nat) (z : Fl Held) (nm : ByteArray) (l : List ByteArray) (w : World) (e : Ending) (w' : World) : Prop :=
  ∃ v, e = .returned (.int .i64 0) ∧ w'.cell? ⟨p, 0, none⟩ = some (.map (some B)) ∧ FA w' B (withT z nm (v, l)) ∧ (∀ k, v.ownBlock = some k → w.heap.size ≤ k) ∧ Turned B w w'

set_option maxRecDepth 100000 in
set_option maxHeartbeats 800000 in
theorem put_ok (p B : Nat) (nm : ByteArray) (A : Option Addr) (n c : Nat) (l : List ByteArray) (z : Fl Held) (w : World) (hc : w.cell? ⟨p, 0, none⟩ = some (.map (some B))) (hz : FA w B z) (hx : Row w A n l) (hs : nm.size ≤ maxLen) (hl : z.length ≤ 65536) (hn : n ≤ 65536) (hb : ∀ s ∈ l, s.size ≤ maxLen)
    (h1 : hasT z nm = true) (h2 : allB l = true) :
    Calls Tryd.prog 32 #[.pointer (some ⟨p, 0, none⟩), .string nm, .slice A n c] w (PutOk p B z nm l w) := by
  have ht : TreeAt w p B (mapT (·.2) z) := ⟨hc, z, hz, rfl⟩
  have hne := ht.ne
  have hh := has_any p B nm _ w ht hs
  have ha := all_any A n c l w hx hn hb
  rw [hasT_map, h1] at hh
  rw [h2] at ha
  have HH := Lib.hid hh; have HA := Lib.hid ha; have HX := Lib.hid hx
  have HZ := Lib.hid hz
  have hzl : Hid (z.length < maxLen) := by simp only [Hid, maxLen]; omega
  have HS := Lib.hid hs
  clear hs hh ha h1 h2 hx hb hl hz ht
  go_enter Tryd.func32, Tryd.ntmps32
  go_wp2_with (first
    | (go_at_call 47; refine HH.out.mono ?_; rintro e w' ⟨rfl, rfl⟩)
    | (go_at_call 30; refine HA.out.mono ?_; rintro e w' ⟨rfl, rfl⟩))
  go_region_held3 (fun w' => w'.cell? ⟨p, 0, none⟩ = some (.map (some B))) (go_keep)
    (first
      | (go_at_call 43; refine (clone_any A n c l _ (HX.out.later (by first | exact Later.refl _ | exact (Later.refl _).drew | exact (Later.refl _).drewN _)) hn).mono ?_; rintro e w1 ⟨v1, rfl, hown⟩; have HL : Hid (Later w w1) := Later.trans (by first | exact Later.refl _ | exact (Later.refl _).drew | exact (Later.refl _).drewN _) hown.later; have hc1 := HL.out.cell hc; have HBK : Hid (∀ k, v1.ownBlock = some k → w.heap.size ≤ k) := (fun k hk => hown.block k hk); obtain ⟨A1, c1, rfl, hcc, hr1⟩ := hown.row; have HR := Lib.hid hr1; obtain ⟨w2, hrun2, hown2, hturn2⟩ := (HZ.out.later HL.out).own.store keyed9 Tryd.underlying65 hzl.out (key9 HS.out) (raw_mk A1 l.length c1); have HO2 := Lib.hid hown2; have HU2 := Lib.hid hturn2; have hc2 := (Turned.of_map hturn2).cell hc1 hne; clear hown hr1 hown2 hturn2))
  go_wp2
  go_ret
  have hg := Turned.of_map HU2.out
  exact ⟨_, rfl, hc2, (HZ.out.later HL.out).put HO2.out HU2.out ⟨A1, _, c1, rfl, hcc, HR.out⟩, HBK.out, (HL.out.turned B).trans hg⟩

end Go.Proofs.YtbjbimahmbapdaaDoor
