import Derived.Test.YtlnjhimbgckdcaaGreatPk7
import Derived.Test.YtlnjhimbgckdcaaGreatPk9
import Derived.Test.YtlnjhimbgckdcaaGreatPk6
import Derived.Test.YtlnjhimbgckdcaaGreatPk31
import Derived.Deep.LoopGhost
import Derived.Deep.QuietTactic
import Derived.BigQuiet
import Derived.Lib.Hide
import Derived.Lib.SlicesCompact
import Derived.Lib.Strings
import Derived.Test.YtlnjhimbgckdcaaGreatPk15
import Derived.Test.YtlnjhimbgckdcaaGreatPk8
import Derived.Test.YtlnjhimbgckdcaaGreatPk11
import Derived.Test.YtlnjhimbgckdcaaGreatPk2
import Derived.Test.YtlnjhimbgckdcaaGreatPk5
import Derived.Test.YtlnjhimbgckdcaaGreatPk18
import Derived.Test.YtlnjhimbgckdcaaGreatPk28
import Derived.Test.YtlnjhimbgckdcaaGreatPk14
import Derived.Shelf.Slices.CompactS
import Derived.Shelf.Strings.Prefix
import Derived.Test.YtlnjhimbgckdcaaGreatProg
import Derived.Test.YtlnjhimbgckdcaaGreatPk36
import Derived.Test.YtlnjhimbgckdcaaGreatPk13
import Derived.Test.YtlnjhimbgckdcaaGreatPk16

/-
  Two rows, one behind the other, as one row whose neighbours are swapped in place. Nothing of any program.
-/
namespace Go.Proofs.YtlnjhimbgckdcaaGreat
open Go.RowKit

def RowIX (l m : List Pr) (i : Nat) (vs : List Pr) : Prop := ∃ a b, swapS (l.drop i) m = some (a, b) /\ vs = l.take i ++ (a ++ b)
def RowJX (l m : List Pr) (i k : Nat) (vs : List Pr) : Prop := ∃ a b a1 p p', swapS (l.drop (i + 1)) m = some (a, b) /\ l[i]? = some p /\ swap1 p (a.take k) = some (a1, p') /\ vs = l.take i ++ (a1 ++ (p' :: (a.drop k ++ b)))
section
variable {l m vs : List Pr} {i k : Nat}
theorem RowIX.start (l m : List Pr) : RowIX l m l.length (l ++ m) := ⟨m, [], by simp [swapS], by simp⟩
theorem RowIX.begin (h : RowIX l m (i + 1) vs) (hi : i < l.length) : RowJX l m i 0 vs := by
  obtain ⟨a, b, h1, h2⟩ := h
  refine ⟨a, b, [], l[i], l[i], h1, List.getElem?_eq_getElem hi, by simp [swap1], ?_⟩
  rw [h2, List.take_succ_eq_append_getElem hi, List.drop_zero]
  simp only [List.append_assoc, List.cons_append, List.nil_append]
theorem RowJX.done (h : RowJX l m i m.length vs) : RowIX l m i vs := by
  obtain ⟨a, b, a1, p, p', h1, h2, h3, h4⟩ := h
  have hl := (swapS_length h1).1
  rw [List.take_of_length_le (by omega)] at h3
  rw [List.drop_eq_nil_of_le (by omega), List.nil_append] at h4
  exact ⟨a1, p' :: b, swapS_step h1 h2 h3, h4⟩
theorem RowIX.whole (h : RowIX l m 0 vs) : ∃ a b, swapS l m = some (a, b) /\ vs = a ++ b := by
  obtain ⟨a, b, h1, h2⟩ := h
  exact ⟨a, b, h1, by simpa using h2⟩
theorem RowJX.step (h : RowJX l m i k vs) (hk : k < m.length) : ∃ p y, vs[i + k]? = some p /\ vs[i + k + 1]? = some y /\ (swapP p y = none -> swapS l m = none) /\ (∀ y' p', swapP p y = some (y', p') -> RowJX l m i (k + 1) ((vs.set (i + k) y').set (i + k + 1) p')) := by
  obtain ⟨a, b, a1, p, p', h1, h2, h3, h4⟩ := h
  have hl := (swapS_length h1).1
  have hka : k < a.length := by omega
  have hi := (List.getElem?_eq_some_iff.1 h2).1
  have hl1 : a1.length = k := by
    have := swap1_length h3
    simp only [List.length_take] at this
    omega
  have hti : (l.take i).length = i := by rw [List.length_take]; omega
  have hy := List.getElem?_eq_getElem hka
  have hd : a.drop k = a[k] :: a.drop (k + 1) := List.drop_eq_getElem_cons hka
  have hv : vs = (l.take i ++ a1) ++ (p' :: a[k] :: (a.drop (k + 1) ++ b)) := by rw [h4, hd]; simp only [List.append_assoc, List.cons_append]
  have hlen : (l.take i ++ a1).length = i + k := by rw [List.length_append, hti, hl1]
  refine ⟨p', a[k], ?_, ?_, fun hn => ?_, fun y' p'' hs => ?_⟩
  · rw [hv, List.getElem?_append_right (by omega), hlen, Nat.sub_self]; rfl
  · rw [hv, List.getElem?_append_right (by omega), hlen, show i + k + 1 - (i + k) = 1 from by omega]; rfl
  · exact swapS_stop h1 h2 (swap1_stop h3 hy hn)
  · refine ⟨a, b, a1 ++ [y'], p, p'', h1, h2, swap1_step h3 hy hs, ?_⟩
    rw [hv, List.set_append_right _ _ (by omega), hlen, Nat.sub_self, List.set_cons_zero, List.set_append_right _ _ (by omega), hlen, show i + k + 1 - (i + k) = 1 from by omega, List.set_cons_succ, List.set_cons_zero]
    simp
theorem RowJX.length (h : RowJX l m i k vs) (hk : k <= m.length) : vs.length = l.length + m.length := by
  obtain ⟨a, b, a1, p, p', h1, h2, h3, h4⟩ := h
  have h5 := swapS_length h1
  have hi := (List.getElem?_eq_some_iff.1 h2).1
  have h6 := swap1_length h3
  simp only [List.length_take, List.length_drop] at h5 h6
  rw [h4]
  simp only [List.length_append, List.length_cons, List.length_take, List.length_drop]
  omega
theorem RowIX.length (h : RowIX l m i vs) (hi : i <= l.length) : vs.length = l.length + m.length := by
  obtain ⟨a, b, h1, h2⟩ := h
  have h5 := swapS_length h1
  simp only [List.length_drop] at h5
  rw [h2]
  simp only [List.length_append, List.length_take]
  omega
end

end Go.Proofs.YtlnjhimbgckdcaaGreat

/-
  What seq's Invert comes to, as a call.
-/
namespace Go.Proofs.YtlnjhimbgckdcaaGreat
open Go.RowKit Go.Maps

attribute [local go_sem] Oper.semAt_some

def InvI (w : World) (A : Option Addr) (n c : Nat) (xs : List PrC) (k : Nat) (V : World) : Prop :=
  ∃ v ys, BoxAt V w.heap.size #[v] 28 /\ BoxAt V (w.heap.size + 1) #[.slice A n c] 28 /\ OwnPs 58 w V v ys /\ valsP ys = invertS ((valsP xs).drop (n - k)) /\ (∀ y ∈ ys, Fresh w y) /\ (∀ y ∈ ys, Away w.heap.size y /\ Away (w.heap.size + 1) y) /\ ys.length = k
theorem InvI.book {w : World} {A : Option Addr} {n c : Nat} {xs : List PrC} {k B : Nat} (hB : w.heap.size <= B) : Books B (InvI w A n c xs k) := by
  rintro V l o o' ⟨v, ys, h1, h2, h3, h4, h5, h6, h7⟩ hl hh ho
  exact ⟨v, ys, h1.shut hh ho, h2.shut hh ho, h3.shut (by omega) hh ho, h4, h5, h6, h7⟩
theorem InvI.on {w V V' : World} {A : Option Addr} {n c : Nat} {xs : List PrC} {k : Nat} (h : InvI w A n c xs k V) (hl : Later V V') : InvI w A n c xs k V' := by
  obtain ⟨v, ys, h1, h2, h3, h4, h5, h6, h7⟩ := h
  exact ⟨v, ys, h1.later hl, h2.later hl, h3.on hl, h4, h5, h6, h7⟩

end Go.Proofs.YtlnjhimbgckdcaaGreat

/-
  The names of a row, each once, rising. Nothing of any program.
-/
namespace Go.Proofs.YtlnjhimbgckdcaaGreat
open Go.RowKit

structure IsNames (l : List Pr) (r : List ByteArray) : Prop where
  rise : r.Pairwise fun a b => ltN a b = true
  mem : ∀ n, n ∈ r ↔ ∃ p ∈ l, n ∈ namesP p
theorem IsNames.one {l : List Pr} {r s : List ByteArray} (h : IsNames l r) (k : IsNames l s) : r = s := by
  have key : (r.map fun n => (n, ())) = s.map fun n => (n, ()) := by
    refine rising_ext (List.pairwise_map.2 h.rise) (List.pairwise_map.2 k.rise) fun f => ?_
    simp only [List.mem_map]
    constructor
    · rintro ⟨n, hn, rfl⟩; exact ⟨n, (k.mem n).2 ((h.mem n).1 hn), rfl⟩
    · rintro ⟨n, hn, rfl⟩; exact ⟨n, (h.mem n).2 ((k.mem n).1 hn), rfl⟩
  have := congrArg (List.map Prod.fst) key
  simpa [List.map_map, Function.comp_def] using this

end Go.Proofs.YtlnjhimbgckdcaaGreat

/-
  What seq's Split comes to, as a call, where what it asks by changes nothing.
-/
namespace Go.Proofs.YtlnjhimbgckdcaaGreat
open Go.RowKit Go.Maps

structure SpI (w : World) (ls : List Pr) (n : Nat) (Ac : Option Addr) (cc : Nat) (bs : Nat -> Bool) (k : Nat) (V : World) (v u : Value) (ys zs cs : List PrC) : Prop where
  ov : OwnPs 58 w V v ys
  ou : OwnPs 58 w V u zs
  oc : OwnPs 58 w V (.slice Ac n cc) cs
  vu : Apart2 v u ys zs
  vc : Apart2 v (.slice Ac n cc) ys cs
  uc : Apart2 u (.slice Ac n cc) zs cs
  cv : valsP cs = ls
  told : splitS bs 0 ([], []) (ls.take k) = (valsP ys, valsP zs)
theorem Apart2.nil {u : Value} {zs : List PrC} : Apart2 (.slice none 0 0) u [] zs := ⟨(fun g h => by cases h), (fun y hy => by cases hy), (fun z _ g h => by cases h)⟩
section
variable {w V V' : World} {ls : List Pr} {n : Nat} {Ac : Option Addr} {cc : Nat} {bs : Nat -> Bool} {k : Nat} {v u : Value} {ys zs cs : List PrC}
theorem SpI.on (h : SpI w ls n Ac cc bs k V v u ys zs cs) (hl : Later V V') : SpI w ls n Ac cc bs k V' v u ys zs cs := ⟨h.ov.on hl, h.ou.on hl, h.oc.on hl, h.vu, h.vc, h.uc, h.cv, h.told⟩
theorem grown_parts {w0 w : World} {v v' : Value} {xs ys zs : List PrC} {e : TypeId} (hb : v'.ownBlock = v.ownBlock ∨ v'.ownBlock = some w.heap.size) {u : Value} (ou : OwnPs e w0 w u zs) (ha : Apart2 u v zs xs) (hu : ∀ y ∈ ys, ∀ g, u.ownBlock = some g -> Away g y) : Apart2 u v' zs (xs ++ ys) := by
  refine ⟨fun g hg hv => ?_, fun z hz g hv => ?_, fun x hx g hg => ?_⟩
  · rcases hb with e | e
    · rw [e] at hv; exact ha.1 g hg hv
    · rw [e] at hv; cases hv; exact Nat.lt_irrefl _ (ou.lt _ hg)
  · rcases hb with e | e
    · rw [e] at hv; exact ha.2.1 z hz g hv
    · rw [e] at hv; cases hv; exact (ou.ok z hz).away (Nat.le_refl _)
  · rcases List.mem_append.1 hx with h1 | h1
    · exact ha.2.2 x h1 g hg
    · exact hu x h1 g hg
theorem Apart2.symm {v u : Value} {ys zs : List PrC} (h : Apart2 v u ys zs) : Apart2 u v zs ys := ⟨fun g hg hv => h.1 g hv hg, h.2.2, h.2.1⟩
theorem SpI.rest (h : SpI w ls n Ac cc bs k V v u ys zs cs) {u' : Value} {x : PrC} (ho : OwnPs 58 w V' u' (zs ++ [x])) (hg : V.grownBy V' u.ownBlock) (hb : u'.ownBlock = u.ownBlock ∨ u'.ownBlock = some V.heap.size) (hx : x ∈ cs) (ht : splitS bs 0 ([], []) (ls.take (k + 1)) = (valsP ys, valsP (zs ++ [x]))) : SpI w ls n Ac cc bs (k + 1) V' v u' ys (zs ++ [x]) cs :=
  ⟨h.ov.grownO hg (fun g hu hv => h.vu.1 g hv hu) h.vu.2.1 ho.later, ho, h.oc.grownO hg (fun g hu hc => h.uc.1 g hu hc) (fun z hz g hu => h.uc.2.2 z hz g hu) ho.later,
    grown_parts hb h.ov h.vu (fun y hy g hv => by simp at hy; subst hy; exact h.vc.2.2 _ hx g hv), h.vc,
    (grown_parts hb h.oc h.uc.symm (fun y hy g hv => by simp at hy; subst hy; exact h.oc.away _ hx g hv)).symm, h.cv, ht⟩
theorem SpI.first (h : SpI w ls n Ac cc bs k V v u ys zs cs) {V1 : World} {v2 u2 v' : Value} {ys2 zs2 : List PrC} (o2 : OwnPs 58 V V1 u2 zs2) (f1 : ∀ y ∈ ys2, Fresh V y) (f2 : ∀ z ∈ zs2, Fresh V z) (ap : Apart2 v2 u2 ys2 zs2)
    (ho : OwnPs 58 w V' v' (ys ++ ys2)) (hg : V1.grownBy V' v.ownBlock) (hb : v'.ownBlock = v.ownBlock ∨ v'.ownBlock = some V1.heap.size) (ht : splitS bs 0 ([], []) (ls.take (k + 1)) = (valsP (ys ++ ys2), valsP zs2)) : SpI w ls n Ac cc bs (k + 1) V' v' u2 (ys ++ ys2) zs2 cs := by
  have hl := o2.later
  have a1 : Apart2 u2 v zs2 ys := ⟨fun g hu hv => by have := o2.block g hu; have := h.ov.lt g hv; omega, fun z hz g hv => (f2 z hz).away (h.ov.lt g hv), fun y hy g hu => (h.ov.ok y hy).away (o2.block g hu)⟩
  have a2 : Apart2 u2 (.slice Ac n cc) zs2 cs := ⟨fun g hu hv => by have := o2.block g hu; have := h.oc.lt g hv; omega, fun z hz g hv => (f2 z hz).away (h.oc.lt g hv), fun y hy g hu => (h.oc.ok y hy).away (o2.block g hu)⟩
  exact ⟨ho, (o2.base h.ov.later).grownO hg (fun g hv hu => a1.1 g hu hv) a1.2.1 ho.later, (h.oc.on hl).grownO hg (fun g hv hc => h.vc.1 g hv hc) (fun z hz g hv => h.vc.2.2 z hz g hv) ho.later,
    (grown_parts hb (o2.base h.ov.later) a1 ap.2.1).symm, (grown_parts hb (h.oc.on hl) h.vc.symm (fun y hy g hc => (f1 y hy).away (h.oc.lt g hc))).symm, a2, h.cv, ht⟩
end


end Go.Proofs.YtlnjhimbgckdcaaGreat

/-
  What the statements' own Many comes to, as a call: what prims weigh.
-/
namespace Go.Proofs.YtlnjhimbgckdcaaGreat
open Go.RowKit

theorem sizesP_take {l : List ByteArray} {k : Nat} (h : k < l.length) : ((l.take (k + 1)).map ByteArray.size).sum = ((l.take k).map ByteArray.size).sum + (l.getD k ByteArray.empty).size := by
  rw [List.take_succ_eq_append_getElem h, List.map_append, List.sum_append]
  simp [List.getD, List.getElem?_eq_getElem h]
theorem sizesP_take_le (l : List ByteArray) (k : Nat) : ((l.take k).map ByteArray.size).sum <= (l.map ByteArray.size).sum := by
  have : (l.map ByteArray.size).sum = ((l.take k).map ByteArray.size).sum + ((l.drop k).map ByteArray.size).sum := by
    rw [← List.sum_append, ← List.map_append, List.take_append_drop]
  omega

set_option maxRecDepth 100000 in
set_option maxHeartbeats 1000000 in
theorem manyP_any (A : Option Addr) (n c : Nat) (xs : List PrC) (w : World) (hx : Prims w A n xs) (hn : n <= 1048576) (hW : weightPs xs <= 4194304) :
    Calls Tryz.prog 39 #[.slice A n c] w fun e w' => e = .returned (.int .i64 (n + weightPs xs : Nat)) /\ Later w w' := by
  have HX := Lib.hid hx; clear hx
  go_enter Tryz.func39, Tryz.ntmps39
  go_wp2
  go_loopg [3, 14] (n + 1) (fun g s3 s14 wr => ∃ k : Nat, k <= n /\ n - k <= g /\ s14 = .int .i64 k /\ s3 = .int .i64 (n + weightPs (xs.take k) : Nat) /\ Later w wr)
  case atStart => exact ⟨0, Nat.zero_le _, by omega, rfl, rfl, Later.refl w⟩
  case round =>
    obtain ⟨k, hk, hg, rfl, rfl, hwr⟩ := hrel
    by_cases hlt : k < n
    · obtain ⟨b, o, x, rfl, hz, g0, g1, g2, g3, g4, g5⟩ := (HX.out.later hwr).get hlt
      have hstep := weightPs_take hz
      have hle := weightPs_take_le xs (k + 1)
      rw [hstep] at hle
      have hcm := (HX.out.later hwr).each x (List.mem_of_getElem? hz)
      have hlen := hcm.old.len
      have hlen2 := hcm.new.len
      have HW := Lib.hid hwr; have HROW := Lib.hid hcm.old; have HROW2 := Lib.hid hcm.new
      have hwt : weightP x.v = x.v.name.size + x.v.to.size + x.n + x.m + (x.v.old.map ByteArray.size).sum + (x.v.new.map ByteArray.size).sum := by unfold weightP; rw [hlen, hlen2]
      rw [hwt] at hle hstep
      have hle2 : n + weightPs (xs.take k) + x.v.name.size + x.v.to.size + x.n + x.m + (x.v.old.map ByteArray.size).sum + (x.v.new.map ByteArray.size).sum <= 6000000 := by omega
      have HST := Lib.hid hstep
      clear hle hstep hwt hcm hwr hz
      generalize weightPs (xs.take k) = W0 at HST hle2 ⊢
      generalize x.v.name = nm at *
      generalize x.v.to = to at *
      generalize x.v.old = l at *
      generalize x.v.new = r at *
      generalize x.v.kind = kd at *
      generalize x.v.place = pl at *
      generalize x.n = nl at *
      generalize x.A = Al at *
      generalize x.c = cl at *
      generalize x.m = nr at *
      generalize x.B = Ar at *
      generalize x.d = cr at *
      have hlb : Later wr (wr.alloc (.cells #[.int .i64 kd, .string nm, .string to, .int .i64 pl, .slice Al nl cl, .slice Ar nr cr] 89)) := (Later.refl wr).alloc _
      have HLB := Lib.hid hlb; clear hlb
      have HLEN := Lib.hid hlen; have HLEN2 := Lib.hid hlen2; clear hlen hlen2
      go_wp2
      go_loopg [3, 38] (nl + 1) (fun g s3 s38 wx => ∃ j : Nat, j <= nl /\ nl - j <= g /\ s38 = .int .i64 j /\ s3 = .int .i64 (n + W0 + nm.size + to.size + nl + nr + ((l.take j).map ByteArray.size).sum : Nat) /\ wx = wr.alloc (.cells #[.int .i64 kd, .string nm, .string to, .int .i64 pl, .slice Al nl cl, .slice Ar nr cr] 89))
      case atStart => exact ⟨0, Nat.zero_le _, by omega, rfl, by simp; go_num, rfl⟩
      case round =>
        obtain ⟨j, hj, hgj, rfl, rfl, rfl⟩ := hrel
        by_cases hjl : j < nl
        · obtain ⟨b1, o1, rfl, h4⟩ := (HROW.out.later HLB.out).get hjl
          have h1 := sizesP_take (l := l) (k := j) (by rw [HLEN.out]; exact hjl)
          have h2 := sizesP_take_le l (j + 1)
          rw [h1] at h2
          have H1 := Lib.hid h1; clear h1
          generalize l.getD j ByteArray.empty = sx at *
          generalize ((l.take j).map ByteArray.size).sum = S at *
          go_wp2
          go_roundg (nl - (j + 1))
          case measure => omega
          case rel => exact ⟨j + 1, by omega, Nat.le_refl _, by go_num, by rw [H1.out]; go_num, rfl⟩
        · have e : l.take j = l := List.take_of_length_le (by rw [HLEN.out]; omega)
          rw [e]
          clear e
          generalize (l.map ByteArray.size).sum = S1 at *
          go_wp2
          go_loopg [3, 50] (nr + 1) (fun g s3 s50 wx => ∃ j : Nat, j <= nr /\ nr - j <= g /\ s50 = .int .i64 j /\ s3 = .int .i64 (n + W0 + nm.size + to.size + nl + nr + S1 + ((r.take j).map ByteArray.size).sum : Nat) /\ wx = wr.alloc (.cells #[.int .i64 kd, .string nm, .string to, .int .i64 pl, .slice Al nl cl, .slice Ar nr cr] 89))
          case atStart => exact ⟨0, Nat.zero_le _, by omega, rfl, by simp, rfl⟩
          case round =>
            obtain ⟨i, hi, hgi, rfl, rfl, rfl⟩ := hrel
            by_cases hil : i < nr
            · obtain ⟨b1, o1, rfl, h4⟩ := (HROW2.out.later HLB.out).get hil
              have h1 := sizesP_take (l := r) (k := i) (by rw [HLEN2.out]; exact hil)
              have h2 := sizesP_take_le r (i + 1)
              rw [h1] at h2
              have H1 := Lib.hid h1; clear h1
              generalize r.getD i ByteArray.empty = sx at *
              generalize ((r.take i).map ByteArray.size).sum = S at *
              go_wp2
              go_roundg (nr - (i + 1))
              case measure => omega
              case rel => exact ⟨i + 1, by omega, Nat.le_refl _, by go_num, by rw [H1.out]; go_num, rfl⟩
            · have e : r.take i = r := List.take_of_length_le (by rw [HLEN2.out]; omega)
              rw [e]
              clear e
              go_wp2
              go_roundg (n - (k + 1))
              case measure => omega
              case rel => exact ⟨k + 1, by omega, Nat.le_refl _, by go_num, by rw [HST.out]; go_num, HW.out.trans HLB.out⟩
    · have e : xs.take k = xs := List.take_of_length_le (by rw [HX.out.len]; omega)
      rw [e]
      have HW := Lib.hid hwr
      clear e hwr
      go_wp2
      go_ret
      exact ⟨rfl, HW.out⟩

end Go.Proofs.YtlnjhimbgckdcaaGreat

/-
  What the statements' own few of layer 5 comes to, as a call.
-/
namespace Go.Proofs.YtlnjhimbgckdcaaGreat
open Go.RowKit Go.Maps

structure FR where
  A : Option Addr
  n : Nat
  c : Nat
  xs : List PrC
def FR.is (w : World) (r : FR) : Prop := Prims w r.A r.n r.xs /\ r.n <= 1048576 /\ weightPs r.xs <= 4194304
end Go.Proofs.YtlnjhimbgckdcaaGreat

/-
  Rows of prims as values; what the functions of layer 5 come to over them.
-/
namespace Go.Proofs.YtlnjhimbgckdcaaGreat
open Go.RowKit Go.Maps

def PsAt (w : World) (v : Value) (l : List Pr) : Prop := ∃ A n c xs, v = .slice A n c /\ n <= c /\ PsOk w A n xs /\ valsP xs = l
def fstS (r : Option (List Pr × List Pr)) : List Pr := match r with | none => [] | some r => r.1
def sndS (r : Option (List Pr × List Pr)) : List Pr := match r with | none => [] | some r => r.2
section
variable {w w' : World} {v u : Value} {l m : List Pr}
theorem PsAt.later (h : PsAt w v l) (hl : Later w w') : PsAt w' v l := by obtain ⟨A, n, c, xs, rfl, hc, hp, hv⟩ := h; exact ⟨A, n, c, xs, rfl, hc, hp.later hl, hv⟩
theorem PsAt.nil (w : World) : PsAt w (.slice none 0 0) [] := ⟨none, 0, 0, [], rfl, Nat.le_refl _, PsOk.none _ _, rfl⟩
end

end Go.Proofs.YtlnjhimbgckdcaaGreat

/-
  What the document's own Swap of two rows comes to, as a call, and where the lines of what is told lie.
-/
namespace Go.Proofs.YtlnjhimbgckdcaaGreat
open Go.RowKit Go.Maps


section
variable {w w' : World} {A : Option Addr} {b o n k c : Nat} {css : List (List Value)} {xs : List PrC}
theorem RowK.front {q : Nat} (h : RowK q w A n css) (hk : k <= n) : RowK q w A k (css.take k) := by
  have hl := h.1
  refine ⟨by rw [List.length_take]; omega, fun cs hcs => h.2.1 cs (List.mem_of_mem_take hcs), fun h0 => ?_⟩
  obtain ⟨b, o, e, hc⟩ := h.2.2 (by omega)
  refine ⟨b, o, e, fun j i cs u hj hi => hc j i cs u ?_ hi⟩
  rw [List.getElem?_take] at hj
  split at hj
  · exact hj
  · cases hj
theorem RowK.behind (h : RowK 6 w (some ⟨b, o, .none⟩) n css) (hk : k <= n) : RowK 6 w (some ⟨b, o + k * 6, .none⟩) (n - k) (css.drop k) := by
  have hl := h.1
  refine ⟨by rw [List.length_drop]; omega, fun cs hcs => h.2.1 cs (List.mem_of_mem_drop hcs), fun h0 => ?_⟩
  obtain ⟨b', o', e, hc⟩ := h.2.2 (by omega)
  cases e
  refine ⟨b, o + k * 6, rfl, fun j i cs u hj hi => ?_⟩
  rw [List.getElem?_drop] at hj
  have := hc (k + j) i cs u hj hi
  rw [Nat.add_mul, ← Nat.add_assoc] at this
  exact this
theorem PsOk.front (h : PsOk w A n xs) (hk : k <= n) : PsOk w A k (xs.take k) := ⟨by rw [List.map_take]; exact h.row.front hk, fun x hx => h.each x (List.mem_of_mem_take hx)⟩
theorem PsOk.behind (h : PsOk w (some ⟨b, o, .none⟩) n xs) (hk : k <= n) : PsOk w (some ⟨b, o + k * 6, .none⟩) (n - k) (xs.drop k) := ⟨by rw [List.map_drop]; exact h.row.behind hk, fun x hx => h.each x (List.mem_of_mem_drop hx)⟩
theorem valsP_get {i : Nat} {p : Pr} (h : (valsP xs)[i]? = some p) : ∃ x, xs[i]? = some x /\ x.v = p := by
  simp only [valsP, List.getElem?_map, Option.map_eq_some_iff] at h
  exact h
end

theorem own_emptyX (w : World) (t : TypeId) : OwnPs t w (w.alloc (.cells #[] t)) (.slice (some ⟨w.heap.size, 0, none⟩) 0 0) [] :=
  ⟨⟨⟨rfl, .inr ⟨_, 0, #[], rfl, Nat.le_refl _, heap_alloc_new w _, Nat.le_refl _, Nat.zero_le _, rfl, rfl⟩⟩, (fun _ h => by cases h), (Later.refl w).alloc _⟩, (fun x hx => by cases hx), fun x hx => by cases hx⟩
def RowX (ls ms : List PrC) (w w' : World) (v : Value) (l : List Pr) : Prop := ∃ A n c xs, v = .slice A n c /\ n <= c /\ PsOk w' A n xs /\ valsP xs = l /\ (∀ b, (Value.slice A n c).ownBlock = some b -> w.heap.size <= b) /\ ∀ w0, (∀ z ∈ ls, PrOk w0 z) -> (∀ z ∈ ms, PrOk w0 z) -> ∀ z ∈ xs, PrOk w0 z
theorem RowX.nil (ls ms : List PrC) (w w' : World) : RowX ls ms w w' (.slice none 0 0) [] := ⟨none, 0, 0, [], rfl, Nat.le_refl _, PsOk.none _ _, rfl, (fun b e => by cases e), fun _ _ _ z hz => by cases hz⟩
def Gives3X (ls ms : List PrC) (r : Option (List Pr × List Pr)) (w : World) (e : Ending) (w' : World) : Prop := ∃ v u, e = .returned (.tuple #[v, u, .bool r.isSome]) /\ RowX ls ms w w' v (fstS r) /\ RowX ls ms w w' u (sndS r) /\ Later w w'

set_option maxRecDepth 100000 in
set_option maxHeartbeats 1600000 in
theorem refSwap5x_any (A B : Option Addr) (n c m d : Nat) (ls ms : List PrC) (w : World) (hls : PsOk w A n ls) (hms : PsOk w B m ms) (hn : n <= 400) (hm : m <= 400) :
    Calls Tryz.prog 32 #[.slice A n c, .slice B m d] w (Gives3X ls ms (swapS (valsP ls) (valsP ms)) w) := by
  have hln := hls.len; have hlm := hms.len
  have HLS := Lib.hid hls; have HMS := Lib.hid hms
  have HLN : Hid ((valsP ls).length = n) := Lib.hid (by rw [valsP_length, hln]); have HLM : Hid ((valsP ms).length = m) := Lib.hid (by rw [valsP_length, hlm])
  have HRL : Hid (ls.length = n) := Lib.hid hln; have HRM : Hid (ms.length = m) := Lib.hid hlm
  clear hls hms hln hlm
  obtain ⟨i0, hi, hz0, hz1, hz2⟩ := info_parts Tryz.rprimInfo
  have HO0 := Lib.hid (own_emptyX w 89)
  have HLB : Hid (Later w (w.alloc (.cells #[] 89))) := (Later.refl w).alloc _
  go_enter Tryz.func32, Tryz.ntmps32
  go_wp2_with (at_builtin; first
    | (refine wpList_append_ps5 rfl _ _ 23 rfl i0 _ 96 Tryz.underlying23 hi hz0 hz1 hz2 rfl HO0.out rfl _ _ _ ls rfl (HLS.out.later HLB.out).row (HLS.out.later HLB.out).each (fun z hz g hgb => (HLS.out.each z hz).away (HO0.out.block g hgb)) (by simp; omega) (by omega) ?_; intro v4 w4 hown4 hg4 hb4; have HO4 := Lib.hid hown4; clear hown4 hg4 hb4)
    | (refine wpList_append_ps5 rfl _ _ 23 rfl i0 _ 96 Tryz.underlying23 hi hz0 hz1 hz2 rfl HO4.out rfl _ _ _ ms rfl (HMS.out.later HO4.out.later).row (HMS.out.later HO4.out.later).each (fun z hz g hgb => (HMS.out.each z hz).away (HO4.out.block g hgb)) (by simp [HRL.out]; omega) (by omega) ?_; intro v5 w5 hown5 hg5 hb5; have HO5 := Lib.hid hown5; clear hown5 hg5 hb5))
  have HOW : Hid (OwnPs 89 w w5 v5 (ls ++ ms)) := HO5.out
  obtain ⟨Ar, cr, hv5, hcr, _⟩ := HOW.out.row
  rw [List.length_append, HRL.out, HRM.out] at hv5
  subst hv5
  clear HO0 HLB HO4 HO5 hcr hi hz0 hz1 hz2 i0
  go_loopg [8] (n + 1) (fun g s8 wr => ∃ (i : Nat) (xs : List PrC), i <= n /\ i <= g /\ s8 = .int .i64 ((i : Int) - 1) /\ Hid (OwnPs 89 w wr (.slice Ar (n + m) cr) xs) /\ Hid (RowIX (valsP ls) (valsP ms) i (valsP xs)) /\ Hid (∀ w0, (∀ z ∈ ls, PrOk w0 z) -> (∀ z ∈ ms, PrOk w0 z) -> ∀ z ∈ xs, PrOk w0 z))
  case atStart => exact ⟨n, ls ++ ms, Nat.le_refl _, by omega, rfl, HOW, by
    have := RowIX.start (valsP ls) (valsP ms)
    rw [HLN.out] at this
    rw [show valsP (ls ++ ms) = valsP ls ++ valsP ms from by simp [valsP]]
    exact this, fun w0 h1 h2 z hz => by
    rcases List.mem_append.1 hz with h | h
    · exact h1 z h
    · exact h2 z h⟩
  case round =>
    obtain ⟨i, xs, hin, hig, rfl, how, hri, hpx⟩ := hrel
    rcases i with _ | i
    · obtain ⟨la, lb, hsw, hvs⟩ := hri.out.whole
      have hla := (swapS_length hsw).1
      rw [HLM.out] at hla
      have HSW := Lib.hid hsw; have HVS := Lib.hid hvs; have HPS := Lib.hid how.out.ps; have HLL := Lib.hid how.out.later; have HOW2 := how
      clear hsw hvs how hri
      rw [show ((0 : Nat) : Int) - 1 = -1 from rfl]
      have hbig : m <= cr /\ n + m <= cr := by
        obtain ⟨A2, c2, e2, h2, _⟩ := HOW2.out.row
        simp only [Value.slice.injEq] at e2
        obtain ⟨-, e3, e4⟩ := e2
        omega
      have hlv : xs.length = n + m := by
        have := HPS.out.len
        omega
      have HTK : Hid (valsP (xs.take m) = la) := by
        show _ = _
        unfold valsP at HVS ⊢
        rw [List.map_take, HVS.out, ← hla, List.take_left']
        rfl
      have HDR : Hid (valsP (xs.drop m) = lb) := by
        show _ = _
        unfold valsP at HVS ⊢
        rw [List.map_drop, HVS.out, ← hla, List.drop_left']
        rfl
      rcases HOW2.out.own.1.2 with ⟨hv, -⟩ | ⟨g, cap, cur, hv, -⟩
      · simp only [Value.slice.injEq] at hv
        obtain ⟨rfl, hnm, rfl⟩ := hv
        obtain ⟨rfl, rfl⟩ : n = 0 /\ m = 0 := by omega
        have HXN : Hid (xs = []) := List.eq_nil_of_length_eq_zero (by omega)
        clear HOW HOW2 HVS
        go_upto_region 13 with fail
        go_region
        go_wp2
        go_ret3
        unfold Gives3X
        rw [HSW.out]
        exact ⟨_, _, rfl, ⟨_, _, _, [], rfl, Nat.le_refl _, PsOk.none _ _, (by have := HTK.out; rw [HXN.out] at this; exact this), (fun b e => by cases e), fun _ _ _ z hz => by cases hz⟩, ⟨_, _, _, [], rfl, Nat.le_refl _, PsOk.none _ _, (by have := HDR.out; rw [HXN.out] at this; exact this), (fun b e => by cases e), fun _ _ _ z hz => by cases hz⟩, HLL.out.drew⟩
      · simp only [Value.slice.injEq] at hv
        obtain ⟨rfl, -, rfl⟩ := hv
        have h1 : (m : Int) <= n + m := by omega
        have h2 : (m : Int) <= cr := by omega
        have HPD := Lib.hid (HPS.out.later (Later.refl wr).drew)
        have HBL : Hid (∀ b, some g = some b -> w.heap.size <= b) := fun b e => HOW2.out.block b e
        clear HOW HOW2 HVS
        go_upto_region 13 with fail
        go_region
        go_wp2
        · go_ret3
          unfold Gives3X
          rw [HSW.out]
          have hn0 : n = 0 := by omega
          refine ⟨_, _, rfl, ⟨_, _, _, _, rfl, Nat.le_refl _, HPD.out.front (by omega), HTK.out, HBL.out, fun w0 h1 h2 z hz => hpx.out w0 h1 h2 z (List.mem_of_mem_take hz)⟩, ⟨_, _, _, [], rfl, by omega, by rw [hn0]; exact PsOk.none _ _, (by have := HDR.out; rw [List.drop_eq_nil_of_le (by omega)] at this; exact this), HBL.out, fun _ _ _ z hz => by cases hz⟩, HLL.out.drew⟩
        · go_ret3
          unfold Gives3X
          rw [HSW.out]
          refine ⟨_, _, rfl, ⟨_, _, _, _, rfl, hbig.1, HPD.out.front (by omega), HTK.out, HBL.out, fun w0 h1 h2 z hz => hpx.out w0 h1 h2 z (List.mem_of_mem_take hz)⟩, ⟨_, _, _, _, rfl, by omega, ?_, HDR.out, HBL.out, fun w0 h1 h2 z hz => hpx.out w0 h1 h2 z (List.mem_of_mem_drop hz)⟩, HLL.out.drew⟩
          have := HPD.out.behind (k := m) (by omega)
          rw [Nat.zero_add, Nat.add_sub_cancel] at this
          exact this
    · rw [show (((i + 1 : Nat) : Int) - 1) = (i : Nat) from by omega]
      go_wp2
      go_loopg [9] (m + 1) (fun g s9 wx => ∃ (k : Nat) (xs : List PrC), k <= m /\ m - k <= g /\ s9 = .int .i64 k /\ Hid (OwnPs 89 w wx (.slice Ar (n + m) cr) xs) /\ Hid (RowJX (valsP ls) (valsP ms) i k (valsP xs)) /\ Hid (∀ w0, (∀ z ∈ ls, PrOk w0 z) -> (∀ z ∈ ms, PrOk w0 z) -> ∀ z ∈ xs, PrOk w0 z))
      case atStart => exact ⟨0, xs, Nat.zero_le _, by omega, rfl, how, hri.out.begin (by rw [HLN.out]; omega), hpx⟩
      case round =>
        obtain ⟨k, xs, hk, hg, rfl, how, hj, hpx⟩ := hrel
        by_cases hlt : k < m
        · obtain ⟨p, q, hp, hq, hno, hyes⟩ := hj.out.step (by rw [HLM.out]; exact hlt)
          obtain ⟨x, hx, rfl⟩ := valsP_get hp
          obtain ⟨y, hy, rfl⟩ := valsP_get hq
          have hown := how.out
          obtain ⟨b, o, x', hA, -, -⟩ := hown.ps.get (j := i + k) (by omega)
          subst hA
          obtain ⟨rfl, -⟩ := hown.at
          have hglt := hown.lt b rfl
          have okx := hown.ok x (List.mem_of_getElem? hx); have oky := hown.ok y (List.mem_of_getElem? hy); have awx := hown.away x (List.mem_of_getElem? hx) b rfl; have awy := hown.away y (List.mem_of_getElem? hy) b rfl
          have HROW := Lib.hid hown.ps.row
          clear hown
          cases hsw : swapP x.v y.v with
          | none =>
            have HNO := Lib.hid (hno hsw)
            clear hno hyes
            go_upto_region 8 with fail
            refine refswt_region (r := noneP) rfl (by kernel_rfl) ⟨_, rfl, rfl, rfl, rfl, by kernel_rfl⟩ ⟨_, rfl, rfl, rfl, rfl, by kernel_rfl⟩ ⟨_, rfl, rfl, rfl, rfl, by kernel_rfl⟩ ⟨_, rfl, rfl, rfl, rfl, by kernel_rfl⟩ ⟨_, rfl, rfl, rfl, rfl, by kernel_rfl⟩ ⟨_, rfl, rfl, rfl, rfl, by kernel_rfl⟩ ⟨_, rfl, rfl, rfl, rfl, by kernel_rfl⟩ ⟨_, rfl, rfl, rfl, rfl, by kernel_rfl⟩ ⟨_, rfl, rfl, rfl, rfl, by kernel_rfl⟩ ⟨_, rfl, rfl, rfl, rfl, by kernel_rfl⟩ ⟨_, rfl, rfl, rfl, rfl, by kernel_rfl⟩ ⟨_, rfl, rfl, rfl, rfl, by kernel_rfl⟩ ⟨_, rfl, rfl, rfl, rfl, by kernel_rfl⟩ ⟨_, rfl, rfl, rfl, rfl, by kernel_rfl⟩ ⟨_, rfl, rfl, rfl, rfl, by kernel_rfl⟩ ⟨_, rfl, rfl, rfl, rfl, by kernel_rfl⟩ ⟨_, rfl, rfl, rfl, rfl, by kernel_rfl⟩ ⟨_, rfl, rfl, rfl, rfl, by kernel_rfl⟩ ⟨_, rfl, rfl, rfl, rfl, by kernel_rfl⟩ ⟨_, rfl, rfl, rfl, rfl, by kernel_rfl⟩ ⟨_, rfl, rfl, rfl, rfl, by kernel_rfl⟩ ⟨_, rfl, rfl, rfl, rfl, by kernel_rfl⟩ ⟨_, rfl, rfl, rfl, rfl, by kernel_rfl⟩ (of_decide_eq_true rfl) rfl rfl rfl HROW.out hx hy (by omega) (by omega) okx oky awx awy hglt (by rw [hsw]; rfl) (fun D a V so e10 e11 e12 st => ?_)
            have HLV := Lib.hid (how.out.later.trans st.later)
            have ha := so.is
            simp only [List.foldl_cons, List.foldl_nil] at ha
            rw [e10, e11, e12] at ha
            generalize a.eval (.tmp 32) = y32 at ha
            generalize a.eval (.tmp 33) = y33 at ha
            generalize a.eval (.tmp 34) = y34 at ha
            generalize a.eval (.tmp 35) = y35 at ha
            generalize a.eval (.tmp 36) = y36 at ha
            generalize a.eval (.tmp 37) = y37 at ha
            generalize a.eval (.tmp 38) = y38 at ha
            generalize a.eval (.tmp 39) = y39 at ha
            generalize a.eval (.tmp 40) = y40 at ha
            generalize a.eval (.tmp 41) = y41 at ha
            generalize a.eval (.tmp 42) = y42 at ha
            generalize a.eval (.tmp 43) = y43 at ha
            generalize a.eval (.tmp 44) = y44 at ha
            generalize a.eval (.tmp 45) = y45 at ha
            generalize a.eval (.tmp 31) = y31 at ha
            generalize a.eval (.tmp 46) = y46 at ha
            generalize a.eval (.tmp 47) = y47 at ha
            generalize a.eval (.tmp 48) = y48 at ha
            clear so e10 e11 e12 st okx oky awx awy hx hy hp hq hsw
            subst ha
            simp only [Act.put, List.setIfInBounds_toArray, List.set_cons_zero, List.set_cons_succ]
            go_wp2
            go_ret3
            unfold Gives3X
            rw [HNO.out]
            exact ⟨_, _, rfl, RowX.nil _ _ _ _, RowX.nil _ _ _ _, HLV.out⟩
          | some r =>
            obtain ⟨q1, p1⟩ := r
            have HYES := Lib.hid (hyes q1 p1 hsw)
            clear hno hyes
            go_upto_region 8 with fail
            refine refswt_region (r := (q1, p1, true)) rfl (by kernel_rfl) ⟨_, rfl, rfl, rfl, rfl, by kernel_rfl⟩ ⟨_, rfl, rfl, rfl, rfl, by kernel_rfl⟩ ⟨_, rfl, rfl, rfl, rfl, by kernel_rfl⟩ ⟨_, rfl, rfl, rfl, rfl, by kernel_rfl⟩ ⟨_, rfl, rfl, rfl, rfl, by kernel_rfl⟩ ⟨_, rfl, rfl, rfl, rfl, by kernel_rfl⟩ ⟨_, rfl, rfl, rfl, rfl, by kernel_rfl⟩ ⟨_, rfl, rfl, rfl, rfl, by kernel_rfl⟩ ⟨_, rfl, rfl, rfl, rfl, by kernel_rfl⟩ ⟨_, rfl, rfl, rfl, rfl, by kernel_rfl⟩ ⟨_, rfl, rfl, rfl, rfl, by kernel_rfl⟩ ⟨_, rfl, rfl, rfl, rfl, by kernel_rfl⟩ ⟨_, rfl, rfl, rfl, rfl, by kernel_rfl⟩ ⟨_, rfl, rfl, rfl, rfl, by kernel_rfl⟩ ⟨_, rfl, rfl, rfl, rfl, by kernel_rfl⟩ ⟨_, rfl, rfl, rfl, rfl, by kernel_rfl⟩ ⟨_, rfl, rfl, rfl, rfl, by kernel_rfl⟩ ⟨_, rfl, rfl, rfl, rfl, by kernel_rfl⟩ ⟨_, rfl, rfl, rfl, rfl, by kernel_rfl⟩ ⟨_, rfl, rfl, rfl, rfl, by kernel_rfl⟩ ⟨_, rfl, rfl, rfl, rfl, by kernel_rfl⟩ ⟨_, rfl, rfl, rfl, rfl, by kernel_rfl⟩ ⟨_, rfl, rfl, rfl, rfl, by kernel_rfl⟩ (of_decide_eq_true rfl) rfl rfl rfl HROW.out hx hy (by omega) (by omega) okx oky awx awy hglt (by rw [hsw]; rfl) (fun D a V so e10 e11 e12 st => ?_)
            have ha := so.is
            simp only [List.foldl_cons, List.foldl_nil] at ha
            rw [e10, e11, e12] at ha
            generalize a.eval (.tmp 32) = y32 at ha
            generalize a.eval (.tmp 33) = y33 at ha
            generalize a.eval (.tmp 34) = y34 at ha
            generalize a.eval (.tmp 35) = y35 at ha
            generalize a.eval (.tmp 36) = y36 at ha
            generalize a.eval (.tmp 37) = y37 at ha
            generalize a.eval (.tmp 38) = y38 at ha
            generalize a.eval (.tmp 39) = y39 at ha
            generalize a.eval (.tmp 40) = y40 at ha
            generalize a.eval (.tmp 41) = y41 at ha
            generalize a.eval (.tmp 42) = y42 at ha
            generalize a.eval (.tmp 43) = y43 at ha
            generalize a.eval (.tmp 44) = y44 at ha
            generalize a.eval (.tmp 45) = y45 at ha
            generalize a.eval (.tmp 31) = y31 at ha
            generalize a.eval (.tmp 46) = y46 at ha
            generalize a.eval (.tmp 47) = y47 at ha
            generalize a.eval (.tmp 48) = y48 at ha
            obtain ⟨hcv, hdv, okc, okd, ⟨awc, pxc⟩, ⟨awd, pxd⟩⟩ := st.sw (by omega)
            have HPN : Hid (∀ w0, (∀ z ∈ ls, PrOk w0 z) -> (∀ z ∈ ms, PrOk w0 z) -> ∀ z ∈ (xs.set (i + k) D.c).set (i + k + 1) D.d, PrOk w0 z) := by
              intro w0 h1 h2 z hz
              have h3 := hpx.out w0 h1 h2
              have h4 := h3 x (List.mem_of_getElem? hx); have h5 := h3 y (List.mem_of_getElem? hy)
              rcases List.mem_or_eq_of_mem_set hz with h | rfl
              · rcases List.mem_or_eq_of_mem_set h with h | rfl
                · exact h3 z h
                · exact pxc w0 h4 h5
              · exact pxd w0 h4 h5
            obtain ⟨hg8, cs8, -, hb8, hc8⟩ := st.b8 rfl
            obtain ⟨hg9, cs9, -, hb9, hc9⟩ := st.b9 rfl
            obtain rfl := hc8 (by omega)
            obtain rfl := hc9 (by omega)
            have HOV := Lib.hid (how.out.on st.later); have HOC := Lib.hid (okc.later st.later); have HOD := Lib.hid (okd.later st.later); have HB8 := Lib.hid hb8; have HB9 := Lib.hid hb9; have HAC := Lib.hid awc; have HAD := Lib.hid awd; have HVC := Lib.hid hcv; have HVD := Lib.hid hdv
            clear so e10 e11 e12 st okx oky awx awy hx hy hp hq hsw okc okd awc awd hb8 hb9 hc8 hc9 hcv hdv pxc pxd
            subst ha
            simp only [Act.put, List.setIfInBounds_toArray, List.set_cons_zero, List.set_cons_succ]
            obtain ⟨p0, p1', p2, p3, p4, p5⟩ := BoxAt.all (x := D.c) HB8.out
            go_wp2_with (with_reducible show wpList _ _ _ ({ dst := none, op := Op.store 89 _ _, type := _, pos := _, after := _, guard := _ } :: _) _ _; refine Hid.out ?_)
            refine Lib.hid (wpList_store_ps (i := i + k) rfl rfl 89 _ _ rfl Tryz.refPrimSize D.c (by first | rfl | (simp only [Nat.zero_add]; rfl)) rfl HOV.out (by omega) HOC.out HAC.out ?_)
            clear p0 p1' p2 p3 p4 p5
            intro w6 how6 ht6
            have HO6 := Lib.hid how6; have HB96 := Lib.hid (HB9.out.other ht6 (by omega)); have HOD6 := Lib.hid (HOD.out.off ht6 HAD.out)
            clear how6 ht6
            obtain ⟨p0, p1', p2, p3, p4, p5⟩ := BoxAt.all (x := D.d) HB96.out
            go_wp2_with (with_reducible show wpList _ _ _ ({ dst := none, op := Op.store 89 _ _, type := _, pos := _, after := _, guard := _ } :: _) _ _; refine Hid.out ?_)
            refine Lib.hid (wpList_store_ps (i := i + k + 1) rfl rfl 89 _ _ rfl Tryz.refPrimSize D.d (by first | rfl | (simp only [Nat.zero_add]; rfl)) rfl HO6.out (by omega) HOD6.out HAD.out ?_)
            clear p0 p1' p2 p3 p4 p5
            intro w7 how7 ht7
            have HO7 := Lib.hid how7
            clear how7 ht7
            go_wp2
            go_roundg (m - (k + 1))
            case measure => omega
            case rel => exact ⟨k + 1, _, by omega, Nat.le_refl _, by go_num, HO7, by
              show RowJX _ _ _ _ _
              rw [valsP_set, valsP_set, HVC.out, HVD.out]
              exact HYES.out, HPN⟩
        · obtain rfl : k = m := by omega
          have HN : Hid (RowIX (valsP ls) (valsP ms) i (valsP xs)) := by
            have := hj.out
            rw [← HLM.out] at this
            exact this.done
          go_wp2
          go_roundg i
          case measure => omega
          case rel => exact ⟨i, xs, by omega, Nat.le_refl _, by go_num, how, HN, hpx⟩

end Go.Proofs.YtlnjhimbgckdcaaGreat

/-
  What the document's own on of patches comes to, as a call.
-/
namespace Go.Proofs.YtlnjhimbgckdcaaGreat
open Go.RowKit Go.Maps

set_option maxRecDepth 100000 in
set_option maxHeartbeats 800000 in
theorem refOn7_any (x : PaC) (d : Int) (w : World) (hx : PaOk w x) : Calls Tryz.prog 31 #[paV x, .int .i64 d] w (Says (decide (d ∈ x.v.deps)) w) := by
  have HLB : Hid (Later w (w.alloc (.cells #[.int .i64 x.v.id, .string x.v.note, .slice x.D x.nd x.cd, .slice x.L x.nl x.cl] 25))) := (Later.refl w).alloc _
  have HB : Hid (BoxAt (w.alloc (.cells #[.int .i64 x.v.id, .string x.v.note, .slice x.D x.nd x.cd, .slice x.L x.nl x.cl] 25)) w.heap.size (paL x).toArray 25) := BoxAt.made w (paL x).toArray 25
  have HD : Hid (RowI (w.alloc (.cells #[.int .i64 x.v.id, .string x.v.note, .slice x.D x.nd x.cd, .slice x.L x.nl x.cl] 25)) x.D x.nd x.v.deps) := RowK.later hx.deps HLB.out
  have hdm := hx.dmost
  have hdl : x.v.deps.length = x.nd := by have := hx.deps.len; simpa using this
  clear hx
  unfold paV
  go_enter Tryz.func31, Tryz.ntmps31
  go_wp2
  generalize w.alloc (.cells #[.int .i64 x.v.id, .string x.v.note, .slice x.D x.nd x.cd, .slice x.L x.nl x.cl] 25) = wb at HLB HB HD ⊢
  go_loopg [5] (x.nd + 1) (fun g s5 wr => ∃ k : Nat, k <= x.nd /\ x.nd - k <= g /\ s5 = .int .i64 k /\ wr = wb /\ Hid (∀ j : Nat, j < k -> ¬ d = x.v.deps.getD j 0))
  case atStart => exact ⟨0, Nat.zero_le _, by omega, rfl, rfl, fun j hj => absurd hj (Nat.not_lt_zero _)⟩
  case round =>
    obtain ⟨k, hk, hg, rfl, rfl, hall⟩ := hrel
    have q2 : wr.cell? ⟨w.heap.size, 2, none⟩ = some (.slice x.D x.nd x.cd) := HB.out.cell rfl
    by_cases hlt : k < x.nd
    · obtain ⟨b1, o1, hA, g1⟩ := HD.out.get hlt
      rw [hA] at q2
      clear hA
      have HM := Lib.hid (memI_getD (show k < x.v.deps.length by omega))
      generalize hy : x.v.deps.getD k 0 = y at g1 HM
      have HY := Lib.hid hy
      clear hy
      by_cases he : y = d
      · subst he
        clear hall
        go_wp2
        go_ret
        exact ⟨by rw [decide_eq_true HM.out]; rfl, HLB.out⟩
      · have HA : Hid (∀ j : Nat, j < k + 1 -> ¬ d = x.v.deps.getD j 0) := fun j hj => by
          by_cases e : j = k
          · rw [e, HY.out]; exact fun h => he h.symm
          · exact hall.out j (by omega)
        clear hall HY HM
        go_wp2
        go_roundg (x.nd - (k + 1))
        case measure => omega
        case rel => exact ⟨k + 1, by omega, Nat.le_refl _, by go_num, rfl, HA⟩
    · have E : Hid (¬ d ∈ x.v.deps) := fun h => not_memI (p := fun z => d = z) (fun j hj => hall.out j (by omega)) ⟨d, h, rfl⟩
      clear hall
      go_wp2
      go_ret
      exact ⟨by rw [decide_eq_false E.out]; rfl, HLB.out⟩

end Go.Proofs.YtlnjhimbgckdcaaGreat
