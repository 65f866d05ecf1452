/-
  Two prims and a Bool that a call tells; prims at another place, in another file.
-/
import Derived.Test.YtalgapoigkbiaaaLpVal
import Derived.Test.YtalgapoigkbiaaaSwTurn
namespace Go.Proofs.Ytalgapoigkbiaaa
open Go.RowKit Go.Maps

def atC (x : PrC) (k : Int) : PrC := { x with v := placed x.v k }
def inC (x : PrC) (n : ByteArray) : PrC := { x with v := inFile x.v n }
def zeroC : PrC := ⟨zeroPr, none, 0, 0, none, 0, 0⟩
theorem atC_ok {w : World} {x : PrC} (h : PrOk w x) {k : Int} (h1 : -9223372036854775808 ≤ k) (h2 : k ≤ 9223372036854775807) : PrOk w (atC x k) :=
  ⟨h.old, h.new, h.oroom, h.nroom, h.omost, h.nmost, h.name, h.to, h1, h2, h.olds, h.news⟩
theorem inC_ok {w : World} {x : PrC} (h : PrOk w x) {n : ByteArray} (hn : n.size ≤ maxLen) : PrOk w (inC x n) :=
  ⟨h.old, h.new, h.oroom, h.nroom, h.omost, h.nmost, hn, h.to, h.lo, h.hi, h.olds, h.news⟩
theorem zeroC_ok (w : World) : PrOk w zeroC :=
  ⟨Row.none, Row.none, Nat.le_refl _, Nat.le_refl _, Nat.zero_le _, Nat.zero_le _, Nat.zero_le _, Nat.zero_le _, by simp [zeroC, zeroPr], by simp [zeroC, zeroPr], (fun s hs => by simp [zeroC, zeroPr] at hs), (fun s hs => by simp [zeroC, zeroPr] at hs)⟩

/-- Two prims and a Bool. -/
def GivesT (r : Pr × Pr × Bool) (w : World) (e : Ending) (w' : World) : Prop :=
  ∃ a b : PrC, e = .returned (.tuple #[prV a, prV b, .bool r.2.2]) ∧ a.v = r.1 ∧ b.v = r.2.1 ∧ PrOk w' a ∧ PrOk w' b ∧ Later w w'
/-- The same, where the rows are those of x or y. -/
def GivesW (x y : PrC) (r : Pr × Pr × Bool) (w : World) (e : Ending) (w' : World) : Prop :=
  ∃ a b : PrC, e = .returned (.tuple #[prV a, prV b, .bool r.2.2]) ∧ a.v = r.1 ∧ b.v = r.2.1 ∧ (∀ w0, PrOk w0 x → PrOk w0 y → PrOk w0 a ∧ PrOk w0 b) ∧ Later w w'
/-- What Swap tells. -/
def swapR (o : Option (Pr × Pr)) : Pr × Pr × Bool := match o with | some r => (r.1, r.2, true) | none => noneP

theorem results_two {P : Program} {fn : Func} {p q u : Tmp} {ty : TypeId} (h : fn.results = #[.cell p ty, .cell q ty, .tmp u]) (tmps : Array Value) (w : World) (g k : Nat) (t s : TypeId) (cs ds : Array Value) (fr gr : Nat × Nat) (d : TypeDesc) (v : Value)
    (hp : tmps.getD p undef = .pointer (some ⟨g, 0, none⟩)) (hq : tmps.getD q undef = .pointer (some ⟨k, 0, none⟩)) (hv : tmps.getD u undef = v) (hg : w.heap[g]? = some (.cells cs t fr)) (hk : w.heap[k]? = some (.cells ds s gr))
    (hu : P.underlying ty = some d) (hd : (match d with | .struct _ | .array _ _ => true | _ => false) = true) (hi : (P.info? ty).map (·.size) = some cs.size) (hj : (P.info? ty).map (·.size) = some ds.size) :
    (results fn tmps).run P w = .ok (.tuple #[.agg cs, .agg ds, v]) w := by
  have hp' : tmps[p]?.getD undef = .pointer (some ⟨g, 0, none⟩) := by simpa using hp
  have hq' : tmps[q]?.getD undef = .pointer (some ⟨k, 0, none⟩) := by simpa using hq
  have hv' : tmps[u]?.getD undef = v := by simpa using hv
  simp [results, h, hp', hq', hv', asAddr, run_loadVar_row w g t ty cs fr d hg hu hd hi, run_loadVar_row w k s ty ds gr d hk hu hd hj]

set_option maxRecDepth 100000 in
theorem growth_any (x : PrC) (w : World) (hx : PrOk w x) :
    Calls Try.prog 67 #[prV x] w fun e w' => e = .returned (.int .i64 ((x.m : Int) - x.n)) ∧ Later w w' := by
  have hlb : Later w (w.alloc (.cells #[.int .i64 x.v.kind, .string x.v.name, .string x.v.to, .int .i64 x.v.place, .slice x.A x.n x.c, .slice x.B x.m x.d] 27)) := (Later.refl w).alloc _
  have h1 := hx.omost; have h2 := hx.nmost
  clear hx
  unfold prV
  go_enter Try.func67, Try.ntmps67
  go_wp2
  go_ret
  exact ⟨by go_num, hlb⟩

end Go.Proofs.Ytalgapoigkbiaaa
