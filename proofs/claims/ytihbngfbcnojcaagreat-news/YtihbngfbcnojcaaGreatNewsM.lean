import Derived.WalkKit
import Derived.WideMake
namespace Go.Proofs.YtihbngfbcnojcaaGreat
open Go.RowKit

/-- 'len(m)'. -/
theorem run_len_map {P : Program} {w : World} {t k e : TypeId} {b : Nat} {es : Array MapEntry} {clock : Nat} (ht : P.underlying t = some (.map k e)) (ty : TypeId) (hb : w.heap[b]? = some (.map es clock)) :
    (Builtin.len_ #[t] ty #[.map (some b)]).run P w = .ok (.int .i64 es.size) w := by
  simp [Builtin.len_, run_underlying ht, MapKept.run_getObj_map hb, goInt, Result.andThen]

/-- The map at block b is now this one. -/
def putMap (w : World) (b : Nat) (es : Array MapEntry) (clock : Nat) : World := { w with heap := w.heap.setIfInBounds b (.map es clock) }

theorem putMap_other (w : World) (b : Nat) (es : Array MapEntry) (clock : Nat) {k : Nat} (h : k ≠ b) : (putMap w b es clock).heap[k]? = w.heap[k]? := by
  simp only [putMap, Array.getElem?_setIfInBounds]; rw [if_neg (by omega)]
theorem putMap_same (w : World) (b : Nat) (es : Array MapEntry) (clock : Nat) (h : b < w.heap.size) : (putMap w b es clock).heap[b]? = some (.map es clock) := by
  simp [putMap, h]
theorem putMap_size (w : World) (b : Nat) (es : Array MapEntry) (clock : Nat) : (putMap w b es clock).heap.size = w.heap.size := by simp [putMap]

/-- 'm[k] = v' at a key that is not there. -/
theorem run_mapUpdate_new {P : Program} {w : World} {mty kt et : TypeId} {d : TypeDesc} {b clock : Nat} {es : Array MapEntry} {key : Value} (hm : P.underlying mty = some (.map kt et)) (hk : P.underlying kt = some d) (hi : MapKept.IsKey d key)
    (hb : w.heap[b]? = some (.map es clock)) (hf : Instr.findNow d key es.toList 0 = some none) (val : Value) :
    (Instr.mapUpdate mty (.map (some b)) key val).run P w = .ok () (putMap w b (es.push { key := key, val := val, born := clock }) (clock + 1)) := by
  have hc : (Instr.checkKey false 10000 kt key).run P w = .ok () w := MapKept.run_checkKey hk hi false 9999
  simp [Instr.mapUpdate, run_underlying hm, MapKept.run_getObj_map hb, hc, MapKept.run_findKey hk hf, MapKept.run_setObj_map _ hb, Result.andThen, putMap]

theorem below_putMap {B : Nat} {a w : World} (h : Below B a w) {b : Nat} (hb : B ≤ b) (es : Array MapEntry) (clock : Nat) : Below B a (putMap w b es clock) :=
  h.trans ⟨rfl, rfl, rfl, by rw [putMap_size]; exact Nat.le_refl _, fun k hk => putMap_other _ _ _ _ (by omega)⟩

end Go.Proofs.YtihbngfbcnojcaaGreat
