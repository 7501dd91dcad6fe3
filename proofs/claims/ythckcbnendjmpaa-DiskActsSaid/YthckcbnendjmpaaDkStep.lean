/-
  What the calls make of a disk's sizes, plain.
-/
import Derived.Test.YthckcbnendjmpaaDskP
namespace Go.Proofs.Ythckcbnendjmpaa

theorem DS.write_pe (s : DS) (k : Int) (d : List UInt8) : (s.write k d).1.pe.length ≤ s.pe.length + 1 := by
  unfold DS.write
  split
  · simp
  · split
    · simp
    · simp only [DS.thing_pe]; simp [DS.pend]
theorem DS.write_bl (s : DS) (k : Int) (d : List UInt8) : (s.write k d).1.bl = s.bl := by
  unfold DS.write
  split
  · rfl
  · split
    · rfl
    · simp only [DS.thing_bl]; rfl
theorem DS.sync_pe (s : DS) : s.sync.1.pe.length ≤ s.pe.length := by
  unfold DS.sync
  split
  · simp
  · split
    · simp [DS.synced]
    · simp only [DS.thing_pe]; simp
theorem DS.sync_bl (s : DS) : s.sync.1.bl.length = s.bl.length := by
  unfold DS.sync
  split
  · rfl
  · split
    · show (settleN _ _ _ _).length = _
      rw [settleN_length, DS.thing_bl]
    · simp only [DS.thing_bl]
theorem DS.restart_bl (s : DS) (keep : List Nat) : (s.restart keep).bl.length = s.bl.length := by
  show (settleN _ _ _ _).length = _
  rw [settleN_length]
end Go.Proofs.Ythckcbnendjmpaa
