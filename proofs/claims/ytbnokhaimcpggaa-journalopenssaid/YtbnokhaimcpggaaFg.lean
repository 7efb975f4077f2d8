/-
  What a call leaves of what may still be done; the falls.
-/
import Derived.Test.YtbnokhaimcpggaaFf
namespace Go.Dk
theorem op_can {s : DS} {m : Nat} (h : s.Can (m + 1)) (hf : s.fset = false) (o : Op) : (s.op o).1.Can m :=
  (h.op o (DS.op_ok (op_free s o hf).1)).2
theorem op_falls {s : DS} (hf : s.fset = false) (o : Op) : (s.op o).1.falls = s.falls := by
  have hb : s.blow = false := by unfold DS.blow; rw [hf]; rfl
  cases o <;> simp [DS.op, hb, DS.put, DS.sync]
theorem run_falls : ∀ (ops : List Op) (s : DS), s.fset = false → (s.run ops).1.falls = s.falls
  | [], _, _ => rfl
  | o :: r, s, h => by
    have h1 := op_free s o h
    simp only [DS.run, andThen, h1.1, if_true]
    rw [run_falls r _ h1.2, op_falls h]
theorem into_can {s : DS} {q : Nat} (h : s.Can (q + 2048)) (hf : s.fset = false) (hn : s.n ≤ 4096) (side p : Nat) (b : List UInt8) : (s.into side p b).1.Can q :=
  run_can _ _ (h.mono (by rw [chunks_len]; have := span_le (n := s.n) (p := p) (e := p + b.length) hn; omega)) (run_free _ _ hf).1
theorem append_can {s : DS} {q : Nat} (h : s.Can (q + 3000)) (hf : s.fset = false) (hn : s.n ≤ 4096) (side p : Nat) (d : List UInt8) : (s.append side p d).1.Can q ∧ (s.append side p d).1.falls = s.falls := by
  have c1 := into_can (q := q + 952) h hf hn side p (unflag d)
  have e1 : (s.into side p (unflag d)).2 = true ∧ (s.into side p (unflag d)).1.fset = false := run_free _ _ hf
  have l1 : (s.into side p (unflag d)).1.falls = s.falls := run_falls _ _ hf
  unfold DS.append
  generalize s.into side p (unflag d) = r1 at *
  have e2 := op_free r1.1 .sy e1.2
  have c2 := op_can (m := q + 951) c1 e1.2 .sy
  have l2 := op_falls e1.2 .sy
  simp only [andThen, e1.1, if_true, e2.1]
  generalize (r1.1.op .sy).1 = s2 at *
  have e3 := op_free s2 (.wr (ablk s2.n side p) ((blk s2.view (ablk s2.n side p)).set (p % 64) 1)) e2.2
  have c3 := op_can (m := q + 950) c2 e2.2 (.wr (ablk s2.n side p) ((blk s2.view (ablk s2.n side p)).set (p % 64) 1))
  have l3 := op_falls e2.2 (.wr (ablk s2.n side p) ((blk s2.view (ablk s2.n side p)).set (p % 64) 1))
  simp only [e3.1, if_true]
  exact ⟨(op_can (m := q + 949) c3 e3.2 .sy).mono (by omega), by rw [op_falls e3.2, l3, l2, l1]⟩
theorem compact_can {s : DS} {q : Nat} (h : s.Can (q + 3000)) (hf : s.fset = false) (hn : s.n ≤ 4096) (H : Hd) (b : List UInt8) : (s.compact H b).1.Can q ∧ (s.compact H b).1.falls = s.falls := by
  have c1 := into_can (q := q + 952) h hf hn H.side 0 b
  have e1 : (s.into H.side 0 b).2 = true ∧ (s.into H.side 0 b).1.fset = false := run_free _ _ hf
  have l1 : (s.into H.side 0 b).1.falls = s.falls := run_falls _ _ hf
  unfold DS.compact DS.layH
  generalize s.into H.side 0 b = r1 at *
  have e2 := op_free r1.1 .sy e1.2
  have c2 := op_can (m := q + 951) c1 e1.2 .sy
  have l2 := op_falls e1.2 .sy
  simp only [andThen, e1.1, if_true, e2.1]
  generalize (r1.1.op .sy).1 = s2 at *
  have e3 := op_free s2 (.wr (H.gen % 2) (H.bytes.set 0 0)) e2.2
  have c3 := op_can (m := q + 950) c2 e2.2 (.wr (H.gen % 2) (H.bytes.set 0 0))
  have l3 := op_falls e2.2 (.wr (H.gen % 2) (H.bytes.set 0 0))
  simp only [e3.1, if_true]
  generalize (s2.op (.wr (H.gen % 2) (H.bytes.set 0 0))).1 = s3 at *
  have e4 := op_free s3 .sy e3.2
  have c4 := op_can (m := q + 949) c3 e3.2 .sy
  have l4 := op_falls e3.2 .sy
  simp only [e4.1, if_true]
  generalize (s3.op .sy).1 = s4 at *
  have e5 := op_free s4 (.wr (H.gen % 2) H.bytes) e4.2
  have c5 := op_can (m := q + 948) c4 e4.2 (.wr (H.gen % 2) H.bytes)
  have l5 := op_falls e4.2 (.wr (H.gen % 2) H.bytes)
  simp only [e5.1, if_true]
  exact ⟨(op_can (m := q + 947) c5 e5.2 .sy).mono (by omega), by rw [op_falls e5.2, l5, l4, l3, l2, l1]⟩
open Go.Proofs.Dk in
theorem formatN_can {s : DS} {q : Nat} (h : s.Can (q + 4000)) (hf : s.fset = false) (hn : s.n ≤ 4096) : (formatN s).Can q ∧ (formatN s).falls = s.falls := by
  have e1 := op_free s (.wr 0 []) hf
  have c1 := op_can (m := q + 3999) h hf (.wr 0 [])
  have l1 := op_falls hf (.wr 0 [])
  have e2 := op_free _ .sy e1.2
  have c2 := op_can (m := q + 3998) c1 e1.2 .sy
  have l2 := op_falls e1.2 .sy
  have n2 : ((s.op (.wr 0 [])).1.op .sy).1.n ≤ 4096 := by rw [DS.op_n, DS.op_n]; exact hn
  unfold formatN
  have := compact_can (q := q + 998) c2 e2.2 n2 (nextH 1 0 []) []
  exact ⟨this.1.mono (by omega), by rw [this.2, l2, l1]⟩
end Go.Dk
