/-
  CONTRACT OF postilionref03.Wrap.
-/
import Derived.Test.YtpilgbiedbhpeaaFr
import Derived.Laws.OwnMore
namespace Go.Proofs.Ytpilgbiedbhpeaa
open Go.RowKit
set_option linter.unusedVariables false
namespace PM
/-- append onto a literal that was just laid -/
theorem wpList_appm {P : Program} {w : World} {ops : Array Oper} {rest : List Oper} {o : Oper} {a : Act} {Q : Exit → Act → World → Prop} {T E : TypeId} (BT : ByteTy P T E) (B : Nat) (W : World) (hgd : o.guard = none) (s x : Operand)
    (ho : o.op = .call { callee := .builtin .append, args := #[s, x], argTypes := #[T, T] })
    (xv : Value) (m l : List UInt8) (cs : Array Value) (n : Nat) (hs : a.eval s = .slice (Option.some ⟨W.heap.size, 0, Option.none⟩) n n) (hx : a.eval x = xv) (hw : w = W.alloc (.cells cs E)) (hn : m.length = n) (hc : cs = (m.map bv).toArray)
    (hb : BS W xv l) (hl : n + l.length ≤ 140737488355328) (hB : B ≤ W.heap.size)
    (h : ∀ v' w', OW E B w' v' (m ++ l) → Below B W w' → wpList P ops Q rest (a.put o.dst v') w') : wpList P ops Q (o :: rest) a w := by
  subst hn
  subst hc
  subst hw
  have hb0 : Below W.heap.size W (W.alloc (.cells (m.map bv).toArray E)) := (Below.refl _ _).alloc (Nat.le_refl _) _
  have ho1 : OW E B (W.alloc (.cells (m.map bv).toArray E)) (.slice (Option.some ⟨W.heap.size, 0, Option.none⟩) m.length m.length) m :=
    World.ownsRow_lit W (m.map bv).toArray m.length hB (by unfold maxLen; omega) (by simp)
  exact wpList_app BT B hgd s x ho _ _ m l hs hx ho1 (hb.keep hb0) hl (Nat.le_trans hB hb0.size) fun v' w' h1 h2 _ => h v' w' h1 ((hb0.mono hB).trans h2)
theorem be2 (n : Nat) : be n 2 = [UInt8.ofNat (n / 2 ^ 8), UInt8.ofNat (n / 2 ^ 0)] := rfl
theorem be4 (n : Nat) : be n 4 = [UInt8.ofNat (n / 2 ^ 24), UInt8.ofNat (n / 2 ^ 16), UInt8.ofNat (n / 2 ^ 8), UInt8.ofNat (n / 2 ^ 0)] := rfl
end PM
theorem RWrap_any (v : Value) (l : List UInt8) (w : World) (hv : PM.BS w v l) (h1 : 0 < l.length) (h2 : l.length ≤ 4000) :
    Calls Try.prog 11 #[v] w fun e w' => ∃ o, e = .returned (.tuple #[o, .int .i64 0]) ∧ PM.OW 5 w.heap.size w' o (PM.wrapL l) ∧ Below w.heap.size w w' := by
  have hS := RSum_any v l w hv
  obtain ⟨a, c, rfl⟩ := hv.len
  obtain ⟨L, hL⟩ : ∃ L, L = l.length := ⟨_, rfl⟩
  obtain ⟨C, hC⟩ : ∃ C, C = PM.crc l := ⟨_, rfl⟩
  have hcl := PM.crc_lt l
  rw [← hC] at hcl hS
  have hvh := PM.hid hv
  rw [← hL] at h1 h2 hS hvh ⊢
  have hLh := PM.hid hL
  have hCh := PM.hid hC
  clear hL hv hC
  have h0 : ((L : Int) == 0) = false := beq_eq_false_iff_ne.2 (by omega)
  have h3 : ¬ (4000 : Int) < (L : Int) := by omega
  go_enter Try.func11, Try.ntmps11
  go_wp2_with fail
  refine hS.mono ?_
  rintro e w1 ⟨rfl, rfl⟩
  have hsl := hvh.out
  go_wp2_with (at_builtin; refine PM.wpList_appm bty w1.heap.size w1 rfl _ _ rfl _ (PM.be L 2 ++ PM.be C 4) l _ 6 rfl rfl rfl rfl ?_ hsl ?_ (Nat.le_refl _) ?_)
  · rw [PM.be2, PM.be4]
    simp only [List.cons_append, List.nil_append, List.map_cons, List.map_nil, PM.bv, PM.u8_nat]
    rw [show (L : Int) / 256 = ((L / 2 ^ 8 % 256 : Nat) : Int) by omega, show (L : Int) % 256 = ((L / 2 ^ 0 % 256 : Nat) : Int) by omega, show (C : Int) / 16777216 = ((C / 2 ^ 24 % 256 : Nat) : Int) by omega, show (C : Int) / 65536 % 256 = ((C / 2 ^ 16 % 256 : Nat) : Int) by omega, show (C : Int) / 256 % 256 = ((C / 2 ^ 8 % 256 : Nat) : Int) by omega, show (C : Int) % 256 = ((C / 2 ^ 0 % 256 : Nat) : Int) by omega]
  · rw [← hLh.out]; omega
  intro v2 w2 t1 t2
  obtain ⟨ya, yc, hy⟩ : ∃ ya yc, v2 = .slice ya (6 + L) yc := by obtain ⟨ya, yc, e⟩ := t1.bs.len; exact ⟨ya, yc, by rw [e, hLh.out]; simp [PM.be_length]; omega⟩
  subst hy
  have hE := PM.hid (And.intro t1 t2)
  clear t1 t2 hsl hS
  go_wp2
  go_ret2
  refine ⟨_, rfl, ?_, hE.out.2⟩
  have := hE.out.1
  rw [PM.wrapL, ← hLh.out, ← hCh.out]
  exact this
end Go.Proofs.Ytpilgbiedbhpeaa
