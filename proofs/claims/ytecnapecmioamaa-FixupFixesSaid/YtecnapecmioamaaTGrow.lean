/- What the texts on pages share: what stays when a block grows, an append in a region, where a page's nodes lie. Nothing of the program but its types. -/
import Derived.Test.YtecnapecmioamaaTKeep
import Derived.Test.YtecnapecmioamaaTLink
import Derived.StillTailTactics
namespace Go.Proofs.Ytecnapecmioamaa
open Go.RowKit Go.Shelf
set_option linter.unusedVariables false
attribute [local go_sem] Oper.semAt_some

def kdOf (ns : List Nd) (i : Nat) : Int := (ns[i]?.map Nd.k).getD 0
def KeepR (R : World → Prop) (V W : World) : Prop := V.heap.size ≤ W.heap.size ∧ (R V → R W)
theorem KeepR.trans {R : World → Prop} {U V W : World} (h : KeepR R U V) (k : KeepR R V W) : KeepR R U W := ⟨Nat.le_trans h.1 k.1, fun x => k.2 (h.2 x)⟩
theorem cell_grown {X Y : World} {row : Option Nat} {a : Addr} {v : Value} (hg : X.grownBy Y row) (hr : NoCells X row) (h : X.cell? a = some v) : Y.cell? a = some v := by
  refine hg.cell h fun e => ?_
  obtain ⟨o, ho, hc⟩ := hr a.block e.symm
  unfold World.cell? at h
  rw [ho] at h
  cases o <;> simp_all [Obj.isCells]
theorem Ints.grownN {X Y : World} {row : Option Nat} {v : Value} {zs : List Int} (hg : X.grownBy Y row) (hr : NoCells X row) (h : Ints X v zs) : Ints Y v zs := by
  obtain ⟨h1, h2 | ⟨b, off, cap, e, hc⟩⟩ := h
  · exact ⟨h1, .inl h2⟩
  · exact ⟨h1, .inr ⟨b, off, cap, e, fun j hj => cell_grown hg hr (hc j hj)⟩⟩
theorem wp_append_run {P : Program} {o : Oper} {a : Act} {w X : World} {K : Act → World → Prop} {Q : Exit → Act → World → Prop} (s x : Operand) (t : TypeId) (ho : o.op = .call { callee := .builtin .append, args := #[s, x], argTypes := #[t, t] })
    (v v2 r : Value) (hs : a.eval s = v) (hx : a.eval x = v2) (hr : (Builtin.append_ #[t, t] o.type #[v, v2]).run P w = .ok r X) (h : K (a.put o.dst r) X) : o.wp P a w K Q := by
  unfold Oper.wp execOp
  simp only [ho, resolve, invoke, builtin, Sem.run_bind, Sem.run_pure, Result.andThen_ok, List.map_toArray, List.map_cons, List.map_nil, hs, hx, hr]
  exact h
theorem region_still_tailF {P : Program} {id : Nat} {Q : Exit → Act → World → Prop} {a : Act} {w : World} {l : List Oper} (n : Nat) (hm : P.follows .mixedOrders = true) (hB : Region.lexTailB .any l.toArray n = true)
    (h : ∀ w2 : World, w.drew = w2 → wpStill P l.toArray w2 (fun a' => wpList P l.toArray Q (l.drop n) a' w2) (l.take n) a) : (Code.region id l.toArray true).wp P Q a w :=
  wp_region_still_tail n hm hB (h _ rfl)
theorem page_cells {W : World} {q : Option Addr} {m c : Nat} {ns : List Nd} (h : PageAt W (.slice q m c) ns) (hm : 1 ≤ m) : ∃ b off, q = some ⟨b, off, none⟩ ∧ ns.length = m ∧ ∀ i n, ns[i]? = some n → W.cell? ⟨b, off + i * 34, none⟩ = some (.int .i64 n.k) ∧ W.cell? ⟨b, off + i * 34 + 1, none⟩ = some n.kv ∧ Ints W n.kv n.ks ∧ b < W.heap.size := by
  obtain ⟨_, h2, ⟨a, cap, e, rfl⟩ | ⟨b, off, cap, e, hc⟩⟩ := h
  · injection e with _ e; omega
  · injection e with e1 e2 e3
    refine ⟨b, off, e1, e2.symm, fun i n hn => ?_⟩
    have h0 := hc i n hn 0 _ n.c0
    have h1 := hc i n hn 1 _ n.c1
    exact ⟨h0, h1, (h2 n (List.mem_iff_getElem?.2 ⟨i, hn⟩)).1, cell_lt h1⟩
end Go.Proofs.Ytecnapecmioamaa
